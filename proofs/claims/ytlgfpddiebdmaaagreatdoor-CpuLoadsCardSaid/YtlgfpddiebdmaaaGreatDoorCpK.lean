/- What a cycle is for, over the translation. -/
import Derived.Test.YtlgfpddiebdmaaaGreatDoorCpRz
import Derived.Test.YtlgfpddiebdmaaaGreatDoorCpB
namespace Go.Proofs.YtlgfpddiebdmaaaGreatDoor
open Go.RowKit
set_option linter.unusedVariables false
def atF (k : Nat) : Nat := [59, 59, 61, 62, 63, 64, 65, 66, 67, 68, 69, 70, 63, 64, 65, 66, 67, 68, 65, 65, 65, 65, 68, 77, 79, 81, 79, 81, 81].getD k 0
def dataF (k : Nat) : Nat := [60, 60, 60, 60, 60, 60, 60, 60, 60, 60, 60, 60, 71, 71, 71, 71, 71, 71, 72, 73, 74, 75, 76, 78, 80, 82, 83, 84, 84].getD k 0
set_option maxRecDepth 100000 in
theorem wants_any (k : Nat) (w : World) (hk : k ≤ 28) :
    Calls Tryz.prog 41 #[.int .u8 k] w fun e w' => e = .returned (.int .i64 (wantsK k)) ∧ ∃ n, w' = w.drewN n := by
  unfold wantsK
  obtain ⟨T, hT⟩ : ∃ T : Int, T = if 12 ≤ k then 2 else if 2 ≤ k then 1 else 0 := ⟨_, rfl⟩
  rw [← hT]
  have HT : Hid (T = if 12 ≤ k then 2 else if 2 ≤ k then 1 else 0) := hT
  clear hT
  go_enter Tryz.func41, Tryz.ntmps41
  go_wp2
  all_goals
    go_ret
    refine ⟨ret1 ?_, 0, rfl⟩
    rw [HT.out]
    (repeat' split) <;> omega
def actCells : Array Value := #[.func (.func 59) #[] #[], .func (.func 60) #[] #[], .func (.func 59) #[] #[], .func (.func 60) #[] #[], .func (.func 61) #[] #[], .func (.func 60) #[] #[], .func (.func 62) #[] #[], .func (.func 60) #[] #[], .func (.func 63) #[] #[], .func (.func 60) #[] #[], .func (.func 64) #[] #[], .func (.func 60) #[] #[], .func (.func 65) #[] #[], .func (.func 60) #[] #[], .func (.func 66) #[] #[], .func (.func 60) #[] #[], .func (.func 67) #[] #[], .func (.func 60) #[] #[], .func (.func 68) #[] #[], .func (.func 60) #[] #[], .func (.func 69) #[] #[], .func (.func 60) #[] #[], .func (.func 70) #[] #[], .func (.func 60) #[] #[], .func (.func 63) #[] #[], .func (.func 71) #[] #[], .func (.func 64) #[] #[], .func (.func 71) #[] #[], .func (.func 65) #[] #[], .func (.func 71) #[] #[], .func (.func 66) #[] #[], .func (.func 71) #[] #[], .func (.func 67) #[] #[], .func (.func 71) #[] #[], .func (.func 68) #[] #[], .func (.func 71) #[] #[], .func (.func 65) #[] #[], .func (.func 72) #[] #[], .func (.func 65) #[] #[], .func (.func 73) #[] #[], .func (.func 65) #[] #[], .func (.func 74) #[] #[], .func (.func 65) #[] #[], .func (.func 75) #[] #[], .func (.func 68) #[] #[], .func (.func 76) #[] #[], .func (.func 77) #[] #[], .func (.func 78) #[] #[], .func (.func 79) #[] #[], .func (.func 80) #[] #[], .func (.func 81) #[] #[], .func (.func 82) #[] #[], .func (.func 79) #[] #[], .func (.func 83) #[] #[], .func (.func 81) #[] #[], .func (.func 84) #[] #[], .func (.func 81) #[] #[], .func (.func 84) #[] #[]]
theorem cases29 {k : Nat} (h : k ≤ 28) : k = 0 ∨ k = 1 ∨ k = 2 ∨ k = 3 ∨ k = 4 ∨ k = 5 ∨ k = 6 ∨ k = 7 ∨ k = 8 ∨ k = 9 ∨ k = 10 ∨ k = 11 ∨ k = 12 ∨ k = 13 ∨ k = 14 ∨ k = 15 ∨ k = 16 ∨ k = 17 ∨ k = 18 ∨ k = 19 ∨ k = 20 ∨ k = 21 ∨ k = 22 ∨ k = 23 ∨ k = 24 ∨ k = 25 ∨ k = 26 ∨ k = 27 ∨ k = 28 := by omega
theorem actCells_at (k : Nat) (hk : k ≤ 28) : actCells[k * 2]? = some (.func (.func (atF k)) #[] #[]) := by
  rcases cases29 hk with rfl | rfl | rfl | rfl | rfl | rfl | rfl | rfl | rfl | rfl | rfl | rfl | rfl | rfl | rfl | rfl | rfl | rfl | rfl | rfl | rfl | rfl | rfl | rfl | rfl | rfl | rfl | rfl | rfl <;> rfl
theorem actCells_data (k : Nat) (hk : k ≤ 28) : actCells[k * 2 + 1]? = some (.func (.func (dataF k)) #[] #[]) := by
  rcases cases29 hk with rfl | rfl | rfl | rfl | rfl | rfl | rfl | rfl | rfl | rfl | rfl | rfl | rfl | rfl | rfl | rfl | rfl | rfl | rfl | rfl | rfl | rfl | rfl | rfl | rfl | rfl | rfl | rfl | rfl <;> rfl
set_option maxRecDepth 100000 in
set_option maxHeartbeats 1000000 in
theorem actOf_any (k : Nat) (w : World) (hk : k ≤ 28) :
    Calls Tryz.prog 40 #[.int .u8 k] w fun e w' => e = .returned (.agg #[.func (.func (atF k)) #[] #[], .func (.func (dataF k)) #[] #[]]) ∧ Up w w' := by
  have hk0 : (0 : Int) ≤ (k : Int) := by omega
  have hk1 : (k : Int) < 29 := by omega
  have HK : Hid (k ≤ 28) := hk
  have HN : Hid (∀ o p, ((w.alloc o).alloc p).heap[w.heap.size + 1]? = some p) := fun o p => by
    have := heap_alloc_new (w.alloc o) p
    simpa using this
  have HW : Hid (∀ W o old, ((w.alloc o).alloc (.cells old 104)).setRow (w.heap.size + 1) actCells = W → W.heap[w.heap.size + 1]? = some (.cells actCells 104 (0, 0)) ∧ W.heap[w.heap.size]? = some o ∧ Up w W) := by
    rintro W o old rfl
    refine ⟨setRow_heap _ _ _ _ _ _ (HN.out _ _), ?_, (((Up.refl w).alloc _).alloc _).setRow (by omega) _⟩
    rw [setRow_other _ _ _ _ (by omega), Below.heap_alloc _ _ _ (by simp), heap_alloc_new]
  clear hk
  go_enter Tryz.func40, Tryz.ntmps40
  go_wp2_with (first
    | (refine wpList_store_rowTo rfl 104 _ _ rfl rfl (w.heap.size + 1) actCells rfl rfl 104 _ (HN.out _ _) (by kernel_rfl) (by kernel_rfl) (by decide +kernel) ?_
       generalize hW : World.setRow _ _ _ = W
       obtain ⟨hA, hO, hU⟩ := HW.out _ _ _ hW
       clear hW
       have kA : W.cell? ⟨w.heap.size + 1, k * 2, none⟩ = some (.func (.func (atF k)) #[] #[]) := by rw [cell_of_row _ _ _ _ _ _ hA]; exact actCells_at k HK.out
       have kD : W.cell? ⟨w.heap.size + 1, k * 2 + 1, none⟩ = some (.func (.func (dataF k)) #[] #[]) := by rw [cell_of_row _ _ _ _ _ _ hA]; exact actCells_data k HK.out
       have HO : Hid (W.heap[w.heap.size]? = _) := hO
       have HU : Hid (Up w W) := hU
       clear hA hO hU)
    | (refine wpList_store_rowTo rfl 90 _ _ rfl rfl w.heap.size #[.func (.func (atF k)) #[] #[], .func (.func (dataF k)) #[] #[]] rfl rfl 90 _ HO.out (by kernel_rfl) rfl (by simp [Value.oneCell']) ?_))
  refine bodyPost_ret (v := .agg _) (results_row Tryz.results40 _ _ _ 90 _ (0, 0) _ rfl (setRow_heap _ _ _ _ _ _ HO.out) Tryz.underlying90 rfl (by kernel_rfl)) rfl ⟨rfl, HU.out.setRow (Nat.le_refl _) _⟩
end Go.Proofs.YtlgfpddiebdmaaaGreatDoor
