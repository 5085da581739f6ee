/- What a cycle is for, over the translation. -/
import Derived.Test.YtdkibohpdkdooaaGreatDoorCpRz
import Derived.Test.YtdkibohpdkdooaaGreatDoorCpB
namespace Go.Proofs.YtdkibohpdkdooaaGreatDoor
open Go.RowKit
set_option linter.unusedVariables false
def atF (k : Nat) : Nat := [29, 29, 31, 32, 33, 34, 35, 36, 37, 38, 39, 40, 33, 34, 35, 36, 37, 38, 35, 35, 35, 35, 38, 47, 49, 51, 49, 51, 51].getD k 0
def dataF (k : Nat) : Nat := [30, 30, 30, 30, 30, 30, 30, 30, 30, 30, 30, 30, 41, 41, 41, 41, 41, 41, 42, 43, 44, 45, 46, 48, 50, 52, 53, 54, 54].getD k 0
set_option maxRecDepth 100000 in
theorem wants_any (k : Nat) (w : World) (hk : k ≤ 28) :
    Calls Tryz.prog 23 #[.int .u8 k] w fun e w' => e = .returned (.int .i64 (wantsK k)) ∧ ∃ n, w' = w.drewN n := by
  unfold wantsK
  obtain ⟨T, hT⟩ : ∃ T : Int, T = if 12 ≤ k then 2 else if 2 ≤ k then 1 else 0 := ⟨_, rfl⟩
  rw [← hT]
  have HT : Hid (T = if 12 ≤ k then 2 else if 2 ≤ k then 1 else 0) := hT
  clear hT
  go_enter Tryz.func23, Tryz.ntmps23
  go_wp2
  all_goals
    go_ret
    refine ⟨ret1 ?_, 0, rfl⟩
    rw [HT.out]
    (repeat' split) <;> omega
def actCells : Array Value := #[.func (.func 29) #[] #[], .func (.func 30) #[] #[], .func (.func 29) #[] #[], .func (.func 30) #[] #[], .func (.func 31) #[] #[], .func (.func 30) #[] #[], .func (.func 32) #[] #[], .func (.func 30) #[] #[], .func (.func 33) #[] #[], .func (.func 30) #[] #[], .func (.func 34) #[] #[], .func (.func 30) #[] #[], .func (.func 35) #[] #[], .func (.func 30) #[] #[], .func (.func 36) #[] #[], .func (.func 30) #[] #[], .func (.func 37) #[] #[], .func (.func 30) #[] #[], .func (.func 38) #[] #[], .func (.func 30) #[] #[], .func (.func 39) #[] #[], .func (.func 30) #[] #[], .func (.func 40) #[] #[], .func (.func 30) #[] #[], .func (.func 33) #[] #[], .func (.func 41) #[] #[], .func (.func 34) #[] #[], .func (.func 41) #[] #[], .func (.func 35) #[] #[], .func (.func 41) #[] #[], .func (.func 36) #[] #[], .func (.func 41) #[] #[], .func (.func 37) #[] #[], .func (.func 41) #[] #[], .func (.func 38) #[] #[], .func (.func 41) #[] #[], .func (.func 35) #[] #[], .func (.func 42) #[] #[], .func (.func 35) #[] #[], .func (.func 43) #[] #[], .func (.func 35) #[] #[], .func (.func 44) #[] #[], .func (.func 35) #[] #[], .func (.func 45) #[] #[], .func (.func 38) #[] #[], .func (.func 46) #[] #[], .func (.func 47) #[] #[], .func (.func 48) #[] #[], .func (.func 49) #[] #[], .func (.func 50) #[] #[], .func (.func 51) #[] #[], .func (.func 52) #[] #[], .func (.func 49) #[] #[], .func (.func 53) #[] #[], .func (.func 51) #[] #[], .func (.func 54) #[] #[], .func (.func 51) #[] #[], .func (.func 54) #[] #[]]
theorem cases29 {k : Nat} (h : k ≤ 28) : k = 0 ∨ k = 1 ∨ k = 2 ∨ k = 3 ∨ k = 4 ∨ k = 5 ∨ k = 6 ∨ k = 7 ∨ k = 8 ∨ k = 9 ∨ k = 10 ∨ k = 11 ∨ k = 12 ∨ k = 13 ∨ k = 14 ∨ k = 15 ∨ k = 16 ∨ k = 17 ∨ k = 18 ∨ k = 19 ∨ k = 20 ∨ k = 21 ∨ k = 22 ∨ k = 23 ∨ k = 24 ∨ k = 25 ∨ k = 26 ∨ k = 27 ∨ k = 28 := by omega
theorem actCells_at (k : Nat) (hk : k ≤ 28) : actCells[k * 2]? = some (.func (.func (atF k)) #[] #[]) := by
  rcases cases29 hk with rfl | rfl | rfl | rfl | rfl | rfl | rfl | rfl | rfl | rfl | rfl | rfl | rfl | rfl | rfl | rfl | rfl | rfl | rfl | rfl | rfl | rfl | rfl | rfl | rfl | rfl | rfl | rfl | rfl <;> rfl
theorem actCells_data (k : Nat) (hk : k ≤ 28) : actCells[k * 2 + 1]? = some (.func (.func (dataF k)) #[] #[]) := by
  rcases cases29 hk with rfl | rfl | rfl | rfl | rfl | rfl | rfl | rfl | rfl | rfl | rfl | rfl | rfl | rfl | rfl | rfl | rfl | rfl | rfl | rfl | rfl | rfl | rfl | rfl | rfl | rfl | rfl | rfl | rfl <;> rfl
set_option maxRecDepth 100000 in
set_option maxHeartbeats 1000000 in
theorem actOf_any (k : Nat) (w : World) (hk : k ≤ 28) :
    Calls Tryz.prog 22 #[.int .u8 k] w fun e w' => e = .returned (.agg #[.func (.func (atF k)) #[] #[], .func (.func (dataF k)) #[] #[]]) ∧ Up w w' := by
  have hk0 : (0 : Int) ≤ (k : Int) := by omega
  have hk1 : (k : Int) < 29 := by omega
  have HK : Hid (k ≤ 28) := hk
  have HN : Hid (∀ o p, ((w.alloc o).alloc p).heap[w.heap.size + 1]? = some p) := fun o p => by
    have := heap_alloc_new (w.alloc o) p
    simpa using this
  have HW : Hid (∀ W o old, ((w.alloc o).alloc (.cells old 83)).setRow (w.heap.size + 1) actCells = W → W.heap[w.heap.size + 1]? = some (.cells actCells 83 (0, 0)) ∧ W.heap[w.heap.size]? = some o ∧ Up w W) := by
    rintro W o old rfl
    refine ⟨setRow_heap _ _ _ _ _ _ (HN.out _ _), ?_, (((Up.refl w).alloc _).alloc _).setRow (by omega) _⟩
    rw [setRow_other _ _ _ _ (by omega), Below.heap_alloc _ _ _ (by simp), heap_alloc_new]
  clear hk
  go_enter Tryz.func22, Tryz.ntmps22
  go_wp2_with (first
    | (refine wpList_store_rowTo rfl 83 _ _ rfl rfl (w.heap.size + 1) actCells rfl rfl 83 _ (HN.out _ _) (by kernel_rfl) (by kernel_rfl) (by decide +kernel) ?_
       generalize hW : World.setRow _ _ _ = W
       obtain ⟨hA, hO, hU⟩ := HW.out _ _ _ hW
       clear hW
       have kA : W.cell? ⟨w.heap.size + 1, k * 2, none⟩ = some (.func (.func (atF k)) #[] #[]) := by rw [cell_of_row _ _ _ _ _ _ hA]; exact actCells_at k HK.out
       have kD : W.cell? ⟨w.heap.size + 1, k * 2 + 1, none⟩ = some (.func (.func (dataF k)) #[] #[]) := by rw [cell_of_row _ _ _ _ _ _ hA]; exact actCells_data k HK.out
       have HO : Hid (W.heap[w.heap.size]? = _) := hO
       have HU : Hid (Up w W) := hU
       clear hA hO hU)
    | (refine wpList_store_rowTo rfl 66 _ _ rfl rfl w.heap.size #[.func (.func (atF k)) #[] #[], .func (.func (dataF k)) #[] #[]] rfl rfl 66 _ HO.out (by kernel_rfl) rfl (by simp [Value.oneCell']) ?_))
  refine bodyPost_ret (v := .agg _) (results_row Tryz.results22 _ _ _ 66 _ (0, 0) _ rfl (setRow_heap _ _ _ _ _ _ HO.out) Tryz.underlying66 rfl (by kernel_rfl)) rfl ⟨rfl, HU.out.setRow (Nat.le_refl _) _⟩
end Go.Proofs.YtdkibohpdkdooaaGreatDoor
