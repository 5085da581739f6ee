/- Whether a row is over, and what lies behind an instruction, over the translation. -/
import Derived.Test.YtdkibohpdkdooaaGreatDoorCpO
namespace Go.Proofs.YtdkibohpdkdooaaGreatDoor
open Go.RowKit
set_option linter.unusedVariables false
/-- what holds of every row -/
def Row.fine (r : Row) : Bool := decide (r.sure ≤ 2) && decide (r.a0 ≤ 28) && decide (r.a1 ≤ 28) && decide (r.a2 ≤ 28) && decide (r.a3 ≤ 28) && decide (r.a4 ≤ 28) && decide (r.a5 = 0) && decide (r.d ≤ 32) && !(decide (2 ≤ r.a3) && decide (r.a3 < 12)) && !(decide (2 ≤ r.a4) && decide (r.a4 < 12))
  && r.a0 != 2 && r.a1 != 2 && r.a2 != 2 && r.a0 != 28 && r.a1 != 28 && r.a2 != 28
theorem getD_fine (l : List Row) (h : l.all Row.fine = true) (k : Nat) : (l.getD k noRow).fine = true := by
  rw [List.getD_eq_getElem?_getD]
  cases hk : l[k]? with
  | none => rfl
  | some r => exact List.all_eq_true.1 h r (List.mem_of_getElem? hk)
theorem codeRow_fine (c : Int) : (codeRow c).fine = true := by
  unfold codeRow
  split
  · unfold lowP
    repeat' split
    · exact getD_fine _ (by decide) _
    · exact getD_fine _ (by decide) _
    · exact getD_fine _ (by decide) _
    · exact getD_fine _ (by decide) _
    · unfold byteP; repeat' split
      all_goals decide
  split
  · unfold moveP; repeat' split
    all_goals decide
  split
  · unfold sumP; repeat' split
    all_goals decide
  · unfold highP
    repeat' split
    · exact getD_fine _ (by decide) _
    · exact getD_fine _ (by decide) _
    · exact getD_fine _ (by decide) _
    · exact getD_fine _ (by decide) _
    · unfold callP; repeat' split
      all_goals decide
theorem secondP_fine (c : Int) : (secondP c).fine = true := by unfold secondP; (repeat' split) <;> decide
theorem row_sure (s : St) : s.row.sure ≤ 2 := by
  unfold St.row
  split
  · decide
  split
  · have := secondP_fine (s.rd 0); simp [Row.fine] at this; omega
  · have := codeRow_fine s.code; simp [Row.fine] at this; omega
theorem row_d (s : St) : s.row.d ≤ 32 := by
  unfold St.row
  split
  · decide
  split
  · have := secondP_fine (s.rd 0); simp [Row.fine] at this; omega
  · have := codeRow_fine s.code; simp [Row.fine] at this; omega
theorem row_act28 (s : St) (i : Int) : s.row.act i ≤ 28 := by
  have h : s.row.a0 ≤ 28 ∧ s.row.a1 ≤ 28 ∧ s.row.a2 ≤ 28 ∧ s.row.a3 ≤ 28 ∧ s.row.a4 ≤ 28 ∧ s.row.a5 = 0 := by
    unfold St.row
    split
    · decide
    split
    · have := secondP_fine (s.rd 0); simp [Row.fine] at this; omega
    · have := codeRow_fine s.code; simp [Row.fine] at this; omega
  unfold Row.act
  repeat' split
  all_goals omega
theorem next28 (s : St) : s.next ≤ 28 := by
  unfold St.next
  split
  · decide
  split
  · decide
  · exact row_act28 s _
theorem cases6 {y : Int} (h0 : 0 ≤ y) (h1 : y ≤ 5) : y = 0 ∨ y = 1 ∨ y = 2 ∨ y = 3 ∨ y = 4 ∨ y = 5 := by omega
theorem rowBlock {W : World} {g : Nat} (r : Row) (hg : W.heap[g]? = some (.cells r.cells 75 (0, 0))) : W.cell? ⟨g, 0, none⟩ = some (.int .u8 r.a0) ∧ W.cell? ⟨g, 1, none⟩ = some (.int .u8 r.a1) ∧ W.cell? ⟨g, 2, none⟩ = some (.int .u8 r.a2) ∧ W.cell? ⟨g, 3, none⟩ = some (.int .u8 r.a3) ∧ W.cell? ⟨g, 4, none⟩ = some (.int .u8 r.a4) ∧ W.cell? ⟨g, 5, none⟩ = some (.int .u8 r.a5) ∧ W.cell? ⟨g, 6, none⟩ = some (.int .u8 r.sure) ∧ W.cell? ⟨g, 7, none⟩ = some (.func (.func (doesF r.d)) #[] #[]) := by
  refine ⟨?_, ?_, ?_, ?_, ?_, ?_, ?_, ?_⟩
  all_goals (rw [cell_of_row _ _ _ _ _ _ hg]; rfl)
set_option maxRecDepth 100000 in
set_option maxHeartbeats 1000000 in
theorem over_0A (r : Row) (b : Nat) (s : St) (w : World) (h : Cp w b s) (o : s.Ok) (hr : r.sure ≤ 2) (hd : s.done = 0) (e0 : ((r.a0 : Int) == 0) = true) :
    Calls Tryz.prog 27 #[.pointer (some ⟨b, 0, none⟩), .agg r.cells] w fun e w' => e = .returned (.bool true) ∧ Up w w' := by
  have HT : Hid (∀ W, Cp W b s → Calls Tryz.prog 64 #[.pointer (some ⟨b, 0, none⟩), .agg #[.int .u8 r.a0, .int .u8 r.a1, .int .u8 r.a2, .int .u8 r.a3, .int .u8 r.a4, .int .u8 r.a5, .int .u8 r.sure, .func (.func (doesF r.d)) #[] #[]]] W fun e w' => e = .returned (.bool (s.takes r)) ∧ Up W w') := fun W hW => takes_any r b s W hW o hr
  have w0 : IntKind.u8.wrap 0 = 0 := rfl
  generalize s.takes r = T at HT
  go_enter Tryz.func27, Tryz.ntmps27
  go_wp2_with fail
  generalize hW : World.alloc w _ = W
  have hg : W.heap[w.heap.size]? = some (.cells r.cells 75 (0, 0)) := by rw [← hW]; exact heap_alloc_new w _
  have hlt : w.heap.size < W.heap.size := (Array.getElem?_eq_some_iff.1 hg).1
  have u0 : Up w W := by rw [← hW]; exact (Up.refl w).alloc _
  have h0 := h.up u0
  have k16 : W.cell? ⟨b, 16, none⟩ = some (.int .u8 0) := by have := h0.cell 16; rw [this]; show some (Value.int .u8 s.done) = _; rw [hd]
  have KK := rowBlock r hg
  have HU : Hid (Up w W) := u0
  have HM : Hid (∀ w2, Up W w2 → w2.cell? ⟨b, 16, none⟩ = some (.int .u8 0) ∧ w2.cell? ⟨w.heap.size, 0, none⟩ = some (.int .u8 r.a0) ∧ w2.cell? ⟨w.heap.size, 1, none⟩ = some (.int .u8 r.a1) ∧ w2.cell? ⟨w.heap.size, 2, none⟩ = some (.int .u8 r.a2) ∧ w2.cell? ⟨w.heap.size, 3, none⟩ = some (.int .u8 r.a3) ∧ w2.cell? ⟨w.heap.size, 4, none⟩ = some (.int .u8 r.a4) ∧ w2.cell? ⟨w.heap.size, 5, none⟩ = some (.int .u8 r.a5) ∧ w2.cell? ⟨w.heap.size, 6, none⟩ = some (.int .u8 r.sure) ∧ w2.cell? ⟨w.heap.size, 7, none⟩ = some (.func (.func (doesF r.d)) #[] #[])) := fun w2 hu => by
    have hg2 : w2.heap[w.heap.size]? = some (.cells r.cells 75 (0, 0)) := (hu.block _ hlt).trans hg
    refine ⟨?_, rowBlock r hg2⟩
    have := (h0.up hu).cell 16
    rw [this]; show some (Value.int .u8 s.done) = _; rw [hd]
  clear hW hg hd h u0
  obtain ⟨q0, q1, q2, q3, q4, q5, q6, q7⟩ := KK
  go_quiet (fail)
  go_wp2
  go_ret
  exact ⟨rfl, HU.out.trans (by first | exact Up.drewN W _ | exact (Up.refl W).drew | exact Up.refl W)⟩
set_option maxRecDepth 100000 in
set_option maxHeartbeats 1000000 in
theorem over_0B (r : Row) (b : Nat) (s : St) (w : World) (h : Cp w b s) (o : s.Ok) (hr : r.sure ≤ 2) (hd : s.done = 0) (e0 : ((r.a0 : Int) == 0) = false) (e1 : ((0 : Int) == (r.sure : Int)) = false) :
    Calls Tryz.prog 27 #[.pointer (some ⟨b, 0, none⟩), .agg r.cells] w fun e w' => e = .returned (.bool false) ∧ Up w w' := by
  have HT : Hid (∀ W, Cp W b s → Calls Tryz.prog 64 #[.pointer (some ⟨b, 0, none⟩), .agg #[.int .u8 r.a0, .int .u8 r.a1, .int .u8 r.a2, .int .u8 r.a3, .int .u8 r.a4, .int .u8 r.a5, .int .u8 r.sure, .func (.func (doesF r.d)) #[] #[]]] W fun e w' => e = .returned (.bool (s.takes r)) ∧ Up W w') := fun W hW => takes_any r b s W hW o hr
  have w0 : IntKind.u8.wrap 0 = 0 := rfl
  generalize s.takes r = T at HT
  go_enter Tryz.func27, Tryz.ntmps27
  go_wp2_with fail
  generalize hW : World.alloc w _ = W
  have hg : W.heap[w.heap.size]? = some (.cells r.cells 75 (0, 0)) := by rw [← hW]; exact heap_alloc_new w _
  have hlt : w.heap.size < W.heap.size := (Array.getElem?_eq_some_iff.1 hg).1
  have u0 : Up w W := by rw [← hW]; exact (Up.refl w).alloc _
  have h0 := h.up u0
  have k16 : W.cell? ⟨b, 16, none⟩ = some (.int .u8 0) := by have := h0.cell 16; rw [this]; show some (Value.int .u8 s.done) = _; rw [hd]
  have KK := rowBlock r hg
  have HU : Hid (Up w W) := u0
  have HM : Hid (∀ w2, Up W w2 → w2.cell? ⟨b, 16, none⟩ = some (.int .u8 0) ∧ w2.cell? ⟨w.heap.size, 0, none⟩ = some (.int .u8 r.a0) ∧ w2.cell? ⟨w.heap.size, 1, none⟩ = some (.int .u8 r.a1) ∧ w2.cell? ⟨w.heap.size, 2, none⟩ = some (.int .u8 r.a2) ∧ w2.cell? ⟨w.heap.size, 3, none⟩ = some (.int .u8 r.a3) ∧ w2.cell? ⟨w.heap.size, 4, none⟩ = some (.int .u8 r.a4) ∧ w2.cell? ⟨w.heap.size, 5, none⟩ = some (.int .u8 r.a5) ∧ w2.cell? ⟨w.heap.size, 6, none⟩ = some (.int .u8 r.sure) ∧ w2.cell? ⟨w.heap.size, 7, none⟩ = some (.func (.func (doesF r.d)) #[] #[])) := fun w2 hu => by
    have hg2 : w2.heap[w.heap.size]? = some (.cells r.cells 75 (0, 0)) := (hu.block _ hlt).trans hg
    refine ⟨?_, rowBlock r hg2⟩
    have := (h0.up hu).cell 16
    rw [this]; show some (Value.int .u8 s.done) = _; rw [hd]
  clear hW hg hd h u0
  obtain ⟨q0, q1, q2, q3, q4, q5, q6, q7⟩ := KK
  go_quiet (fail)
  go_wp2
  go_ret
  exact ⟨rfl, HU.out.trans (by first | exact Up.drewN W _ | exact (Up.refl W).drew | exact Up.refl W)⟩
set_option maxRecDepth 100000 in
set_option maxHeartbeats 1000000 in
theorem over_0C (r : Row) (b : Nat) (s : St) (w : World) (h : Cp w b s) (o : s.Ok) (hr : r.sure ≤ 2) (hd : s.done = 0) (e0 : ((r.a0 : Int) == 0) = false) (e1 : ((0 : Int) == (r.sure : Int)) = true) :
    Calls Tryz.prog 27 #[.pointer (some ⟨b, 0, none⟩), .agg r.cells] w fun e w' => e = .returned (.bool (!s.takes r)) ∧ Up w w' := by
  have HT : Hid (∀ W, Cp W b s → Calls Tryz.prog 64 #[.pointer (some ⟨b, 0, none⟩), .agg #[.int .u8 r.a0, .int .u8 r.a1, .int .u8 r.a2, .int .u8 r.a3, .int .u8 r.a4, .int .u8 r.a5, .int .u8 r.sure, .func (.func (doesF r.d)) #[] #[]]] W fun e w' => e = .returned (.bool (s.takes r)) ∧ Up W w') := fun W hW => takes_any r b s W hW o hr
  have w0 : IntKind.u8.wrap 0 = 0 := rfl
  generalize s.takes r = T at HT ⊢
  go_enter Tryz.func27, Tryz.ntmps27
  go_wp2_with fail
  generalize hW : World.alloc w _ = W
  have hg : W.heap[w.heap.size]? = some (.cells r.cells 75 (0, 0)) := by rw [← hW]; exact heap_alloc_new w _
  have hlt : w.heap.size < W.heap.size := (Array.getElem?_eq_some_iff.1 hg).1
  have u0 : Up w W := by rw [← hW]; exact (Up.refl w).alloc _
  have h0 := h.up u0
  have k16 : W.cell? ⟨b, 16, none⟩ = some (.int .u8 0) := by have := h0.cell 16; rw [this]; show some (Value.int .u8 s.done) = _; rw [hd]
  have KK := rowBlock r hg
  have HU : Hid (Up w W) := u0
  have HM : Hid (∀ w2, Up W w2 → w2.cell? ⟨b, 16, none⟩ = some (.int .u8 0) ∧ w2.cell? ⟨w.heap.size, 0, none⟩ = some (.int .u8 r.a0) ∧ w2.cell? ⟨w.heap.size, 1, none⟩ = some (.int .u8 r.a1) ∧ w2.cell? ⟨w.heap.size, 2, none⟩ = some (.int .u8 r.a2) ∧ w2.cell? ⟨w.heap.size, 3, none⟩ = some (.int .u8 r.a3) ∧ w2.cell? ⟨w.heap.size, 4, none⟩ = some (.int .u8 r.a4) ∧ w2.cell? ⟨w.heap.size, 5, none⟩ = some (.int .u8 r.a5) ∧ w2.cell? ⟨w.heap.size, 6, none⟩ = some (.int .u8 r.sure) ∧ w2.cell? ⟨w.heap.size, 7, none⟩ = some (.func (.func (doesF r.d)) #[] #[])) := fun w2 hu => by
    have hg2 : w2.heap[w.heap.size]? = some (.cells r.cells 75 (0, 0)) := (hu.block _ hlt).trans hg
    refine ⟨?_, rowBlock r hg2⟩
    have := (h0.up hu).cell 16
    rw [this]; show some (Value.int .u8 s.done) = _; rw [hd]
  clear hW hg hd h u0
  obtain ⟨q0, q1, q2, q3, q4, q5, q6, q7⟩ := KK
  go_region_held3 (fun w' => w'.cell? ⟨b, 16, none⟩ = some (.int .u8 0) ∧ w'.cell? ⟨w.heap.size, 0, none⟩ = some (.int .u8 r.a0) ∧ w'.cell? ⟨w.heap.size, 1, none⟩ = some (.int .u8 r.a1) ∧ w'.cell? ⟨w.heap.size, 2, none⟩ = some (.int .u8 r.a2) ∧ w'.cell? ⟨w.heap.size, 3, none⟩ = some (.int .u8 r.a3) ∧ w'.cell? ⟨w.heap.size, 4, none⟩ = some (.int .u8 r.a4) ∧ w'.cell? ⟨w.heap.size, 5, none⟩ = some (.int .u8 r.a5) ∧ w'.cell? ⟨w.heap.size, 6, none⟩ = some (.int .u8 r.sure) ∧ w'.cell? ⟨w.heap.size, 7, none⟩ = some (.func (.func (doesF r.d)) #[] #[])) (first | exact ⟨k16, q0, q1, q2, q3, q4, q5, q6, q7⟩ | exact MM)
    (first
      | (go_at_call 64; refine (HT.out _ (by exact h0)).mono ?_; rintro e w2 ⟨rfl, hu⟩
         have hup : Up W w2 := by first | exact (Up.drewN W _).trans hu | exact (Up.refl W).drew.trans hu | exact hu
         have MM := HM.out w2 hup
         clear hu))
  go_wp2
  go_ret
  exact ⟨rfl, HU.out.trans hup⟩
end Go.Proofs.YtdkibohpdkdooaaGreatDoor
