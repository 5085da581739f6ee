/- Whether a row is over, over the translation: number 1. -/
import Derived.Test.YtdkibohpdkdooaaGreatDoorCpQ
namespace Go.Proofs.YtdkibohpdkdooaaGreatDoor
open Go.RowKit
set_option linter.unusedVariables false
set_option maxRecDepth 100000 in
set_option maxHeartbeats 1000000 in
theorem over_1A (r : Row) (b : Nat) (s : St) (w : World) (h : Cp w b s) (o : s.Ok) (hr : r.sure ≤ 2) (hd : s.done = 1) (e0 : ((r.a1 : Int) == 0) = true) :
    Calls Tryz.prog 27 #[.pointer (some ⟨b, 0, none⟩), .agg r.cells] w fun e w' => e = .returned (.bool true) ∧ Up w w' := by
  have HT : Hid (∀ W, Cp W b s → Calls Tryz.prog 64 #[.pointer (some ⟨b, 0, none⟩), .agg #[.int .u8 r.a0, .int .u8 r.a1, .int .u8 r.a2, .int .u8 r.a3, .int .u8 r.a4, .int .u8 r.a5, .int .u8 r.sure, .func (.func (doesF r.d)) #[] #[]]] W fun e w' => e = .returned (.bool (s.takes r)) ∧ Up W w') := fun W hW => takes_any r b s W hW o hr
  have w0 : IntKind.u8.wrap 1 = 1 := rfl
  generalize s.takes r = T at HT
  go_enter Tryz.func27, Tryz.ntmps27
  go_wp2_with fail
  generalize hW : World.alloc w _ = W
  have hg : W.heap[w.heap.size]? = some (.cells r.cells 75 (0, 0)) := by rw [← hW]; exact heap_alloc_new w _
  have hlt : w.heap.size < W.heap.size := (Array.getElem?_eq_some_iff.1 hg).1
  have u0 : Up w W := by rw [← hW]; exact (Up.refl w).alloc _
  have h0 := h.up u0
  have k16 : W.cell? ⟨b, 16, none⟩ = some (.int .u8 1) := by have := h0.cell 16; rw [this]; show some (Value.int .u8 s.done) = _; rw [hd]
  have KK := rowBlock r hg
  have HU : Hid (Up w W) := u0
  have HM : Hid (∀ w2, Up W w2 → w2.cell? ⟨b, 16, none⟩ = some (.int .u8 1) ∧ w2.cell? ⟨w.heap.size, 0, none⟩ = some (.int .u8 r.a0) ∧ w2.cell? ⟨w.heap.size, 1, none⟩ = some (.int .u8 r.a1) ∧ w2.cell? ⟨w.heap.size, 2, none⟩ = some (.int .u8 r.a2) ∧ w2.cell? ⟨w.heap.size, 3, none⟩ = some (.int .u8 r.a3) ∧ w2.cell? ⟨w.heap.size, 4, none⟩ = some (.int .u8 r.a4) ∧ w2.cell? ⟨w.heap.size, 5, none⟩ = some (.int .u8 r.a5) ∧ w2.cell? ⟨w.heap.size, 6, none⟩ = some (.int .u8 r.sure) ∧ w2.cell? ⟨w.heap.size, 7, none⟩ = some (.func (.func (doesF r.d)) #[] #[])) := fun w2 hu => by
    have hg2 : w2.heap[w.heap.size]? = some (.cells r.cells 75 (0, 0)) := (hu.block _ hlt).trans hg
    refine ⟨?_, rowBlock r hg2⟩
    have := (h0.up hu).cell 16
    rw [this]; show some (Value.int .u8 s.done) = _; rw [hd]
  clear hW hg hd h u0
  obtain ⟨q0, q1, q2, q3, q4, q5, q6, q7⟩ := KK
  go_quiet (fail)
  go_wp2
  go_ret
  exact ⟨rfl, HU.out.trans (by first | exact Up.drewN W _ | exact (Up.refl W).drew | exact Up.refl W)⟩
set_option maxRecDepth 100000 in
set_option maxHeartbeats 1000000 in
theorem over_1B (r : Row) (b : Nat) (s : St) (w : World) (h : Cp w b s) (o : s.Ok) (hr : r.sure ≤ 2) (hd : s.done = 1) (e0 : ((r.a1 : Int) == 0) = false) (e1 : ((1 : Int) == (r.sure : Int)) = false) :
    Calls Tryz.prog 27 #[.pointer (some ⟨b, 0, none⟩), .agg r.cells] w fun e w' => e = .returned (.bool false) ∧ Up w w' := by
  have HT : Hid (∀ W, Cp W b s → Calls Tryz.prog 64 #[.pointer (some ⟨b, 0, none⟩), .agg #[.int .u8 r.a0, .int .u8 r.a1, .int .u8 r.a2, .int .u8 r.a3, .int .u8 r.a4, .int .u8 r.a5, .int .u8 r.sure, .func (.func (doesF r.d)) #[] #[]]] W fun e w' => e = .returned (.bool (s.takes r)) ∧ Up W w') := fun W hW => takes_any r b s W hW o hr
  have w0 : IntKind.u8.wrap 1 = 1 := rfl
  generalize s.takes r = T at HT
  go_enter Tryz.func27, Tryz.ntmps27
  go_wp2_with fail
  generalize hW : World.alloc w _ = W
  have hg : W.heap[w.heap.size]? = some (.cells r.cells 75 (0, 0)) := by rw [← hW]; exact heap_alloc_new w _
  have hlt : w.heap.size < W.heap.size := (Array.getElem?_eq_some_iff.1 hg).1
  have u0 : Up w W := by rw [← hW]; exact (Up.refl w).alloc _
  have h0 := h.up u0
  have k16 : W.cell? ⟨b, 16, none⟩ = some (.int .u8 1) := by have := h0.cell 16; rw [this]; show some (Value.int .u8 s.done) = _; rw [hd]
  have KK := rowBlock r hg
  have HU : Hid (Up w W) := u0
  have HM : Hid (∀ w2, Up W w2 → w2.cell? ⟨b, 16, none⟩ = some (.int .u8 1) ∧ w2.cell? ⟨w.heap.size, 0, none⟩ = some (.int .u8 r.a0) ∧ w2.cell? ⟨w.heap.size, 1, none⟩ = some (.int .u8 r.a1) ∧ w2.cell? ⟨w.heap.size, 2, none⟩ = some (.int .u8 r.a2) ∧ w2.cell? ⟨w.heap.size, 3, none⟩ = some (.int .u8 r.a3) ∧ w2.cell? ⟨w.heap.size, 4, none⟩ = some (.int .u8 r.a4) ∧ w2.cell? ⟨w.heap.size, 5, none⟩ = some (.int .u8 r.a5) ∧ w2.cell? ⟨w.heap.size, 6, none⟩ = some (.int .u8 r.sure) ∧ w2.cell? ⟨w.heap.size, 7, none⟩ = some (.func (.func (doesF r.d)) #[] #[])) := fun w2 hu => by
    have hg2 : w2.heap[w.heap.size]? = some (.cells r.cells 75 (0, 0)) := (hu.block _ hlt).trans hg
    refine ⟨?_, rowBlock r hg2⟩
    have := (h0.up hu).cell 16
    rw [this]; show some (Value.int .u8 s.done) = _; rw [hd]
  clear hW hg hd h u0
  obtain ⟨q0, q1, q2, q3, q4, q5, q6, q7⟩ := KK
  go_quiet (fail)
  go_wp2
  go_ret
  exact ⟨rfl, HU.out.trans (by first | exact Up.drewN W _ | exact (Up.refl W).drew | exact Up.refl W)⟩
set_option maxRecDepth 100000 in
set_option maxHeartbeats 1000000 in
theorem over_1C (r : Row) (b : Nat) (s : St) (w : World) (h : Cp w b s) (o : s.Ok) (hr : r.sure ≤ 2) (hd : s.done = 1) (e0 : ((r.a1 : Int) == 0) = false) (e1 : ((1 : Int) == (r.sure : Int)) = true) :
    Calls Tryz.prog 27 #[.pointer (some ⟨b, 0, none⟩), .agg r.cells] w fun e w' => e = .returned (.bool (!s.takes r)) ∧ Up w w' := by
  have HT : Hid (∀ W, Cp W b s → Calls Tryz.prog 64 #[.pointer (some ⟨b, 0, none⟩), .agg #[.int .u8 r.a0, .int .u8 r.a1, .int .u8 r.a2, .int .u8 r.a3, .int .u8 r.a4, .int .u8 r.a5, .int .u8 r.sure, .func (.func (doesF r.d)) #[] #[]]] W fun e w' => e = .returned (.bool (s.takes r)) ∧ Up W w') := fun W hW => takes_any r b s W hW o hr
  have w0 : IntKind.u8.wrap 1 = 1 := rfl
  generalize s.takes r = T at HT ⊢
  go_enter Tryz.func27, Tryz.ntmps27
  go_wp2_with fail
  generalize hW : World.alloc w _ = W
  have hg : W.heap[w.heap.size]? = some (.cells r.cells 75 (0, 0)) := by rw [← hW]; exact heap_alloc_new w _
  have hlt : w.heap.size < W.heap.size := (Array.getElem?_eq_some_iff.1 hg).1
  have u0 : Up w W := by rw [← hW]; exact (Up.refl w).alloc _
  have h0 := h.up u0
  have k16 : W.cell? ⟨b, 16, none⟩ = some (.int .u8 1) := by have := h0.cell 16; rw [this]; show some (Value.int .u8 s.done) = _; rw [hd]
  have KK := rowBlock r hg
  have HU : Hid (Up w W) := u0
  have HM : Hid (∀ w2, Up W w2 → w2.cell? ⟨b, 16, none⟩ = some (.int .u8 1) ∧ w2.cell? ⟨w.heap.size, 0, none⟩ = some (.int .u8 r.a0) ∧ w2.cell? ⟨w.heap.size, 1, none⟩ = some (.int .u8 r.a1) ∧ w2.cell? ⟨w.heap.size, 2, none⟩ = some (.int .u8 r.a2) ∧ w2.cell? ⟨w.heap.size, 3, none⟩ = some (.int .u8 r.a3) ∧ w2.cell? ⟨w.heap.size, 4, none⟩ = some (.int .u8 r.a4) ∧ w2.cell? ⟨w.heap.size, 5, none⟩ = some (.int .u8 r.a5) ∧ w2.cell? ⟨w.heap.size, 6, none⟩ = some (.int .u8 r.sure) ∧ w2.cell? ⟨w.heap.size, 7, none⟩ = some (.func (.func (doesF r.d)) #[] #[])) := fun w2 hu => by
    have hg2 : w2.heap[w.heap.size]? = some (.cells r.cells 75 (0, 0)) := (hu.block _ hlt).trans hg
    refine ⟨?_, rowBlock r hg2⟩
    have := (h0.up hu).cell 16
    rw [this]; show some (Value.int .u8 s.done) = _; rw [hd]
  clear hW hg hd h u0
  obtain ⟨q0, q1, q2, q3, q4, q5, q6, q7⟩ := KK
  go_region_held3 (fun w' => w'.cell? ⟨b, 16, none⟩ = some (.int .u8 1) ∧ w'.cell? ⟨w.heap.size, 0, none⟩ = some (.int .u8 r.a0) ∧ w'.cell? ⟨w.heap.size, 1, none⟩ = some (.int .u8 r.a1) ∧ w'.cell? ⟨w.heap.size, 2, none⟩ = some (.int .u8 r.a2) ∧ w'.cell? ⟨w.heap.size, 3, none⟩ = some (.int .u8 r.a3) ∧ w'.cell? ⟨w.heap.size, 4, none⟩ = some (.int .u8 r.a4) ∧ w'.cell? ⟨w.heap.size, 5, none⟩ = some (.int .u8 r.a5) ∧ w'.cell? ⟨w.heap.size, 6, none⟩ = some (.int .u8 r.sure) ∧ w'.cell? ⟨w.heap.size, 7, none⟩ = some (.func (.func (doesF r.d)) #[] #[])) (first | exact ⟨k16, q0, q1, q2, q3, q4, q5, q6, q7⟩ | exact MM)
    (first
      | (go_at_call 64; refine (HT.out _ (by exact h0)).mono ?_; rintro e w2 ⟨rfl, hu⟩
         have hup : Up W w2 := by first | exact (Up.drewN W _).trans hu | exact (Up.refl W).drew.trans hu | exact hu
         have MM := HM.out w2 hup
         clear hu))
  go_wp2
  go_ret
  exact ⟨rfl, HU.out.trans hup⟩
set_option maxRecDepth 100000 in
set_option maxHeartbeats 1000000 in
theorem over_2A (r : Row) (b : Nat) (s : St) (w : World) (h : Cp w b s) (o : s.Ok) (hr : r.sure ≤ 2) (hd : s.done = 2) (e0 : ((r.a2 : Int) == 0) = true) :
    Calls Tryz.prog 27 #[.pointer (some ⟨b, 0, none⟩), .agg r.cells] w fun e w' => e = .returned (.bool true) ∧ Up w w' := by
  have HT : Hid (∀ W, Cp W b s → Calls Tryz.prog 64 #[.pointer (some ⟨b, 0, none⟩), .agg #[.int .u8 r.a0, .int .u8 r.a1, .int .u8 r.a2, .int .u8 r.a3, .int .u8 r.a4, .int .u8 r.a5, .int .u8 r.sure, .func (.func (doesF r.d)) #[] #[]]] W fun e w' => e = .returned (.bool (s.takes r)) ∧ Up W w') := fun W hW => takes_any r b s W hW o hr
  have w0 : IntKind.u8.wrap 2 = 2 := rfl
  generalize s.takes r = T at HT
  go_enter Tryz.func27, Tryz.ntmps27
  go_wp2_with fail
  generalize hW : World.alloc w _ = W
  have hg : W.heap[w.heap.size]? = some (.cells r.cells 75 (0, 0)) := by rw [← hW]; exact heap_alloc_new w _
  have hlt : w.heap.size < W.heap.size := (Array.getElem?_eq_some_iff.1 hg).1
  have u0 : Up w W := by rw [← hW]; exact (Up.refl w).alloc _
  have h0 := h.up u0
  have k16 : W.cell? ⟨b, 16, none⟩ = some (.int .u8 2) := by have := h0.cell 16; rw [this]; show some (Value.int .u8 s.done) = _; rw [hd]
  have KK := rowBlock r hg
  have HU : Hid (Up w W) := u0
  have HM : Hid (∀ w2, Up W w2 → w2.cell? ⟨b, 16, none⟩ = some (.int .u8 2) ∧ w2.cell? ⟨w.heap.size, 0, none⟩ = some (.int .u8 r.a0) ∧ w2.cell? ⟨w.heap.size, 1, none⟩ = some (.int .u8 r.a1) ∧ w2.cell? ⟨w.heap.size, 2, none⟩ = some (.int .u8 r.a2) ∧ w2.cell? ⟨w.heap.size, 3, none⟩ = some (.int .u8 r.a3) ∧ w2.cell? ⟨w.heap.size, 4, none⟩ = some (.int .u8 r.a4) ∧ w2.cell? ⟨w.heap.size, 5, none⟩ = some (.int .u8 r.a5) ∧ w2.cell? ⟨w.heap.size, 6, none⟩ = some (.int .u8 r.sure) ∧ w2.cell? ⟨w.heap.size, 7, none⟩ = some (.func (.func (doesF r.d)) #[] #[])) := fun w2 hu => by
    have hg2 : w2.heap[w.heap.size]? = some (.cells r.cells 75 (0, 0)) := (hu.block _ hlt).trans hg
    refine ⟨?_, rowBlock r hg2⟩
    have := (h0.up hu).cell 16
    rw [this]; show some (Value.int .u8 s.done) = _; rw [hd]
  clear hW hg hd h u0
  obtain ⟨q0, q1, q2, q3, q4, q5, q6, q7⟩ := KK
  go_quiet (fail)
  go_wp2
  go_ret
  exact ⟨rfl, HU.out.trans (by first | exact Up.drewN W _ | exact (Up.refl W).drew | exact Up.refl W)⟩
set_option maxRecDepth 100000 in
set_option maxHeartbeats 1000000 in
theorem over_2B (r : Row) (b : Nat) (s : St) (w : World) (h : Cp w b s) (o : s.Ok) (hr : r.sure ≤ 2) (hd : s.done = 2) (e0 : ((r.a2 : Int) == 0) = false) (e1 : ((2 : Int) == (r.sure : Int)) = false) :
    Calls Tryz.prog 27 #[.pointer (some ⟨b, 0, none⟩), .agg r.cells] w fun e w' => e = .returned (.bool false) ∧ Up w w' := by
  have HT : Hid (∀ W, Cp W b s → Calls Tryz.prog 64 #[.pointer (some ⟨b, 0, none⟩), .agg #[.int .u8 r.a0, .int .u8 r.a1, .int .u8 r.a2, .int .u8 r.a3, .int .u8 r.a4, .int .u8 r.a5, .int .u8 r.sure, .func (.func (doesF r.d)) #[] #[]]] W fun e w' => e = .returned (.bool (s.takes r)) ∧ Up W w') := fun W hW => takes_any r b s W hW o hr
  have w0 : IntKind.u8.wrap 2 = 2 := rfl
  generalize s.takes r = T at HT
  go_enter Tryz.func27, Tryz.ntmps27
  go_wp2_with fail
  generalize hW : World.alloc w _ = W
  have hg : W.heap[w.heap.size]? = some (.cells r.cells 75 (0, 0)) := by rw [← hW]; exact heap_alloc_new w _
  have hlt : w.heap.size < W.heap.size := (Array.getElem?_eq_some_iff.1 hg).1
  have u0 : Up w W := by rw [← hW]; exact (Up.refl w).alloc _
  have h0 := h.up u0
  have k16 : W.cell? ⟨b, 16, none⟩ = some (.int .u8 2) := by have := h0.cell 16; rw [this]; show some (Value.int .u8 s.done) = _; rw [hd]
  have KK := rowBlock r hg
  have HU : Hid (Up w W) := u0
  have HM : Hid (∀ w2, Up W w2 → w2.cell? ⟨b, 16, none⟩ = some (.int .u8 2) ∧ w2.cell? ⟨w.heap.size, 0, none⟩ = some (.int .u8 r.a0) ∧ w2.cell? ⟨w.heap.size, 1, none⟩ = some (.int .u8 r.a1) ∧ w2.cell? ⟨w.heap.size, 2, none⟩ = some (.int .u8 r.a2) ∧ w2.cell? ⟨w.heap.size, 3, none⟩ = some (.int .u8 r.a3) ∧ w2.cell? ⟨w.heap.size, 4, none⟩ = some (.int .u8 r.a4) ∧ w2.cell? ⟨w.heap.size, 5, none⟩ = some (.int .u8 r.a5) ∧ w2.cell? ⟨w.heap.size, 6, none⟩ = some (.int .u8 r.sure) ∧ w2.cell? ⟨w.heap.size, 7, none⟩ = some (.func (.func (doesF r.d)) #[] #[])) := fun w2 hu => by
    have hg2 : w2.heap[w.heap.size]? = some (.cells r.cells 75 (0, 0)) := (hu.block _ hlt).trans hg
    refine ⟨?_, rowBlock r hg2⟩
    have := (h0.up hu).cell 16
    rw [this]; show some (Value.int .u8 s.done) = _; rw [hd]
  clear hW hg hd h u0
  obtain ⟨q0, q1, q2, q3, q4, q5, q6, q7⟩ := KK
  go_quiet (fail)
  go_wp2
  go_ret
  exact ⟨rfl, HU.out.trans (by first | exact Up.drewN W _ | exact (Up.refl W).drew | exact Up.refl W)⟩
set_option maxRecDepth 100000 in
set_option maxHeartbeats 1000000 in
theorem over_2C (r : Row) (b : Nat) (s : St) (w : World) (h : Cp w b s) (o : s.Ok) (hr : r.sure ≤ 2) (hd : s.done = 2) (e0 : ((r.a2 : Int) == 0) = false) (e1 : ((2 : Int) == (r.sure : Int)) = true) :
    Calls Tryz.prog 27 #[.pointer (some ⟨b, 0, none⟩), .agg r.cells] w fun e w' => e = .returned (.bool (!s.takes r)) ∧ Up w w' := by
  have HT : Hid (∀ W, Cp W b s → Calls Tryz.prog 64 #[.pointer (some ⟨b, 0, none⟩), .agg #[.int .u8 r.a0, .int .u8 r.a1, .int .u8 r.a2, .int .u8 r.a3, .int .u8 r.a4, .int .u8 r.a5, .int .u8 r.sure, .func (.func (doesF r.d)) #[] #[]]] W fun e w' => e = .returned (.bool (s.takes r)) ∧ Up W w') := fun W hW => takes_any r b s W hW o hr
  have w0 : IntKind.u8.wrap 2 = 2 := rfl
  generalize s.takes r = T at HT ⊢
  go_enter Tryz.func27, Tryz.ntmps27
  go_wp2_with fail
  generalize hW : World.alloc w _ = W
  have hg : W.heap[w.heap.size]? = some (.cells r.cells 75 (0, 0)) := by rw [← hW]; exact heap_alloc_new w _
  have hlt : w.heap.size < W.heap.size := (Array.getElem?_eq_some_iff.1 hg).1
  have u0 : Up w W := by rw [← hW]; exact (Up.refl w).alloc _
  have h0 := h.up u0
  have k16 : W.cell? ⟨b, 16, none⟩ = some (.int .u8 2) := by have := h0.cell 16; rw [this]; show some (Value.int .u8 s.done) = _; rw [hd]
  have KK := rowBlock r hg
  have HU : Hid (Up w W) := u0
  have HM : Hid (∀ w2, Up W w2 → w2.cell? ⟨b, 16, none⟩ = some (.int .u8 2) ∧ w2.cell? ⟨w.heap.size, 0, none⟩ = some (.int .u8 r.a0) ∧ w2.cell? ⟨w.heap.size, 1, none⟩ = some (.int .u8 r.a1) ∧ w2.cell? ⟨w.heap.size, 2, none⟩ = some (.int .u8 r.a2) ∧ w2.cell? ⟨w.heap.size, 3, none⟩ = some (.int .u8 r.a3) ∧ w2.cell? ⟨w.heap.size, 4, none⟩ = some (.int .u8 r.a4) ∧ w2.cell? ⟨w.heap.size, 5, none⟩ = some (.int .u8 r.a5) ∧ w2.cell? ⟨w.heap.size, 6, none⟩ = some (.int .u8 r.sure) ∧ w2.cell? ⟨w.heap.size, 7, none⟩ = some (.func (.func (doesF r.d)) #[] #[])) := fun w2 hu => by
    have hg2 : w2.heap[w.heap.size]? = some (.cells r.cells 75 (0, 0)) := (hu.block _ hlt).trans hg
    refine ⟨?_, rowBlock r hg2⟩
    have := (h0.up hu).cell 16
    rw [this]; show some (Value.int .u8 s.done) = _; rw [hd]
  clear hW hg hd h u0
  obtain ⟨q0, q1, q2, q3, q4, q5, q6, q7⟩ := KK
  go_region_held3 (fun w' => w'.cell? ⟨b, 16, none⟩ = some (.int .u8 2) ∧ w'.cell? ⟨w.heap.size, 0, none⟩ = some (.int .u8 r.a0) ∧ w'.cell? ⟨w.heap.size, 1, none⟩ = some (.int .u8 r.a1) ∧ w'.cell? ⟨w.heap.size, 2, none⟩ = some (.int .u8 r.a2) ∧ w'.cell? ⟨w.heap.size, 3, none⟩ = some (.int .u8 r.a3) ∧ w'.cell? ⟨w.heap.size, 4, none⟩ = some (.int .u8 r.a4) ∧ w'.cell? ⟨w.heap.size, 5, none⟩ = some (.int .u8 r.a5) ∧ w'.cell? ⟨w.heap.size, 6, none⟩ = some (.int .u8 r.sure) ∧ w'.cell? ⟨w.heap.size, 7, none⟩ = some (.func (.func (doesF r.d)) #[] #[])) (first | exact ⟨k16, q0, q1, q2, q3, q4, q5, q6, q7⟩ | exact MM)
    (first
      | (go_at_call 64; refine (HT.out _ (by exact h0)).mono ?_; rintro e w2 ⟨rfl, hu⟩
         have hup : Up W w2 := by first | exact (Up.drewN W _).trans hu | exact (Up.refl W).drew.trans hu | exact hu
         have MM := HM.out w2 hup
         clear hu))
  go_wp2
  go_ret
  exact ⟨rfl, HU.out.trans hup⟩
end Go.Proofs.YtdkibohpdkdooaaGreatDoor
