/- The end of an instruction, over the translation: Fb. -/
import Derived.Test.YtdkibohpdkdooaaGreatDoorCpY0
namespace Go.Proofs.YtdkibohpdkdooaaGreatDoor
open Go.RowKit
set_option linter.unusedVariables false
set_option maxRecDepth 100000 in
set_option maxHeartbeats 4000000 in
theorem finish_Fnb (r : Row) (l : Int) (b : Nat) (s : St) (w : World) (h : Cp w b s) (o : s.Ok) (hL : Lb b w) (ha : oneBit s.asked) (hr : r.sure ≤ 2) (hrd : r.d ≤ 32) (hl : 0 ≤ l ∧ l ≤ 31) (hT : s.takes r = false) (hA : s.due = false) (hE1 : ((s.go ((s.behindFirst + r.further) % 65536))).state = 1) (hl0 : l = 0) :
    Calls Tryz.prog 28 #[.pointer (some ⟨b, 0, none⟩), .agg r.cells, .int .u8 l] w fun e w' => e = .returned (.tuple #[]) ∧ Cp w' b (s.finish r l) ∧ Fr b w w' := by
  generalize hP : (s.behindFirst + r.further) % 65536 = P at hE1
  have hb := h.lt
  have HE := enterDoes r.d hrd
  have c12 : w.cell? ⟨b, 12, none⟩ = some (.bool s.due) := h.cell 12
  have HP : Hid ((s.behindFirst + r.further) % 65536 = P) := hP
  have hPb : 0 ≤ P ∧ P ≤ 65535 := by omega
  have o1 : (s.go P).Ok := o.go P hPb
  have fb1 := o.behindFirst.1
  have fb2 := o.behindFirst.2
  have ff1 := (further_b r).1
  have ff2 := (further_b r).2
  have HF : Hid (s.finish r l = ((((s.go P).does r).dues s.due).twices l).look l) := by show _ = _; unfold St.finish; rw [HP.out]
  clear hP
  have HT : Hid ((s.go P).takes r = false) := hT
  clear hT
  obtain ⟨S2, hS2⟩ : ∃ S2, S2 = (s.go P) := ⟨_, rfl⟩
  have HS2 : Hid ((s.go P) = S2) := hS2.symm
  have oS2 : S2.Ok := by rw [hS2]; exact o1
  rw [← hS2] at hE1
  clear hS2
  have HA : Hid (s.due = false) := hA
  have HE1 : Hid (S2.state = 1) := hE1
  subst hl0
  have HS : Hid (s.finish r 0 = St.look ({ (St.rest S2) with twice := false }) 0) := by
    show _ = _
    rw [HF.out, if_not_does HT.out, HS2.out]
    unfold St.dues
    rw [HA.out]
    rw [if_neg (by simp)]
    unfold St.twices
    simp only [show ((0 : Int) != 0) = false by decide, Bool.and_false, Bool.false_and]
  rw [HS.out]
  rw [HA.out] at c12
  clear hA hE1 
  go_enter Tryz.func28, Tryz.ntmps28
  go_wp2_with fail
  generalize hW : World.alloc w _ = W
  have hg : W.heap[w.heap.size]? = some (.cells r.cells 75 (0, 0)) := by rw [← hW]; exact heap_alloc_new w _
  have hlt : w.heap.size < W.heap.size := (Array.getElem?_eq_some_iff.1 hg).1
  have u0 : Up w W := by rw [← hW]; exact (Up.refl w).alloc _
  have hgb : w.heap.size ≠ b := by omega
  have h0 := h.up u0
  have L0 := hL.up u0
  have HU : Hid (Up w W) := u0
  have HM : Hid (∀ w2, Fr b W w2 → w2.heap[w.heap.size]? = some (.cells r.cells 75 (0, 0))) := fun w2 hu => (hu.block _ hlt hgb).trans hg
  obtain ⟨q0, q1, q2, q3, q4, q5, q6, q7⟩ := rowBlock r hg
  clear hW hg u0 h c12
  go_region_held3 (fun w' => w'.cell? ⟨w.heap.size, 0, none⟩ = some (.int .u8 r.a0) ∧ w'.cell? ⟨w.heap.size, 1, none⟩ = some (.int .u8 r.a1) ∧ w'.cell? ⟨w.heap.size, 2, none⟩ = some (.int .u8 r.a2) ∧ w'.cell? ⟨w.heap.size, 3, none⟩ = some (.int .u8 r.a3) ∧ w'.cell? ⟨w.heap.size, 4, none⟩ = some (.int .u8 r.a4) ∧ w'.cell? ⟨w.heap.size, 5, none⟩ = some (.int .u8 r.a5) ∧ w'.cell? ⟨w.heap.size, 6, none⟩ = some (.int .u8 r.sure) ∧ w'.cell? ⟨w.heap.size, 7, none⟩ = some (.func (.func (doesF r.d)) #[] #[])) (first | exact ⟨q0, q1, q2, q3, q4, q5, q6, q7⟩ | exact ⟨m0, m1, m2, m3, m4, m5, m6, m7⟩ | (refine ⟨?_, ?_, ?_, ?_, ?_, ?_, ?_, ?_⟩ <;> (rw [World.cell?_setCell_far _ _ _ _ (Ne.symm hgb)]; first | exact m0 | exact m1 | exact m2 | exact m3 | exact m4 | exact m5 | exact m6 | exact m7)))
    (first
      | (go_at_call 65; refine (behindFirst_any b s _ (by exact h0) o).mono ?_; rintro e w' ⟨rfl, n, rfl⟩)
      | (go_at_call 66; refine (further_any r _).mono ?_; rintro e w2 ⟨rfl, hu2⟩
         have up2 : Up W w2 := by first | exact (Up.drewN W _).trans hu2 | exact hu2
         obtain ⟨m0, m1, m2, m3, m4, m5, m6, m7⟩ := rowBlock r (HM.out w2 (Fr.ofUp up2))
         have h2 := h0.up up2
         have c9 : w2.cell? ⟨b, 9, none⟩ = some (.int .u16 s.pc) := h2.cell 9
         have f9 := h2.frozen 9
         clear hu2))
  try rw [IntKind.wrap_u16]
  rw [HP.out]
  generalize hW3 : World.setCell _ _ _ = W3
  have h3 : Cp W3 b (s.go P) := by rw [← hW3]; exact h2.set 9 _ _ rfl
  have F3 : Fr b W W3 := by rw [← hW3]; exact Fr.setCell (Fr.ofUp (by first | exact up2 | exact up2.trans (Up.drewN w2 _) | exact up2.drew))
  have L3 := L0.fr F3
  obtain ⟨p0, p1, p2, p3, p4, p5, p6, p7⟩ := rowBlock r (HM.out W3 F3)
  clear hW3 h2 up2 c9 f9 m0 m1 m2 m3 m4 m5 m6 m7 q0 q1 q2 q3 q4 q5 q6 q7
  go_wp2_with (first
    | (go_at_call 64; refine (takes_any r b (s.go P) _ (by exact h3) o1 hr).mono ?_; rw [HT.out]; rintro e w4 ⟨rfl, hu4⟩
       have h4 : Cp w4 b S2 := by rw [← HS2.out]; exact h3.up hu4
       have L4 := L3.up hu4
       have F4 : Fr b W w4 := F3.trans (Fr.ofUp hu4)
       have c12 : w4.cell? ⟨b, 12, none⟩ = some (.bool S2.due) := by have := h4.cell 12; rw [this]; show some (Value.bool S2.due) = _; rfl
       have c10 : w4.cell? ⟨b, 10, none⟩ = some (.bool S2.ime) := h4.cell 10
       have c11 : w4.cell? ⟨b, 11, none⟩ = some (.int .i64 1) := by have := h4.cell 11; rw [this]; show some (Value.int .i64 S2.state) = _; rw [HE1.out]
       have c13 : w4.cell? ⟨b, 13, none⟩ = some (.bool S2.twice) := h4.cell 13
       have f10 := h4.frozen 10
       have f12 := h4.frozen 12
       have f13 := h4.frozen 13
       obtain ⟨d14, d15, d16, d17, d18, d19, d20, d21, f14, f15, f16, f17, f18, f19, f20, f21⟩ := h4.courseFacts
       clear hu4 h3 L3 F3)
    | (go_at_call 24; refine (look_any 0 b ({ (St.rest S2) with twice := false }) _ (by exact (h4.course 0 0).set 13 _ _ rfl) (okRest oS2) hl).mono ?_; rintro e w9 ⟨rfl, h9, F9⟩))
  (first | refine bodyPost_end (results_none rfl _ _ _) rfl ?_ | refine bodyPost_ret (results_none rfl _ _ _) rfl ?_)
  exact ⟨rfl, h9, (Fr.ofUp HU.out).trans (Fr.trans (Fr.setCell (Fr.course F4 _ _ _ _ _ _ _ _)) F9)⟩
set_option maxRecDepth 100000 in
set_option maxHeartbeats 4000000 in
theorem finish_Fxb (r : Row) (l : Int) (b : Nat) (s : St) (w : World) (h : Cp w b s) (o : s.Ok) (hL : Lb b w) (ha : oneBit s.asked) (hr : r.sure ≤ 2) (hrd : r.d ≤ 32) (hl : 0 ≤ l ∧ l ≤ 31) (hT : s.takes r = false) (hA : s.due = true) (hD : ((s.go ((s.behindFirst + r.further) % 65536))).due = false) (hE1 : ((s.go ((s.behindFirst + r.further) % 65536))).state = 1) (hl0 : l = 0) :
    Calls Tryz.prog 28 #[.pointer (some ⟨b, 0, none⟩), .agg r.cells, .int .u8 l] w fun e w' => e = .returned (.tuple #[]) ∧ Cp w' b (s.finish r l) ∧ Fr b w w' := by
  generalize hP : (s.behindFirst + r.further) % 65536 = P at hD hE1
  have hb := h.lt
  have HE := enterDoes r.d hrd
  have c12 : w.cell? ⟨b, 12, none⟩ = some (.bool s.due) := h.cell 12
  have HP : Hid ((s.behindFirst + r.further) % 65536 = P) := hP
  have hPb : 0 ≤ P ∧ P ≤ 65535 := by omega
  have o1 : (s.go P).Ok := o.go P hPb
  have fb1 := o.behindFirst.1
  have fb2 := o.behindFirst.2
  have ff1 := (further_b r).1
  have ff2 := (further_b r).2
  have HF : Hid (s.finish r l = ((((s.go P).does r).dues s.due).twices l).look l) := by show _ = _; unfold St.finish; rw [HP.out]
  clear hP
  have HT : Hid ((s.go P).takes r = false) := hT
  clear hT
  obtain ⟨S2, hS2⟩ : ∃ S2, S2 = (s.go P) := ⟨_, rfl⟩
  have HS2 : Hid ((s.go P) = S2) := hS2.symm
  have oS2 : S2.Ok := by rw [hS2]; exact o1
  rw [← hS2] at hD hE1
  clear hS2
  have HA : Hid (s.due = true) := hA
  have HD : Hid (S2.due = false) := hD
  have HE1 : Hid (S2.state = 1) := hE1
  subst hl0
  have HS : Hid (s.finish r 0 = St.look ({ (St.rest S2) with twice := false }) 0) := by
    show _ = _
    rw [HF.out, if_not_does HT.out, HS2.out]
    unfold St.dues
    rw [HA.out]
    rw [HD.out]
    rw [if_neg (by simp)]
    unfold St.twices
    simp only [show ((0 : Int) != 0) = false by decide, Bool.and_false, Bool.false_and]
  rw [HS.out]
  rw [HA.out] at c12
  clear hA hD hE1 
  go_enter Tryz.func28, Tryz.ntmps28
  go_wp2_with fail
  generalize hW : World.alloc w _ = W
  have hg : W.heap[w.heap.size]? = some (.cells r.cells 75 (0, 0)) := by rw [← hW]; exact heap_alloc_new w _
  have hlt : w.heap.size < W.heap.size := (Array.getElem?_eq_some_iff.1 hg).1
  have u0 : Up w W := by rw [← hW]; exact (Up.refl w).alloc _
  have hgb : w.heap.size ≠ b := by omega
  have h0 := h.up u0
  have L0 := hL.up u0
  have HU : Hid (Up w W) := u0
  have HM : Hid (∀ w2, Fr b W w2 → w2.heap[w.heap.size]? = some (.cells r.cells 75 (0, 0))) := fun w2 hu => (hu.block _ hlt hgb).trans hg
  obtain ⟨q0, q1, q2, q3, q4, q5, q6, q7⟩ := rowBlock r hg
  clear hW hg u0 h c12
  go_region_held3 (fun w' => w'.cell? ⟨w.heap.size, 0, none⟩ = some (.int .u8 r.a0) ∧ w'.cell? ⟨w.heap.size, 1, none⟩ = some (.int .u8 r.a1) ∧ w'.cell? ⟨w.heap.size, 2, none⟩ = some (.int .u8 r.a2) ∧ w'.cell? ⟨w.heap.size, 3, none⟩ = some (.int .u8 r.a3) ∧ w'.cell? ⟨w.heap.size, 4, none⟩ = some (.int .u8 r.a4) ∧ w'.cell? ⟨w.heap.size, 5, none⟩ = some (.int .u8 r.a5) ∧ w'.cell? ⟨w.heap.size, 6, none⟩ = some (.int .u8 r.sure) ∧ w'.cell? ⟨w.heap.size, 7, none⟩ = some (.func (.func (doesF r.d)) #[] #[])) (first | exact ⟨q0, q1, q2, q3, q4, q5, q6, q7⟩ | exact ⟨m0, m1, m2, m3, m4, m5, m6, m7⟩ | (refine ⟨?_, ?_, ?_, ?_, ?_, ?_, ?_, ?_⟩ <;> (rw [World.cell?_setCell_far _ _ _ _ (Ne.symm hgb)]; first | exact m0 | exact m1 | exact m2 | exact m3 | exact m4 | exact m5 | exact m6 | exact m7)))
    (first
      | (go_at_call 65; refine (behindFirst_any b s _ (by exact h0) o).mono ?_; rintro e w' ⟨rfl, n, rfl⟩)
      | (go_at_call 66; refine (further_any r _).mono ?_; rintro e w2 ⟨rfl, hu2⟩
         have up2 : Up W w2 := by first | exact (Up.drewN W _).trans hu2 | exact hu2
         obtain ⟨m0, m1, m2, m3, m4, m5, m6, m7⟩ := rowBlock r (HM.out w2 (Fr.ofUp up2))
         have h2 := h0.up up2
         have c9 : w2.cell? ⟨b, 9, none⟩ = some (.int .u16 s.pc) := h2.cell 9
         have f9 := h2.frozen 9
         clear hu2))
  try rw [IntKind.wrap_u16]
  rw [HP.out]
  generalize hW3 : World.setCell _ _ _ = W3
  have h3 : Cp W3 b (s.go P) := by rw [← hW3]; exact h2.set 9 _ _ rfl
  have F3 : Fr b W W3 := by rw [← hW3]; exact Fr.setCell (Fr.ofUp (by first | exact up2 | exact up2.trans (Up.drewN w2 _) | exact up2.drew))
  have L3 := L0.fr F3
  obtain ⟨p0, p1, p2, p3, p4, p5, p6, p7⟩ := rowBlock r (HM.out W3 F3)
  clear hW3 h2 up2 c9 f9 m0 m1 m2 m3 m4 m5 m6 m7 q0 q1 q2 q3 q4 q5 q6 q7
  go_wp2_with (first
    | (go_at_call 64; refine (takes_any r b (s.go P) _ (by exact h3) o1 hr).mono ?_; rw [HT.out]; rintro e w4 ⟨rfl, hu4⟩
       have h4 : Cp w4 b S2 := by rw [← HS2.out]; exact h3.up hu4
       have L4 := L3.up hu4
       have F4 : Fr b W w4 := F3.trans (Fr.ofUp hu4)
       have c12 : w4.cell? ⟨b, 12, none⟩ = some (.bool false) := by have := h4.cell 12; rw [this]; show some (Value.bool S2.due) = _; rw [HD.out]
       have c10 : w4.cell? ⟨b, 10, none⟩ = some (.bool S2.ime) := h4.cell 10
       have c11 : w4.cell? ⟨b, 11, none⟩ = some (.int .i64 1) := by have := h4.cell 11; rw [this]; show some (Value.int .i64 S2.state) = _; rw [HE1.out]
       have c13 : w4.cell? ⟨b, 13, none⟩ = some (.bool S2.twice) := h4.cell 13
       have f10 := h4.frozen 10
       have f12 := h4.frozen 12
       have f13 := h4.frozen 13
       obtain ⟨d14, d15, d16, d17, d18, d19, d20, d21, f14, f15, f16, f17, f18, f19, f20, f21⟩ := h4.courseFacts
       clear hu4 h3 L3 F3)
    | (go_at_call 24; refine (look_any 0 b ({ (St.rest S2) with twice := false }) _ (by exact (h4.course 0 0).set 13 _ _ rfl) (okRest oS2) hl).mono ?_; rintro e w9 ⟨rfl, h9, F9⟩))
  (first | refine bodyPost_end (results_none rfl _ _ _) rfl ?_ | refine bodyPost_ret (results_none rfl _ _ _) rfl ?_)
  exact ⟨rfl, h9, (Fr.ofUp HU.out).trans (Fr.trans (Fr.setCell (Fr.course F4 _ _ _ _ _ _ _ _)) F9)⟩
set_option maxRecDepth 100000 in
set_option maxHeartbeats 4000000 in
theorem finish_Fyb (r : Row) (l : Int) (b : Nat) (s : St) (w : World) (h : Cp w b s) (o : s.Ok) (hL : Lb b w) (ha : oneBit s.asked) (hr : r.sure ≤ 2) (hrd : r.d ≤ 32) (hl : 0 ≤ l ∧ l ≤ 31) (hT : s.takes r = false) (hA : s.due = true) (hD : ((s.go ((s.behindFirst + r.further) % 65536))).due = true) (hE1 : ((s.go ((s.behindFirst + r.further) % 65536))).state = 1) (hl0 : l = 0) :
    Calls Tryz.prog 28 #[.pointer (some ⟨b, 0, none⟩), .agg r.cells, .int .u8 l] w fun e w' => e = .returned (.tuple #[]) ∧ Cp w' b (s.finish r l) ∧ Fr b w w' := by
  generalize hP : (s.behindFirst + r.further) % 65536 = P at hD hE1
  have hb := h.lt
  have HE := enterDoes r.d hrd
  have c12 : w.cell? ⟨b, 12, none⟩ = some (.bool s.due) := h.cell 12
  have HP : Hid ((s.behindFirst + r.further) % 65536 = P) := hP
  have hPb : 0 ≤ P ∧ P ≤ 65535 := by omega
  have o1 : (s.go P).Ok := o.go P hPb
  have fb1 := o.behindFirst.1
  have fb2 := o.behindFirst.2
  have ff1 := (further_b r).1
  have ff2 := (further_b r).2
  have HF : Hid (s.finish r l = ((((s.go P).does r).dues s.due).twices l).look l) := by show _ = _; unfold St.finish; rw [HP.out]
  clear hP
  have HT : Hid ((s.go P).takes r = false) := hT
  clear hT
  obtain ⟨S2, hS2⟩ : ∃ S2, S2 = (s.go P) := ⟨_, rfl⟩
  have HS2 : Hid ((s.go P) = S2) := hS2.symm
  have oS2 : S2.Ok := by rw [hS2]; exact o1
  rw [← hS2] at hD hE1
  clear hS2
  have HA : Hid (s.due = true) := hA
  have HD : Hid (S2.due = true) := hD
  have HE1 : Hid (S2.state = 1) := hE1
  subst hl0
  have HS : Hid (s.finish r 0 = St.look ({ (St.rest ({ S2 with ime := true, due := false } : St)) with twice := false }) 0) := by
    show _ = _
    rw [HF.out, if_not_does HT.out, HS2.out]
    unfold St.dues
    rw [HA.out]
    rw [HD.out]
    rw [if_pos (by simp)]
    unfold St.twices
    simp only [show ((0 : Int) != 0) = false by decide, Bool.and_false, Bool.false_and]
  rw [HS.out]
  rw [HA.out] at c12
  clear hA hD hE1 
  go_enter Tryz.func28, Tryz.ntmps28
  go_wp2_with fail
  generalize hW : World.alloc w _ = W
  have hg : W.heap[w.heap.size]? = some (.cells r.cells 75 (0, 0)) := by rw [← hW]; exact heap_alloc_new w _
  have hlt : w.heap.size < W.heap.size := (Array.getElem?_eq_some_iff.1 hg).1
  have u0 : Up w W := by rw [← hW]; exact (Up.refl w).alloc _
  have hgb : w.heap.size ≠ b := by omega
  have h0 := h.up u0
  have L0 := hL.up u0
  have HU : Hid (Up w W) := u0
  have HM : Hid (∀ w2, Fr b W w2 → w2.heap[w.heap.size]? = some (.cells r.cells 75 (0, 0))) := fun w2 hu => (hu.block _ hlt hgb).trans hg
  obtain ⟨q0, q1, q2, q3, q4, q5, q6, q7⟩ := rowBlock r hg
  clear hW hg u0 h c12
  go_region_held3 (fun w' => w'.cell? ⟨w.heap.size, 0, none⟩ = some (.int .u8 r.a0) ∧ w'.cell? ⟨w.heap.size, 1, none⟩ = some (.int .u8 r.a1) ∧ w'.cell? ⟨w.heap.size, 2, none⟩ = some (.int .u8 r.a2) ∧ w'.cell? ⟨w.heap.size, 3, none⟩ = some (.int .u8 r.a3) ∧ w'.cell? ⟨w.heap.size, 4, none⟩ = some (.int .u8 r.a4) ∧ w'.cell? ⟨w.heap.size, 5, none⟩ = some (.int .u8 r.a5) ∧ w'.cell? ⟨w.heap.size, 6, none⟩ = some (.int .u8 r.sure) ∧ w'.cell? ⟨w.heap.size, 7, none⟩ = some (.func (.func (doesF r.d)) #[] #[])) (first | exact ⟨q0, q1, q2, q3, q4, q5, q6, q7⟩ | exact ⟨m0, m1, m2, m3, m4, m5, m6, m7⟩ | (refine ⟨?_, ?_, ?_, ?_, ?_, ?_, ?_, ?_⟩ <;> (rw [World.cell?_setCell_far _ _ _ _ (Ne.symm hgb)]; first | exact m0 | exact m1 | exact m2 | exact m3 | exact m4 | exact m5 | exact m6 | exact m7)))
    (first
      | (go_at_call 65; refine (behindFirst_any b s _ (by exact h0) o).mono ?_; rintro e w' ⟨rfl, n, rfl⟩)
      | (go_at_call 66; refine (further_any r _).mono ?_; rintro e w2 ⟨rfl, hu2⟩
         have up2 : Up W w2 := by first | exact (Up.drewN W _).trans hu2 | exact hu2
         obtain ⟨m0, m1, m2, m3, m4, m5, m6, m7⟩ := rowBlock r (HM.out w2 (Fr.ofUp up2))
         have h2 := h0.up up2
         have c9 : w2.cell? ⟨b, 9, none⟩ = some (.int .u16 s.pc) := h2.cell 9
         have f9 := h2.frozen 9
         clear hu2))
  try rw [IntKind.wrap_u16]
  rw [HP.out]
  generalize hW3 : World.setCell _ _ _ = W3
  have h3 : Cp W3 b (s.go P) := by rw [← hW3]; exact h2.set 9 _ _ rfl
  have F3 : Fr b W W3 := by rw [← hW3]; exact Fr.setCell (Fr.ofUp (by first | exact up2 | exact up2.trans (Up.drewN w2 _) | exact up2.drew))
  have L3 := L0.fr F3
  obtain ⟨p0, p1, p2, p3, p4, p5, p6, p7⟩ := rowBlock r (HM.out W3 F3)
  clear hW3 h2 up2 c9 f9 m0 m1 m2 m3 m4 m5 m6 m7 q0 q1 q2 q3 q4 q5 q6 q7
  go_wp2_with (first
    | (go_at_call 64; refine (takes_any r b (s.go P) _ (by exact h3) o1 hr).mono ?_; rw [HT.out]; rintro e w4 ⟨rfl, hu4⟩
       have h4 : Cp w4 b S2 := by rw [← HS2.out]; exact h3.up hu4
       have L4 := L3.up hu4
       have F4 : Fr b W w4 := F3.trans (Fr.ofUp hu4)
       have c12 : w4.cell? ⟨b, 12, none⟩ = some (.bool true) := by have := h4.cell 12; rw [this]; show some (Value.bool S2.due) = _; rw [HD.out]
       have c10 : w4.cell? ⟨b, 10, none⟩ = some (.bool S2.ime) := h4.cell 10
       have c11 : w4.cell? ⟨b, 11, none⟩ = some (.int .i64 1) := by have := h4.cell 11; rw [this]; show some (Value.int .i64 S2.state) = _; rw [HE1.out]
       have c13 : w4.cell? ⟨b, 13, none⟩ = some (.bool S2.twice) := h4.cell 13
       have f10 := h4.frozen 10
       have f12 := h4.frozen 12
       have f13 := h4.frozen 13
       obtain ⟨d14, d15, d16, d17, d18, d19, d20, d21, f14, f15, f16, f17, f18, f19, f20, f21⟩ := h4.courseFacts
       clear hu4 h3 L3 F3)
    | (go_at_call 24; refine (look_any 0 b ({ (St.rest ({ S2 with ime := true, due := false } : St)) with twice := false }) _ (by exact (((h4.set 10 _ { S2 with ime := true } rfl).set 12 _ { S2 with ime := true, due := false } rfl).course 0 0).set 13 _ _ rfl) (okRest oS2) hl).mono ?_; rintro e w9 ⟨rfl, h9, F9⟩))
  (first | refine bodyPost_end (results_none rfl _ _ _) rfl ?_ | refine bodyPost_ret (results_none rfl _ _ _) rfl ?_)
  exact ⟨rfl, h9, (Fr.ofUp HU.out).trans (Fr.trans (Fr.setCell (Fr.course ((F4.setCell).setCell) _ _ _ _ _ _ _ _)) F9)⟩
end Go.Proofs.YtdkibohpdkdooaaGreatDoor
