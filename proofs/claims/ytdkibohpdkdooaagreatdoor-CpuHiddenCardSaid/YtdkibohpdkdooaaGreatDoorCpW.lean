/- Handlers, the end of a dispatch, acts, over the translation. -/
import Derived.Test.YtdkibohpdkdooaaGreatDoorCpV
namespace Go.Proofs.YtdkibohpdkdooaaGreatDoor
open Go.RowKit
set_option linter.unusedVariables false
def oneBit (a : Int) : Prop := a = 0 ∨ a = 1 ∨ a = 2 ∨ a = 4 ∨ a = 8 ∨ a = 16
theorem low_bit (l : Int) (h0 : 0 ≤ l) (h1 : l ≤ 31) : bits .and .u8 l (IntKind.u8.wrap (-l)) = lowBit l := by
  have := (by decide +kernel : ∀ n : Fin 32, bits .and .u8 ((n.val : Nat) : Int) (IntKind.u8.wrap (-((n.val : Nat) : Int))) = lowBit ((n.val : Nat) : Int)) ⟨l.toNat, by omega⟩
  simpa [Int.toNat_of_nonneg h0] using this
theorem lowBit_one (l : Int) : oneBit (lowBit l) := by
  unfold lowBit oneBit
  repeat' split
  all_goals simp
set_option maxRecDepth 100000 in
set_option maxHeartbeats 1000000 in
theorem tz_any (a : Int) (w : World) (ha : oneBit a) :
    Calls Tryz.prog 75 #[.int .u8 a] w fun e w' => e = .returned (.int .u16 (handP a)) ∧ Up w w' := by
  unfold oneBit at ha
  rcases ha with rfl | rfl | rfl | rfl | rfl | rfl
  all_goals
    go_enter Tryz.func75, Tryz.ntmps75
    go_wp2
  all_goals
    go_ret
    exact ⟨by kernel_rfl, Up.refl w⟩
set_option maxRecDepth 100000 in
set_option maxHeartbeats 1000000 in
theorem enter_does (b : Nat) (s : St) (w : World) (h : Cp w b s) (o : s.Ok) (ha : oneBit s.asked) :
    Calls Tryz.prog 55 #[.pointer (some ⟨b, 0, none⟩)] w fun e w' => e = .returned (.tuple #[]) ∧ Cp w' b { s.rest with pc := handP s.asked, sp := (s.sp - 2) % 65536, ime := false } ∧ Fr b w w' := by
  have c21 : w.cell? ⟨b, 21, none⟩ = some (.int .u8 s.asked) := h.cell 21
  have osp1 := o.sp.1
  have osp2 := o.sp.2
  have HH : Hid (∀ W, Calls Tryz.prog 75 #[.int .u8 s.asked] W fun e w' => e = .returned (.int .u16 (handP s.asked)) ∧ Up W w') := fun W => tz_any s.asked W ha
  clear ha
  go_enter Tryz.func55, Tryz.ntmps55
  go_wp2_with (first
    | (go_at_call 75; refine (HH.out _).mono ?_; rintro e w1 ⟨rfl, hu⟩
       have h1 := h.up hu
       have c8 : w1.cell? ⟨b, 8, none⟩ = some (.int .u16 s.sp) := h1.cell 8
       have c9 : w1.cell? ⟨b, 9, none⟩ = some (.int .u16 s.pc) := h1.cell 9
       have c10 : w1.cell? ⟨b, 10, none⟩ = some (.bool s.ime) := h1.cell 10
       have f8 := h1.frozen 8
       have f9 := h1.frozen 9
       have f10 := h1.frozen 10
       obtain ⟨d14, d15, d16, d17, d18, d19, d20, d21, f14, f15, f16, f17, f18, f19, f20, f21⟩ := h1.courseFacts
       clear c21))
  (first | refine bodyPost_end (results_none rfl _ _ _) rfl ?_ | refine bodyPost_ret (results_none rfl _ _ _) rfl ?_)
  exact ⟨rfl, (((h1.set 9 _ (s.go (handP s.asked)) rfl).set 8 _ { s with pc := handP s.asked, sp := (s.sp - 2) % 65536 } rfl).set 10 _ { s with pc := handP s.asked, sp := (s.sp - 2) % 65536, ime := false } rfl).course 0 0, Fr.course (((Fr.setCell (Fr.ofUp hu)).setCell).setCell) _ _ _ _ _ _ _ _⟩
set_option maxRecDepth 100000 in
set_option maxHeartbeats 1000000 in
theorem act_first (d l : Int) (b : Nat) (s : St) (w : World) (h : Cp w b s) (o : s.Ok) (hd : 0 ≤ d ∧ d ≤ 255) (hl : 0 ≤ l ∧ l ≤ 31) (hn : s.next = 2) :
    Calls Tryz.prog 25 #[.pointer (some ⟨b, 0, none⟩), .int .u8 d, .int .u8 l] w fun e w' => e = .returned (.tuple #[]) ∧ Cp w' b (s.begun d) ∧ Fr b w w' := by
  have HN : Hid (∀ W, Cp W b s → Calls Tryz.prog 21 #[.pointer (some ⟨b, 0, none⟩)] W fun e w' => e = .returned (.int .u8 (s.next : Nat)) ∧ Up W w') := fun W hW => next_any b s W hW o
  have hk28 := next28 s
  generalize s.next = k at HN hk28 hn
  subst hn
  have HK : Hid (2 ≤ 28) := show 2 ≤ 28 by decide
  have HW : Hid (wantsK 2 = 1) := rfl
  go_enter Tryz.func25, Tryz.ntmps25
  go_wp2_with (first
    | (go_at_call 21; refine (HN.out _ (by exact h)).mono ?_; rintro e w1 ⟨rfl, hu⟩
       have h1 := h.up hu
       obtain ⟨d14, d15, d16, d17, d18, d19, d20, d21, f14, f15, f16, f17, f18, f19, f20, f21⟩ := h1.courseFacts
       )
    | (go_at_call 23; refine (wants_any _ _ HK.out).mono ?_; rw [HW.out]; rintro e w' ⟨rfl, n, rfl⟩))
  (first | refine bodyPost_end (results_none rfl _ _ _) rfl ?_ | refine bodyPost_ret (results_none rfl _ _ _) rfl ?_)
  exact ⟨rfl, h1.course 1 d, Fr.course (Fr.ofUp hu) _ _ _ _ _ _ _ _⟩
set_option maxRecDepth 100000 in
set_option maxHeartbeats 1000000 in
theorem act_asked (d l : Int) (b : Nat) (s : St) (w : World) (h : Cp w b s) (o : s.Ok) (hd : 0 ≤ d ∧ d ≤ 255) (hl : 0 ≤ l ∧ l ≤ 31) (hn : s.next = 28) (ho : s.done ≤ 4) :
    Calls Tryz.prog 25 #[.pointer (some ⟨b, 0, none⟩), .int .u8 d, .int .u8 l] w fun e w' => e = .returned (.tuple #[]) ∧ Cp w' b ({ s with asked := lowBit l, done := s.done + 1 }) ∧ Fr b w w' := by
  have HN : Hid (∀ W, Cp W b s → Calls Tryz.prog 21 #[.pointer (some ⟨b, 0, none⟩)] W fun e w' => e = .returned (.int .u8 (s.next : Nat)) ∧ Up W w') := fun W hW => next_any b s W hW o
  have hk28 := next28 s
  generalize s.next = k at HN hk28 hn
  subst hn
  have HK : Hid (28 ≤ 28) := show 28 ≤ 28 by decide
  have HW : Hid (wantsK 28 = 2) := rfl
  have hlb : bits .and .u8 l (IntKind.u8.wrap (-l)) = lowBit l := low_bit l hl.1 hl.2
  have od1 := o.done.1
  go_enter Tryz.func25, Tryz.ntmps25
  go_wp2_with (first
    | (go_at_call 21; refine (HN.out _ (by exact h)).mono ?_; rintro e w1 ⟨rfl, hu⟩
       have h1 := h.up hu
       have c16 : w1.cell? ⟨b, 16, none⟩ = some (.int .u8 s.done) := h1.cell 16
       have f16 := h1.frozen 16
       have c21 : w1.cell? ⟨b, 21, none⟩ = some (.int .u8 s.asked) := h1.cell 21
       have f21 := h1.frozen 21
       )
    | (go_at_call 23; refine (wants_any _ _ HK.out).mono ?_; rw [HW.out]; rintro e w' ⟨rfl, n, rfl⟩))
  (first | refine bodyPost_end (results_none rfl _ _ _) rfl ?_ | refine bodyPost_ret (results_none rfl _ _ _) rfl ?_)
  rw [show bits .and .u8 l (-l % 256) = lowBit l by rw [← IntKind.wrap_u8]; exact hlb]
  exact ⟨rfl, (h1.set 21 _ { s with asked := lowBit l } rfl).set 16 _ _ rfl, Fr.setCell (Fr.setCell (Fr.ofUp (hu.trans (Up.drewN w1 _))))⟩
set_option maxRecDepth 100000 in
set_option maxHeartbeats 1000000 in
theorem act_read0 (d l : Int) (b : Nat) (s : St) (w : World) (h : Cp w b s) (o : s.Ok) (hd : 0 ≤ d ∧ d ≤ 255) (hl : 0 ≤ l ∧ l ≤ 31) (hn : 2 < s.next) (hn2 : s.next < 12) (ho : s.done ≤ 4) (hm : s.many = 0) :
    Calls Tryz.prog 25 #[.pointer (some ⟨b, 0, none⟩), .int .u8 d, .int .u8 l] w fun e w' => e = .returned (.tuple #[]) ∧ Cp w' b ({ s with rd := upd s.rd 0 d, many := 0 + 1, done := s.done + 1 }) ∧ Fr b w w' := by
  have HN : Hid (∀ W, Cp W b s → Calls Tryz.prog 21 #[.pointer (some ⟨b, 0, none⟩)] W fun e w' => e = .returned (.int .u8 (s.next : Nat)) ∧ Up W w') := fun W hW => next_any b s W hW o
  have hk28 := next28 s
  generalize s.next = k at HN hk28 hn hn2
  have HK : Hid (k ≤ 28) := hk28
  have HW : Hid (wantsK k = 1) := by show _ = _; unfold wantsK; rw [if_neg (by omega), if_pos (by omega)]
  have e1 : ((k : Int) == 2) = false := beq_eq_false_iff_ne.2 (by omega)
  have e2 : ((k : Int) == 28) = false := beq_eq_false_iff_ne.2 (by omega)
  have od1 := o.done.1
  have w0 : IntKind.u8.wrap 0 = 0 := rfl
  clear hn hn2 hk28
  go_enter Tryz.func25, Tryz.ntmps25
  go_wp2_with (first
    | (go_at_call 21; refine (HN.out _ (by exact h)).mono ?_; rintro e w1 ⟨rfl, hu⟩
       have h1 := h.up hu
       have c16 : w1.cell? ⟨b, 16, none⟩ = some (.int .u8 s.done) := h1.cell 16
       have f16 := h1.frozen 16
       have c20 : w1.cell? ⟨b, 20, none⟩ = some (.int .u8 0) := by have := h1.cell 20; rw [this]; show some (Value.int .u8 s.many) = _; rw [hm]
       have f20 := h1.frozen 20
       have c17 : w1.cell? ⟨b, 17, none⟩ = some (.int .u8 (s.rd 0)) := h1.cell 17
       have f17 := h1.frozen 17
       have HM : Hid (s.many = 0) := hm
       clear hm
       )
    | (go_at_call 23; refine (wants_any _ _ HK.out).mono ?_; rw [HW.out]; rintro e w' ⟨rfl, n, rfl⟩))
  have k20 : ∀ n, ((w1.drewN n).setCell ⟨b, 17, none⟩ (.int .u8 d)).cell? ⟨b, 20, none⟩ = some (.int .u8 0) := fun n => by
    have hn : Cp (w1.drewN n) b s := h1
    have := (hn.set 17 (.int .u8 d) { s with rd := upd s.rd 0 d } rfl).cell 20
    rw [this]
    show some (Value.int .u8 s.many) = _
    rw [HM.out]
  go_region_held3 (fun w' => w'.cell? ⟨b, 20, none⟩ = some (.int .u8 0)) (first | exact c20 | exact k20 _) (fail)
  clear k20
  go_wp2
  (first | refine bodyPost_end (results_none rfl _ _ _) rfl ?_ | refine bodyPost_ret (results_none rfl _ _ _) rfl ?_)
  exact ⟨rfl, ((h1.set 17 _ { s with rd := upd s.rd 0 d } rfl).set 20 _ { s with rd := upd s.rd 0 d, many := 0 + 1 } rfl).set 16 _ _ rfl, Fr.setCell (Fr.setCell (Fr.setCell (Fr.ofUp (hu.trans (Up.drewN w1 _)))))⟩
set_option maxRecDepth 100000 in
set_option maxHeartbeats 1000000 in
theorem act_read1 (d l : Int) (b : Nat) (s : St) (w : World) (h : Cp w b s) (o : s.Ok) (hd : 0 ≤ d ∧ d ≤ 255) (hl : 0 ≤ l ∧ l ≤ 31) (hn : 2 < s.next) (hn2 : s.next < 12) (ho : s.done ≤ 4) (hm : s.many = 1) :
    Calls Tryz.prog 25 #[.pointer (some ⟨b, 0, none⟩), .int .u8 d, .int .u8 l] w fun e w' => e = .returned (.tuple #[]) ∧ Cp w' b ({ s with rd := upd s.rd 1 d, many := 1 + 1, done := s.done + 1 }) ∧ Fr b w w' := by
  have HN : Hid (∀ W, Cp W b s → Calls Tryz.prog 21 #[.pointer (some ⟨b, 0, none⟩)] W fun e w' => e = .returned (.int .u8 (s.next : Nat)) ∧ Up W w') := fun W hW => next_any b s W hW o
  have hk28 := next28 s
  generalize s.next = k at HN hk28 hn hn2
  have HK : Hid (k ≤ 28) := hk28
  have HW : Hid (wantsK k = 1) := by show _ = _; unfold wantsK; rw [if_neg (by omega), if_pos (by omega)]
  have e1 : ((k : Int) == 2) = false := beq_eq_false_iff_ne.2 (by omega)
  have e2 : ((k : Int) == 28) = false := beq_eq_false_iff_ne.2 (by omega)
  have od1 := o.done.1
  have w0 : IntKind.u8.wrap 1 = 1 := rfl
  clear hn hn2 hk28
  go_enter Tryz.func25, Tryz.ntmps25
  go_wp2_with (first
    | (go_at_call 21; refine (HN.out _ (by exact h)).mono ?_; rintro e w1 ⟨rfl, hu⟩
       have h1 := h.up hu
       have c16 : w1.cell? ⟨b, 16, none⟩ = some (.int .u8 s.done) := h1.cell 16
       have f16 := h1.frozen 16
       have c20 : w1.cell? ⟨b, 20, none⟩ = some (.int .u8 1) := by have := h1.cell 20; rw [this]; show some (Value.int .u8 s.many) = _; rw [hm]
       have f20 := h1.frozen 20
       have c18 : w1.cell? ⟨b, 18, none⟩ = some (.int .u8 (s.rd 1)) := h1.cell 18
       have f18 := h1.frozen 18
       have HM : Hid (s.many = 1) := hm
       clear hm
       )
    | (go_at_call 23; refine (wants_any _ _ HK.out).mono ?_; rw [HW.out]; rintro e w' ⟨rfl, n, rfl⟩))
  have k20 : ∀ n, ((w1.drewN n).setCell ⟨b, 18, none⟩ (.int .u8 d)).cell? ⟨b, 20, none⟩ = some (.int .u8 1) := fun n => by
    have hn : Cp (w1.drewN n) b s := h1
    have := (hn.set 18 (.int .u8 d) { s with rd := upd s.rd 1 d } rfl).cell 20
    rw [this]
    show some (Value.int .u8 s.many) = _
    rw [HM.out]
  go_region_held3 (fun w' => w'.cell? ⟨b, 20, none⟩ = some (.int .u8 1)) (first | exact c20 | exact k20 _) (fail)
  clear k20
  go_wp2
  (first | refine bodyPost_end (results_none rfl _ _ _) rfl ?_ | refine bodyPost_ret (results_none rfl _ _ _) rfl ?_)
  exact ⟨rfl, ((h1.set 18 _ { s with rd := upd s.rd 1 d } rfl).set 20 _ { s with rd := upd s.rd 1 d, many := 1 + 1 } rfl).set 16 _ _ rfl, Fr.setCell (Fr.setCell (Fr.setCell (Fr.ofUp (hu.trans (Up.drewN w1 _)))))⟩
set_option maxRecDepth 100000 in
set_option maxHeartbeats 1000000 in
theorem act_read2 (d l : Int) (b : Nat) (s : St) (w : World) (h : Cp w b s) (o : s.Ok) (hd : 0 ≤ d ∧ d ≤ 255) (hl : 0 ≤ l ∧ l ≤ 31) (hn : 2 < s.next) (hn2 : s.next < 12) (ho : s.done ≤ 4) (hm : s.many = 2) :
    Calls Tryz.prog 25 #[.pointer (some ⟨b, 0, none⟩), .int .u8 d, .int .u8 l] w fun e w' => e = .returned (.tuple #[]) ∧ Cp w' b ({ s with rd := upd s.rd 2 d, many := 2 + 1, done := s.done + 1 }) ∧ Fr b w w' := by
  have HN : Hid (∀ W, Cp W b s → Calls Tryz.prog 21 #[.pointer (some ⟨b, 0, none⟩)] W fun e w' => e = .returned (.int .u8 (s.next : Nat)) ∧ Up W w') := fun W hW => next_any b s W hW o
  have hk28 := next28 s
  generalize s.next = k at HN hk28 hn hn2
  have HK : Hid (k ≤ 28) := hk28
  have HW : Hid (wantsK k = 1) := by show _ = _; unfold wantsK; rw [if_neg (by omega), if_pos (by omega)]
  have e1 : ((k : Int) == 2) = false := beq_eq_false_iff_ne.2 (by omega)
  have e2 : ((k : Int) == 28) = false := beq_eq_false_iff_ne.2 (by omega)
  have od1 := o.done.1
  have w0 : IntKind.u8.wrap 2 = 2 := rfl
  clear hn hn2 hk28
  go_enter Tryz.func25, Tryz.ntmps25
  go_wp2_with (first
    | (go_at_call 21; refine (HN.out _ (by exact h)).mono ?_; rintro e w1 ⟨rfl, hu⟩
       have h1 := h.up hu
       have c16 : w1.cell? ⟨b, 16, none⟩ = some (.int .u8 s.done) := h1.cell 16
       have f16 := h1.frozen 16
       have c20 : w1.cell? ⟨b, 20, none⟩ = some (.int .u8 2) := by have := h1.cell 20; rw [this]; show some (Value.int .u8 s.many) = _; rw [hm]
       have f20 := h1.frozen 20
       have c19 : w1.cell? ⟨b, 19, none⟩ = some (.int .u8 (s.rd 2)) := h1.cell 19
       have f19 := h1.frozen 19
       have HM : Hid (s.many = 2) := hm
       clear hm
       )
    | (go_at_call 23; refine (wants_any _ _ HK.out).mono ?_; rw [HW.out]; rintro e w' ⟨rfl, n, rfl⟩))
  have k20 : ∀ n, ((w1.drewN n).setCell ⟨b, 19, none⟩ (.int .u8 d)).cell? ⟨b, 20, none⟩ = some (.int .u8 2) := fun n => by
    have hn : Cp (w1.drewN n) b s := h1
    have := (hn.set 19 (.int .u8 d) { s with rd := upd s.rd 2 d } rfl).cell 20
    rw [this]
    show some (Value.int .u8 s.many) = _
    rw [HM.out]
  go_region_held3 (fun w' => w'.cell? ⟨b, 20, none⟩ = some (.int .u8 2)) (first | exact c20 | exact k20 _) (fail)
  clear k20
  go_wp2
  (first | refine bodyPost_end (results_none rfl _ _ _) rfl ?_ | refine bodyPost_ret (results_none rfl _ _ _) rfl ?_)
  exact ⟨rfl, ((h1.set 19 _ { s with rd := upd s.rd 2 d } rfl).set 20 _ { s with rd := upd s.rd 2 d, many := 2 + 1 } rfl).set 16 _ _ rfl, Fr.setCell (Fr.setCell (Fr.setCell (Fr.ofUp (hu.trans (Up.drewN w1 _)))))⟩
set_option maxRecDepth 100000 in
set_option maxHeartbeats 1000000 in
theorem act_other (d l : Int) (b : Nat) (s : St) (w : World) (h : Cp w b s) (o : s.Ok) (hd : 0 ≤ d ∧ d ≤ 255) (hl : 0 ≤ l ∧ l ≤ 31) (hn : s.next ≠ 2) (hn2 : s.next ≠ 28) (hn3 : ¬ (2 ≤ s.next ∧ s.next < 12)) (ho : s.done ≤ 4) :
    Calls Tryz.prog 25 #[.pointer (some ⟨b, 0, none⟩), .int .u8 d, .int .u8 l] w fun e w' => e = .returned (.tuple #[]) ∧ Cp w' b ({ s with done := s.done + 1 }) ∧ Fr b w w' := by
  have HN : Hid (∀ W, Cp W b s → Calls Tryz.prog 21 #[.pointer (some ⟨b, 0, none⟩)] W fun e w' => e = .returned (.int .u8 (s.next : Nat)) ∧ Up W w') := fun W hW => next_any b s W hW o
  have hk28 := next28 s
  generalize s.next = k at HN hk28 hn hn2 hn3
  have HK : Hid (k ≤ 28) := hk28
  have e1 : ((k : Int) == 2) = false := beq_eq_false_iff_ne.2 (by omega)
  have e2 : ((k : Int) == 28) = false := beq_eq_false_iff_ne.2 (by omega)
  have od1 := o.done.1
  have hwn : (wantsK k == 1) = false := by
    rw [beq_eq_false_iff_ne]
    unfold wantsK
    (repeat' split) <;> omega
  obtain ⟨x, hx⟩ : ∃ x, x = wantsK k := ⟨_, rfl⟩
  have HW : Hid (wantsK k = x) := hx.symm
  rw [← hx] at hwn
  clear hn hn2 hn3 hk28 hx
  go_enter Tryz.func25, Tryz.ntmps25
  go_wp2_with (first
    | (go_at_call 21; refine (HN.out _ (by exact h)).mono ?_; rintro e w1 ⟨rfl, hu⟩
       have h1 := h.up hu
       have c16 : w1.cell? ⟨b, 16, none⟩ = some (.int .u8 s.done) := h1.cell 16
       have f16 := h1.frozen 16
       )
    | (go_at_call 23; refine (wants_any _ _ HK.out).mono ?_; rw [HW.out]; rintro e w' ⟨rfl, n, rfl⟩))
  (first | refine bodyPost_end (results_none rfl _ _ _) rfl ?_ | refine bodyPost_ret (results_none rfl _ _ _) rfl ?_)
  exact ⟨rfl, h1.set 16 _ _ rfl, Fr.setCell (Fr.ofUp (hu.trans (Up.drewN w1 _)))⟩
end Go.Proofs.YtdkibohpdkdooaaGreatDoor
