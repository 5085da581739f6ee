/- What the reference's Turn comes to, as a contract over the translation. Conditions: bytes are 0 to 255. -/
import Derived.Test.YtlbcodjkcjjoeabDoorRefT
namespace Go.Proofs.YtlbcodjkcjjoeabDoor
open Go.ChangeShapes Go.WideShapes Go.ChangeAt Go.RowKit
set_option linter.unusedVariables false
theorem flg128 (z n h c : Bool) : flg z n h c % 128 = flg false n h c := by cases z <;> cases n <;> cases h <;> cases c <;> decide
theorem z128 (f : Int) (h0 : 0 ≤ f) (h1 : f ≤ 255) : (f / 128 % 2 == 1) = (f / 128 == 1) := beqBeq (by omega)

set_option maxRecDepth 100000 in
set_option maxHeartbeats 2000000 in
theorem ref_turn0 (a f : Int) (w : World) (ha : 0 ≤ a) (ha2 : a ≤ 255) (hf : 0 ≤ f) (hf2 : f ≤ 255) :
    Calls Tryd.prog 32 #[.int .i64 0, .int .u8 a, .int .u8 f] w fun e w' => e = .returned (.tuple #[.int .u8 (tuR 0 a f), .int .u8 (tuF 0 a f)]) ∧ Kept w w' := by
  have g0 := shF_lo 0 a f hf
  have g1 := shF_hi 0 a f hf2
  go_enter Tryd.func32, Tryd.ntmps32
  go_wp2_with (first | (go_at_call 55; refine (has_any _ _ _ hf hf2 (by omega) (by omega)).mono ?_; rintro e w' ⟨rfl, rfl⟩) | (go_at_call 31; refine (ref_shift _ _ _ _ ha ha2 hf hf2).mono ?_; rintro e ws ⟨rfl, hk⟩))
  go_ret2
  exact ⟨ret2 rfl (flg128 _ _ _ _), hk⟩

set_option maxRecDepth 100000 in
set_option maxHeartbeats 2000000 in
theorem ref_turn1 (a f : Int) (w : World) (ha : 0 ≤ a) (ha2 : a ≤ 255) (hf : 0 ≤ f) (hf2 : f ≤ 255) :
    Calls Tryd.prog 32 #[.int .i64 1, .int .u8 a, .int .u8 f] w fun e w' => e = .returned (.tuple #[.int .u8 (tuR 1 a f), .int .u8 (tuF 1 a f)]) ∧ Kept w w' := by
  have g0 := shF_lo 1 a f hf
  have g1 := shF_hi 1 a f hf2
  go_enter Tryd.func32, Tryd.ntmps32
  go_wp2_with (first | (go_at_call 55; refine (has_any _ _ _ hf hf2 (by omega) (by omega)).mono ?_; rintro e w' ⟨rfl, rfl⟩) | (go_at_call 31; refine (ref_shift _ _ _ _ ha ha2 hf hf2).mono ?_; rintro e ws ⟨rfl, hk⟩))
  go_ret2
  exact ⟨ret2 rfl (flg128 _ _ _ _), hk⟩

set_option maxRecDepth 100000 in
set_option maxHeartbeats 2000000 in
theorem ref_turn2 (a f : Int) (w : World) (ha : 0 ≤ a) (ha2 : a ≤ 255) (hf : 0 ≤ f) (hf2 : f ≤ 255) :
    Calls Tryd.prog 32 #[.int .i64 2, .int .u8 a, .int .u8 f] w fun e w' => e = .returned (.tuple #[.int .u8 (tuR 2 a f), .int .u8 (tuF 2 a f)]) ∧ Kept w w' := by
  have g0 := shF_lo 2 a f hf
  have g1 := shF_hi 2 a f hf2
  go_enter Tryd.func32, Tryd.ntmps32
  go_wp2_with (first | (go_at_call 55; refine (has_any _ _ _ hf hf2 (by omega) (by omega)).mono ?_; rintro e w' ⟨rfl, rfl⟩) | (go_at_call 31; refine (ref_shift _ _ _ _ ha ha2 hf hf2).mono ?_; rintro e ws ⟨rfl, hk⟩))
  go_ret2
  exact ⟨ret2 rfl (flg128 _ _ _ _), hk⟩

set_option maxRecDepth 100000 in
set_option maxHeartbeats 2000000 in
theorem ref_turn3 (a f : Int) (w : World) (ha : 0 ≤ a) (ha2 : a ≤ 255) (hf : 0 ≤ f) (hf2 : f ≤ 255) :
    Calls Tryd.prog 32 #[.int .i64 3, .int .u8 a, .int .u8 f] w fun e w' => e = .returned (.tuple #[.int .u8 (tuR 3 a f), .int .u8 (tuF 3 a f)]) ∧ Kept w w' := by
  have g0 := shF_lo 3 a f hf
  have g1 := shF_hi 3 a f hf2
  go_enter Tryd.func32, Tryd.ntmps32
  go_wp2_with (first | (go_at_call 55; refine (has_any _ _ _ hf hf2 (by omega) (by omega)).mono ?_; rintro e w' ⟨rfl, rfl⟩) | (go_at_call 31; refine (ref_shift _ _ _ _ ha ha2 hf hf2).mono ?_; rintro e ws ⟨rfl, hk⟩))
  go_ret2
  exact ⟨ret2 rfl (flg128 _ _ _ _), hk⟩

set_option maxRecDepth 100000 in
set_option maxHeartbeats 2000000 in
theorem ref_turn5 (a f : Int) (w : World) (ha : 0 ≤ a) (ha2 : a ≤ 255) (hf : 0 ≤ f) (hf2 : f ≤ 255) :
    Calls Tryd.prog 32 #[.int .i64 5, .int .u8 a, .int .u8 f] w fun e w' => e = .returned (.tuple #[.int .u8 (tuR 5 a f), .int .u8 (tuF 5 a f)]) ∧ Kept w w' := by
  have z := z128 f hf hf2
  have Z : Hid ((f / 128 % 2 == 1) = (f / 128 == 1)) := z
  clear z
  go_enter Tryd.func32, Tryd.ntmps32
  go_wp2_with (first | (go_at_call 55; refine (has_any _ _ _ hf hf2 (by omega) (by omega)).mono ?_; rintro e w' ⟨rfl, rfl⟩) | (go_at_call 58; refine (flags_any _ _ _ _ _).mono ?_; rintro e w' ⟨rfl, rfl⟩))
  go_ret2
  exact ⟨ret2 (by show _ = 255 - a; omega) (flg_congr Z.out rfl rfl rfl), Kept.refl _⟩

set_option maxRecDepth 100000 in
set_option maxHeartbeats 2000000 in
theorem ref_turn6 (a f : Int) (w : World) (ha : 0 ≤ a) (ha2 : a ≤ 255) (hf : 0 ≤ f) (hf2 : f ≤ 255) :
    Calls Tryd.prog 32 #[.int .i64 6, .int .u8 a, .int .u8 f] w fun e w' => e = .returned (.tuple #[.int .u8 (tuR 6 a f), .int .u8 (tuF 6 a f)]) ∧ Kept w w' := by
  have z := z128 f hf hf2
  have Z : Hid ((f / 128 % 2 == 1) = (f / 128 == 1)) := z
  clear z
  go_enter Tryd.func32, Tryd.ntmps32
  go_wp2_with (first | (go_at_call 55; refine (has_any _ _ _ hf hf2 (by omega) (by omega)).mono ?_; rintro e w' ⟨rfl, rfl⟩) | (go_at_call 58; refine (flags_any _ _ _ _ _).mono ?_; rintro e w' ⟨rfl, rfl⟩))
  go_ret2
  exact ⟨ret2 rfl (flg_congr Z.out rfl rfl rfl), Kept.refl _⟩

set_option maxRecDepth 100000 in
set_option maxHeartbeats 2000000 in
theorem ref_turn7 (a f : Int) (w : World) (ha : 0 ≤ a) (ha2 : a ≤ 255) (hf : 0 ≤ f) (hf2 : f ≤ 255) :
    Calls Tryd.prog 32 #[.int .i64 7, .int .u8 a, .int .u8 f] w fun e w' => e = .returned (.tuple #[.int .u8 (tuR 7 a f), .int .u8 (tuF 7 a f)]) ∧ Kept w w' := by
  have z := z128 f hf hf2
  have Z : Hid ((f / 128 % 2 == 1) = (f / 128 == 1)) := z
  clear z
  go_enter Tryd.func32, Tryd.ntmps32
  go_wp2_with (first | (go_at_call 55; refine (has_any _ _ _ hf hf2 (by omega) (by omega)).mono ?_; rintro e w' ⟨rfl, rfl⟩) | (go_at_call 58; refine (flags_any _ _ _ _ _).mono ?_; rintro e w' ⟨rfl, rfl⟩))
  go_ret2
  exact ⟨ret2 rfl (flg_congr Z.out rfl rfl rfl), Kept.refl _⟩

set_option maxRecDepth 100000 in
set_option maxHeartbeats 4000000 in
theorem ref_daaDif (a f : Int) (w : World) (ha : 0 ≤ a) (ha2 : a ≤ 255) (hf : 0 ≤ f) (hf2 : f ≤ 255) (hN : (f / 64 % 2 == 1) = true) :
    Calls Tryd.prog 32 #[.int .i64 4, .int .u8 a, .int .u8 f] w fun e w' => e = .returned (.tuple #[.int .u8 (daDif a f), .int .u8 (flg (daDif a f == 0) true false (cof f == 1))]) ∧ Kept w w' := by
  have eS : Hid (daDif a f = (a - flagI (f / 16 % 2 == 1) 96 - flagI (f / 32 % 2 == 1) 6) % 256) := rfl
  have eC : Hid ((cof f == 1) = (f / 16 % 2 == 1)) := rfl
  generalize daDif a f = S at *
  generalize (cof f == 1) = C at *
  cases hC : (f / 16 % 2 == 1) <;> cases hD : (f / 32 % 2 == 1)
  all_goals
    go_enter Tryd.func32, Tryd.ntmps32
    go_wp2_with (first | (go_at_call 55; refine (has_any _ _ _ hf hf2 (by omega) (by omega)).mono ?_; rintro e w' ⟨rfl, rfl⟩) | (go_at_call 58; refine (flags_any _ _ _ _ _).mono ?_; rintro e w' ⟨rfl, rfl⟩))
    go_ret2
    have e1 := eS.out
    rw [hC, hD] at e1
    simp only [flagI, if_true, if_false, Bool.false_eq_true] at e1
    exact ⟨ret2 (by rw [e1] <;> omega) (flg_congr (beqBeq (by rw [e1] <;> omega)) rfl rfl (by rw [eC.out, hC])), Kept.refl _⟩
set_option maxRecDepth 100000 in
set_option maxHeartbeats 4000000 in
theorem ref_daaSum (a f : Int) (w : World) (ha : 0 ≤ a) (ha2 : a ≤ 255) (hf : 0 ≤ f) (hf2 : f ≤ 255) (hN : (f / 64 % 2 == 1) = false) :
    Calls Tryd.prog 32 #[.int .i64 4, .int .u8 a, .int .u8 f] w fun e w' => e = .returned (.tuple #[.int .u8 (daSum a f), .int .u8 (flg (daSum a f == 0) false false (daHi a f))]) ∧ Kept w w' := by
  have eS : Hid (daSum a f = (a + flagI (f / 16 % 2 == 1 || decide (153 < a)) 96 + flagI (f / 32 % 2 == 1 || decide (9 < a % 16)) 6) % 256) := rfl
  have eH : Hid (daHi a f = (f / 16 % 2 == 1 || decide (153 < a))) := rfl
  generalize daSum a f = S at *
  generalize daHi a f = T at *
  cases hC : (f / 16 % 2 == 1) <;> cases hD : (f / 32 % 2 == 1) <;> cases h1 : decide (153 < a) <;> cases h2 : decide (9 < a % 16)
  all_goals
    go_enter Tryd.func32, Tryd.ntmps32
    go_wp2_with (first | (go_at_call 55; refine (has_any _ _ _ hf hf2 (by omega) (by omega)).mono ?_; rintro e w' ⟨rfl, rfl⟩) | (go_at_call 58; refine (flags_any _ _ _ _ _).mono ?_; rintro e w' ⟨rfl, rfl⟩))
    go_ret2
    have e1 := eS.out
    have e2 := eH.out
    rw [hC, h1] at e2
    rw [hC, hD, h1, h2] at e1
    simp only [flagI, if_true, if_false, Bool.false_eq_true, Bool.true_or, Bool.or_true, Bool.or_self] at e1
    exact ⟨ret2 (by rw [e1] <;> omega) (flg_congr (beqBeq (by rw [e1] <;> omega)) rfl rfl (by rw [e2]; rfl)), Kept.refl _⟩
theorem ref_turn4 (a f : Int) (w : World) (ha : 0 ≤ a) (ha2 : a ≤ 255) (hf : 0 ≤ f) (hf2 : f ≤ 255) :
    Calls Tryd.prog 32 #[.int .i64 4, .int .u8 a, .int .u8 f] w fun e w' => e = .returned (.tuple #[.int .u8 (tuR 4 a f), .int .u8 (tuF 4 a f)]) ∧ Kept w w' := by
  by_cases h : f / 64 % 2 = 1
  · have e1 : tuR 4 a f = daDif a f := show daR a f = _ by unfold daR; rw [if_pos h]
    have e2 : tuF 4 a f = flg (daDif a f == 0) true false (cof f == 1) := show daF a f = _ by unfold daF; rw [if_pos h]
    rw [e1, e2]
    exact ref_daaDif a f w ha ha2 hf hf2 (beq_iff_eq.2 h)
  · have e1 : tuR 4 a f = daSum a f := show daR a f = _ by unfold daR; rw [if_neg h]
    have e2 : tuF 4 a f = flg (daSum a f == 0) false false (daHi a f) := show daF a f = _ by unfold daF; rw [if_neg h]
    rw [e1, e2]
    exact ref_daaSum a f w ha ha2 hf hf2 (beq_eq_false_iff_ne.2 h)
set_option maxRecDepth 100000 in
set_option maxHeartbeats 4000000 in
theorem ref_turnNone (op a f : Int) (w : World) (ho : op < 0 ∨ 8 ≤ op) (ha : 0 ≤ a) (ha2 : a ≤ 255) (hf : 0 ≤ f) (hf2 : f ≤ 255) :
    Calls Tryd.prog 32 #[.int .i64 op, .int .u8 a, .int .u8 f] w fun e w' => e = .returned (.tuple #[.int .u8 (tuR op a f), .int .u8 (tuF op a f)]) ∧ Kept w w' := by
  have e1 : Hid (tuR op a f = a) := tuR_none op a f ho
  have e2 : Hid (tuF op a f = f / 16 * 16) := tuF_none op a f ho
  have n0 : (op == 0) = false := beq_eq_false_iff_ne.2 (by omega)
  have n1 : (op == 1) = false := beq_eq_false_iff_ne.2 (by omega)
  have n2 : (op == 2) = false := beq_eq_false_iff_ne.2 (by omega)
  have n3 : (op == 3) = false := beq_eq_false_iff_ne.2 (by omega)
  have n4 : (op == 4) = false := beq_eq_false_iff_ne.2 (by omega)
  have n5 : (op == 5) = false := beq_eq_false_iff_ne.2 (by omega)
  have n6 : (op == 6) = false := beq_eq_false_iff_ne.2 (by omega)
  have n7 : (op == 7) = false := beq_eq_false_iff_ne.2 (by omega)
  clear ho
  go_enter Tryd.func32, Tryd.ntmps32
  go_wp2_with (first | (go_at_call 55; refine (has_any _ _ _ hf hf2 (by omega) (by omega)).mono ?_; rintro e w' ⟨rfl, rfl⟩) | (go_at_call 60; refine (clean_any _ _ hf hf2).mono ?_; rintro e wf ⟨rfl, rfl⟩))
  go_ret2
  exact ⟨ret2 e1.out.symm e2.out.symm, Kept.refl _⟩
theorem ref_turn (op a f : Int) (w : World) (ha : 0 ≤ a) (ha2 : a ≤ 255) (hf : 0 ≤ f) (hf2 : f ≤ 255) :
    Calls Tryd.prog 32 #[.int .i64 op, .int .u8 a, .int .u8 f] w fun e w' => e = .returned (.tuple #[.int .u8 (tuR op a f), .int .u8 (tuF op a f)]) ∧ Kept w w' := by
  by_cases h : op < 0 ∨ 8 ≤ op
  · exact ref_turnNone op a f w h ha ha2 hf hf2
  · have hh : op = 0 ∨ op = 1 ∨ op = 2 ∨ op = 3 ∨ op = 4 ∨ op = 5 ∨ op = 6 ∨ op = 7 := by omega
    rcases hh with rfl | rfl | rfl | rfl | rfl | rfl | rfl | rfl
    · exact ref_turn0 a f w ha ha2 hf hf2
    · exact ref_turn1 a f w ha ha2 hf hf2
    · exact ref_turn2 a f w ha ha2 hf hf2
    · exact ref_turn3 a f w ha ha2 hf hf2
    · exact ref_turn4 a f w ha ha2 hf hf2
    · exact ref_turn5 a f w ha ha2 hf hf2
    · exact ref_turn6 a f w ha ha2 hf hf2
    · exact ref_turn7 a f w ha ha2 hf hf2
end Go.Proofs.YtlbcodjkcjjoeabDoor
