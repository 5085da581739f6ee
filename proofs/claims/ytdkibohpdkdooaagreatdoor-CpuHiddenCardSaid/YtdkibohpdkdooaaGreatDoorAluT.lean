/- What the calls Turn, Bit, Res and Set of package alu come to, as contracts over the translation. Conditions: bytes are 0 to 255; the table of bits holds the powers of 2. -/
import Derived.Test.YtdkibohpdkdooaaGreatDoorAluD
namespace Go.Proofs.YtdkibohpdkdooaaGreatDoor
open Go.ChangeShapes Go.WideShapes Go.ChangeAt Go.RowKit
set_option linter.unusedVariables false
theorem fCpl : ∀ a : Int, 0 ≤ a → a ≤ 255 → bits .xor .u8 IntKind.u8.max a = 255 - a := byteAll (by decide +kernel)
theorem dsFin {r S g : Int} {T : Bool} (h : r = S) (hg : g = flagI T 16) : bits .or .u8 (flagI (r == 0) 128) g = flg (S == 0) false false T := by rw [h, hg, orDs]
theorem biFin {r g : Int} {z T : Bool} (h : (r == 0) = z) (hg : g = flagI T 16) : bits .or .u8 (bits .or .u8 (flagI (r == 0) 128) 32) g = flg z false true T := by rw [h, hg, orBit]
theorem ddFin {r S g : Int} {T : Bool} (h : r = S) (hg : g = flagI T 16) : bits .or .u8 (bits .or .u8 (flagI (r == 0) 128) 64) g = flg (S == 0) true false T := by rw [h, hg, orDd]
theorem withoutZero_any (r g : Int) (w : World) :
    Calls Tryz.prog 161 #[.int .u8 r, .int .u8 g] w fun e w' => e = .returned (.tuple #[.int .u8 r, .int .u8 (bits .andNot .u8 g 128)]) ∧ w' = w := by
  go_enter Tryz.func161, Tryz.ntmps161
  go_wp2
  go_ret2
  exact ⟨rfl, rfl⟩
theorem rlca_any (a f : Int) (w : World) (hL : LaidB w) (ha : 0 ≤ a) (ha2 : a ≤ 255) (hf : 0 ≤ f) (hf2 : f ≤ 255) :
    Calls Tryz.prog 152 #[.int .u8 a, .int .u8 f] w fun e w' => e = .returned (.tuple #[.int .u8 (tuR 0 a f), .int .u8 (tuF 0 a f)]) ∧ Grown w w' := by
  go_enter Tryz.func152, Tryz.ntmps152
  go_wp2_with (first | (go_at_call 127; refine (rlc_any _ _ _ hL ha ha2 hf hf2).mono ?_; rintro e w' ⟨rfl, hg⟩) | (go_at_call 161; refine (withoutZero_any _ _ _).mono ?_; rintro e w' ⟨rfl, rfl⟩))
  go_ret2
  exact ⟨ret2 rfl (andNot128 _ _ _ _), hg⟩
theorem rrca_any (a f : Int) (w : World) (hL : LaidB w) (ha : 0 ≤ a) (ha2 : a ≤ 255) (hf : 0 ≤ f) (hf2 : f ≤ 255) :
    Calls Tryz.prog 153 #[.int .u8 a, .int .u8 f] w fun e w' => e = .returned (.tuple #[.int .u8 (tuR 1 a f), .int .u8 (tuF 1 a f)]) ∧ Grown w w' := by
  go_enter Tryz.func153, Tryz.ntmps153
  go_wp2_with (first | (go_at_call 128; refine (rrc_any _ _ _ hL ha ha2 hf hf2).mono ?_; rintro e w' ⟨rfl, hg⟩) | (go_at_call 161; refine (withoutZero_any _ _ _).mono ?_; rintro e w' ⟨rfl, rfl⟩))
  go_ret2
  exact ⟨ret2 rfl (andNot128 _ _ _ _), hg⟩
theorem rla_any (a f : Int) (w : World) (hL : LaidB w) (ha : 0 ≤ a) (ha2 : a ≤ 255) (hf : 0 ≤ f) (hf2 : f ≤ 255) :
    Calls Tryz.prog 154 #[.int .u8 a, .int .u8 f] w fun e w' => e = .returned (.tuple #[.int .u8 (tuR 2 a f), .int .u8 (tuF 2 a f)]) ∧ Grown w w' := by
  go_enter Tryz.func154, Tryz.ntmps154
  go_wp2_with (first | (go_at_call 129; refine (rl_any _ _ _ hL ha ha2 hf hf2).mono ?_; rintro e w' ⟨rfl, hg⟩) | (go_at_call 161; refine (withoutZero_any _ _ _).mono ?_; rintro e w' ⟨rfl, rfl⟩))
  go_ret2
  exact ⟨ret2 rfl (andNot128 _ _ _ _), hg⟩
theorem rra_any (a f : Int) (w : World) (hL : LaidB w) (ha : 0 ≤ a) (ha2 : a ≤ 255) (hf : 0 ≤ f) (hf2 : f ≤ 255) :
    Calls Tryz.prog 155 #[.int .u8 a, .int .u8 f] w fun e w' => e = .returned (.tuple #[.int .u8 (tuR 3 a f), .int .u8 (tuF 3 a f)]) ∧ Grown w w' := by
  go_enter Tryz.func155, Tryz.ntmps155
  go_wp2_with (first | (go_at_call 130; refine (rr_any _ _ _ hL ha ha2 hf hf2).mono ?_; rintro e w' ⟨rfl, hg⟩) | (go_at_call 161; refine (withoutZero_any _ _ _).mono ?_; rintro e w' ⟨rfl, rfl⟩))
  go_ret2
  exact ⟨ret2 rfl (andNot128 _ _ _ _), hg⟩
set_option maxHeartbeats 1000000 in
theorem decimalSum_any (a f : Int) (w : World) (ha : 0 ≤ a) (ha2 : a ≤ 255) (hf : 0 ≤ f) (hf2 : f ≤ 255) :
    Calls Tryz.prog 163 #[.int .u8 a, .int .u8 f] w fun e w' => e = .returned (.tuple #[.int .u8 (daSum a f), .int .u8 (flg (daSum a f == 0) false false (daHi a f))]) ∧ w' = w := by
  have b16 := has16 f hf hf2
  have b32 := has32 f hf hf2
  have eS : Hid (daSum a f = (a + flagI (cof f == 1 || decide (153 < a)) 96 + flagI (f / 32 % 2 == 1 || decide (9 < a % 16)) 6) % 256) := rfl
  have eH : Hid (daHi a f = (cof f == 1 || decide (153 < a))) := rfl
  generalize daSum a f = S at *
  generalize daHi a f = T at *
  generalize (cof f == 1) = C at *
  generalize (f / 32 % 2 == 1) = D at *
  by_cases h1 : 153 < a <;> by_cases h2 : 9 < a % 16 <;> cases C <;> cases D
  all_goals
    have e1 := eS.out
    have e2 := eH.out
    simp only [h1, h2, decide_true, decide_false, Bool.true_or, Bool.or_true, Bool.or_self] at e1 e2
    clear eS eH
    have eS : Hid (S = _) := e1
    have eH : Hid (T = _) := e2
    clear e1 e2
    go_enter Tryz.func163, Tryz.ntmps163
    go_wp2_with (go_at_call 149; refine (zeroFlag_any _ _).mono ?_; rintro e w' ⟨rfl, rfl⟩)
    go_ret2
    exact ⟨ret2 (by rw [eS.out]; simp only [flagI, if_true, if_false, Bool.false_eq_true] <;> omega) (dsFin (by rw [eS.out]; simp only [flagI, if_true, if_false, Bool.false_eq_true] <;> omega) (by rw [eH.out]; rfl)), rfl⟩
set_option maxHeartbeats 1000000 in
theorem decimalDifference_any (a f : Int) (w : World) (ha : 0 ≤ a) (ha2 : a ≤ 255) (hf : 0 ≤ f) (hf2 : f ≤ 255) :
    Calls Tryz.prog 162 #[.int .u8 a, .int .u8 f] w fun e w' => e = .returned (.tuple #[.int .u8 (daDif a f), .int .u8 (flg (daDif a f == 0) true false (cof f == 1))]) ∧ w' = w := by
  have b16 := has16 f hf hf2
  have b32 := has32 f hf hf2
  have m16 : Hid (bits .and .u8 f 16 = flagI (cof f == 1) 16) := and16 f hf hf2
  have eS : Hid (daDif a f = (a - flagI (cof f == 1) 96 - flagI (f / 32 % 2 == 1) 6) % 256) := rfl
  generalize daDif a f = S at *
  generalize (cof f == 1) = C at *
  generalize (f / 32 % 2 == 1) = D at *
  cases C <;> cases D
  all_goals
    go_enter Tryz.func162, Tryz.ntmps162
    go_wp2_with (go_at_call 149; refine (zeroFlag_any _ _).mono ?_; rintro e w' ⟨rfl, rfl⟩)
    go_ret2
    exact ⟨ret2 (by rw [eS.out]; simp only [flagI, if_true, if_false, Bool.false_eq_true] <;> omega) (ddFin (by rw [eS.out]; simp only [flagI, if_true, if_false, Bool.false_eq_true] <;> omega) m16.out), rfl⟩
theorem daa_any (a f : Int) (w : World) (hL : LaidB w) (ha : 0 ≤ a) (ha2 : a ≤ 255) (hf : 0 ≤ f) (hf2 : f ≤ 255) :
    Calls Tryz.prog 156 #[.int .u8 a, .int .u8 f] w fun e w' => e = .returned (.tuple #[.int .u8 (tuR 4 a f), .int .u8 (tuF 4 a f)]) ∧ Grown w w' := by
  have b64 := has64 f hf hf2
  by_cases h : f / 64 % 2 = 1
  · have e1 : Hid (tuR 4 a f = daDif a f) := show daR a f = _ by unfold daR; rw [if_pos h]
    have e2 : Hid (tuF 4 a f = flg (daDif a f == 0) true false (cof f == 1)) := show daF a f = _ by unfold daF; rw [if_pos h]
    rw [beq_iff_eq.2 h] at b64
    clear h
    go_enter Tryz.func156, Tryz.ntmps156
    go_wp2_with (first | (go_at_call 162; refine (decimalDifference_any _ _ _ ha ha2 hf hf2).mono ?_; rintro e w' ⟨rfl, rfl⟩))
    go_ret2
    exact ⟨ret2 e1.out.symm e2.out.symm, Grown.refl _⟩
  · have e1 : Hid (tuR 4 a f = daSum a f) := show daR a f = _ by unfold daR; rw [if_neg h]
    have e2 : Hid (tuF 4 a f = flg (daSum a f == 0) false false (daHi a f)) := show daF a f = _ by unfold daF; rw [if_neg h]
    rw [beq_eq_false_iff_ne.2 h] at b64
    clear h
    go_enter Tryz.func156, Tryz.ntmps156
    go_wp2_with (first | (go_at_call 163; refine (decimalSum_any _ _ _ ha ha2 hf hf2).mono ?_; rintro e w' ⟨rfl, rfl⟩))
    go_ret2
    exact ⟨ret2 e1.out.symm e2.out.symm, Grown.refl _⟩
theorem cpl_any (a f : Int) (w : World) (hL : LaidB w) (ha : 0 ≤ a) (ha2 : a ≤ 255) (hf : 0 ≤ f) (hf2 : f ≤ 255) :
    Calls Tryz.prog 157 #[.int .u8 a, .int .u8 f] w fun e w' => e = .returned (.tuple #[.int .u8 (tuR 5 a f), .int .u8 (tuF 5 a f)]) ∧ Grown w w' := by
  go_enter Tryz.func157, Tryz.ntmps157
  go_wp2
  go_ret2
  exact ⟨ret2 (fCpl a ha ha2) (orCpl f hf hf2), Grown.refl _⟩
theorem scf_any (a f : Int) (w : World) (hL : LaidB w) (ha : 0 ≤ a) (ha2 : a ≤ 255) (hf : 0 ≤ f) (hf2 : f ≤ 255) :
    Calls Tryz.prog 158 #[.int .u8 a, .int .u8 f] w fun e w' => e = .returned (.tuple #[.int .u8 (tuR 6 a f), .int .u8 (tuF 6 a f)]) ∧ Grown w w' := by
  go_enter Tryz.func158, Tryz.ntmps158
  go_wp2
  go_ret2
  exact ⟨ret2 rfl (orScf f hf hf2), Grown.refl _⟩
theorem ccf_any (a f : Int) (w : World) (hL : LaidB w) (ha : 0 ≤ a) (ha2 : a ≤ 255) (hf : 0 ≤ f) (hf2 : f ≤ 255) :
    Calls Tryz.prog 159 #[.int .u8 a, .int .u8 f] w fun e w' => e = .returned (.tuple #[.int .u8 (tuR 7 a f), .int .u8 (tuF 7 a f)]) ∧ Grown w w' := by
  go_enter Tryz.func159, Tryz.ntmps159
  go_wp2
  go_ret2
  exact ⟨ret2 rfl (xorCcf f hf hf2), Grown.refl _⟩
set_option maxHeartbeats 2000000 in
theorem turn_any (op a f : Int) (w : World) (hL : LaidB w) (ha : 0 ≤ a) (ha2 : a ≤ 255) (hf : 0 ≤ f) (hf2 : f ≤ 255) :
    Calls Tryz.prog 139 #[.int .i64 op, .int .u8 a, .int .u8 f] w fun e w' => e = .returned (.tuple #[.int .u8 (tuR op a f), .int .u8 (tuF op a f)]) ∧ Grown w w' := by
  by_cases h0 : op < 0
  · have e1 : Hid (tuR op a f = a) := tuR_none op a f (by omega)
    have e2 : Hid (tuF op a f = f / 16 * 16) := tuF_none op a f (by omega)
    go_enter Tryz.func139, Tryz.ntmps139
    go_wp2_with (go_at_call 126; refine (nothing_any _ _ _ hf hf2).mono ?_; rintro e w' ⟨rfl, rfl⟩)
    go_ret2
    exact ⟨ret2 e1.out.symm e2.out.symm, Grown.alloc (Grown.refl _) _ _⟩
  · by_cases h8 : 8 ≤ op
    · have e1 : Hid (tuR op a f = a) := tuR_none op a f (by omega)
      have e2 : Hid (tuF op a f = f / 16 * 16) := tuF_none op a f (by omega)
      go_enter Tryz.func139, Tryz.ntmps139
      go_wp2_with (go_at_call 126; refine (nothing_any _ _ _ hf hf2).mono ?_; rintro e w' ⟨rfl, rfl⟩)
      go_ret2
      exact ⟨ret2 e1.out.symm e2.out.symm, Grown.alloc (Grown.refl _) _ _⟩
    · have hh : op = 0 ∨ op = 1 ∨ op = 2 ∨ op = 3 ∨ op = 4 ∨ op = 5 ∨ op = 6 ∨ op = 7 := by omega
      clear h0 h8
      rcases hh with rfl | rfl | rfl | rfl | rfl | rfl | rfl | rfl
      · go_enter Tryz.func139, Tryz.ntmps139
        go_wp2_with (go_at_call 152; refine (rlca_any _ _ _ (by exact hL.grown (Grown.alloc (Grown.refl _) _ _)) ha ha2 hf hf2).mono ?_; rintro e w' ⟨rfl, hg⟩)
        go_ret2
        exact ⟨rfl, Grown.step (Grown.alloc (Grown.refl _) _ _) hg⟩
      · go_enter Tryz.func139, Tryz.ntmps139
        go_wp2_with (go_at_call 153; refine (rrca_any _ _ _ (by exact hL.grown (Grown.alloc (Grown.refl _) _ _)) ha ha2 hf hf2).mono ?_; rintro e w' ⟨rfl, hg⟩)
        go_ret2
        exact ⟨rfl, Grown.step (Grown.alloc (Grown.refl _) _ _) hg⟩
      · go_enter Tryz.func139, Tryz.ntmps139
        go_wp2_with (go_at_call 154; refine (rla_any _ _ _ (by exact hL.grown (Grown.alloc (Grown.refl _) _ _)) ha ha2 hf hf2).mono ?_; rintro e w' ⟨rfl, hg⟩)
        go_ret2
        exact ⟨rfl, Grown.step (Grown.alloc (Grown.refl _) _ _) hg⟩
      · go_enter Tryz.func139, Tryz.ntmps139
        go_wp2_with (go_at_call 155; refine (rra_any _ _ _ (by exact hL.grown (Grown.alloc (Grown.refl _) _ _)) ha ha2 hf hf2).mono ?_; rintro e w' ⟨rfl, hg⟩)
        go_ret2
        exact ⟨rfl, Grown.step (Grown.alloc (Grown.refl _) _ _) hg⟩
      · go_enter Tryz.func139, Tryz.ntmps139
        go_wp2_with (go_at_call 156; refine (daa_any _ _ _ (by exact hL.grown (Grown.alloc (Grown.refl _) _ _)) ha ha2 hf hf2).mono ?_; rintro e w' ⟨rfl, hg⟩)
        go_ret2
        exact ⟨rfl, Grown.step (Grown.alloc (Grown.refl _) _ _) hg⟩
      · go_enter Tryz.func139, Tryz.ntmps139
        go_wp2_with (go_at_call 157; refine (cpl_any _ _ _ (by exact hL.grown (Grown.alloc (Grown.refl _) _ _)) ha ha2 hf hf2).mono ?_; rintro e w' ⟨rfl, hg⟩)
        go_ret2
        exact ⟨rfl, Grown.step (Grown.alloc (Grown.refl _) _ _) hg⟩
      · go_enter Tryz.func139, Tryz.ntmps139
        go_wp2_with (go_at_call 158; refine (scf_any _ _ _ (by exact hL.grown (Grown.alloc (Grown.refl _) _ _)) ha ha2 hf hf2).mono ?_; rintro e w' ⟨rfl, hg⟩)
        go_ret2
        exact ⟨rfl, Grown.step (Grown.alloc (Grown.refl _) _ _) hg⟩
      · go_enter Tryz.func139, Tryz.ntmps139
        go_wp2_with (go_at_call 159; refine (ccf_any _ _ _ (by exact hL.grown (Grown.alloc (Grown.refl _) _ _)) ha ha2 hf hf2).mono ?_; rintro e w' ⟨rfl, hg⟩)
        go_ret2
        exact ⟨rfl, Grown.step (Grown.alloc (Grown.refl _) _ _) hg⟩
set_option maxHeartbeats 2000000 in
theorem bit_any (n a f : Int) (w : World) (hL : LaidB w) (ha : 0 ≤ a) (ha2 : a ≤ 255) (hf : 0 ≤ f) (hf2 : f ≤ 255) :
    Calls Tryz.prog 135 #[.int .i64 n, .int .u8 a, .int .u8 f] w fun e w' => e = .returned (.int .u8 (biF n a f)) ∧ w' = w := by
  by_cases h0 : n < 0 ∨ 8 ≤ n
  · have e1 : Hid (biF n a f = f / 16 * 16) := by show biF n a f = _; unfold biF; rw [if_pos h0]
    rcases h0 with h0 | h0
    · go_enter Tryz.func135, Tryz.ntmps135
      go_wp2
      go_ret
      exact ⟨ret1 ((and240 f hf hf2).trans e1.out.symm), rfl⟩
    · go_enter Tryz.func135, Tryz.ntmps135
      go_wp2
      go_ret
      exact ⟨ret1 ((and240 f hf hf2).trans e1.out.symm), rfl⟩
  · have hh : n = 0 ∨ n = 1 ∨ n = 2 ∨ n = 3 ∨ n = 4 ∨ n = 5 ∨ n = 6 ∨ n = 7 := by omega
    clear h0
    rcases hh with rfl | rfl | rfl | rfl | rfl | rfl | rfl | rfl
    · have hc : w.cell? ⟨0, 0, none⟩ = some (.int .u8 1) := hL.2 0 (by decide)
      go_enter Tryz.func135, Tryz.ntmps135
      go_wp2_with (first | (go_at_call 149; refine (zeroFlag_any _ _).mono ?_; rintro e w' ⟨rfl, rfl⟩))
      go_ret
      exact ⟨ret1 (biFin (bitAt 0 (by decide) a ha ha2) (and16 f hf hf2)), rfl⟩
    · have hc : w.cell? ⟨0, 1, none⟩ = some (.int .u8 2) := hL.2 1 (by decide)
      go_enter Tryz.func135, Tryz.ntmps135
      go_wp2_with (first | (go_at_call 149; refine (zeroFlag_any _ _).mono ?_; rintro e w' ⟨rfl, rfl⟩))
      go_ret
      exact ⟨ret1 (biFin (bitAt 1 (by decide) a ha ha2) (and16 f hf hf2)), rfl⟩
    · have hc : w.cell? ⟨0, 2, none⟩ = some (.int .u8 4) := hL.2 2 (by decide)
      go_enter Tryz.func135, Tryz.ntmps135
      go_wp2_with (first | (go_at_call 149; refine (zeroFlag_any _ _).mono ?_; rintro e w' ⟨rfl, rfl⟩))
      go_ret
      exact ⟨ret1 (biFin (bitAt 2 (by decide) a ha ha2) (and16 f hf hf2)), rfl⟩
    · have hc : w.cell? ⟨0, 3, none⟩ = some (.int .u8 8) := hL.2 3 (by decide)
      go_enter Tryz.func135, Tryz.ntmps135
      go_wp2_with (first | (go_at_call 149; refine (zeroFlag_any _ _).mono ?_; rintro e w' ⟨rfl, rfl⟩))
      go_ret
      exact ⟨ret1 (biFin (bitAt 3 (by decide) a ha ha2) (and16 f hf hf2)), rfl⟩
    · have hc : w.cell? ⟨0, 4, none⟩ = some (.int .u8 16) := hL.2 4 (by decide)
      go_enter Tryz.func135, Tryz.ntmps135
      go_wp2_with (first | (go_at_call 149; refine (zeroFlag_any _ _).mono ?_; rintro e w' ⟨rfl, rfl⟩))
      go_ret
      exact ⟨ret1 (biFin (bitAt 4 (by decide) a ha ha2) (and16 f hf hf2)), rfl⟩
    · have hc : w.cell? ⟨0, 5, none⟩ = some (.int .u8 32) := hL.2 5 (by decide)
      go_enter Tryz.func135, Tryz.ntmps135
      go_wp2_with (first | (go_at_call 149; refine (zeroFlag_any _ _).mono ?_; rintro e w' ⟨rfl, rfl⟩))
      go_ret
      exact ⟨ret1 (biFin (bitAt 5 (by decide) a ha ha2) (and16 f hf hf2)), rfl⟩
    · have hc : w.cell? ⟨0, 6, none⟩ = some (.int .u8 64) := hL.2 6 (by decide)
      go_enter Tryz.func135, Tryz.ntmps135
      go_wp2_with (first | (go_at_call 149; refine (zeroFlag_any _ _).mono ?_; rintro e w' ⟨rfl, rfl⟩))
      go_ret
      exact ⟨ret1 (biFin (bitAt 6 (by decide) a ha ha2) (and16 f hf hf2)), rfl⟩
    · have hc : w.cell? ⟨0, 7, none⟩ = some (.int .u8 128) := hL.2 7 (by decide)
      go_enter Tryz.func135, Tryz.ntmps135
      go_wp2_with (first | (go_at_call 149; refine (zeroFlag_any _ _).mono ?_; rintro e w' ⟨rfl, rfl⟩))
      go_ret
      exact ⟨ret1 (biFin (bitAt 7 (by decide) a ha ha2) (and16 f hf hf2)), rfl⟩
set_option maxHeartbeats 2000000 in
theorem res_any (n a : Int) (w : World) (hL : LaidB w) (ha : 0 ≤ a) (ha2 : a ≤ 255) :
    Calls Tryz.prog 136 #[.int .i64 n, .int .u8 a] w fun e w' => e = .returned (.int .u8 (reR n a)) ∧ w' = w := by
  by_cases h0 : n < 0 ∨ 8 ≤ n
  · have e1 : Hid (reR n a = a) := by show reR n a = _; unfold reR; rw [if_pos h0]
    rcases h0 with h0 | h0
    · go_enter Tryz.func136, Tryz.ntmps136
      go_wp2
      go_ret
      exact ⟨ret1 (e1.out.symm), rfl⟩
    · go_enter Tryz.func136, Tryz.ntmps136
      go_wp2
      go_ret
      exact ⟨ret1 (e1.out.symm), rfl⟩
  · have hh : n = 0 ∨ n = 1 ∨ n = 2 ∨ n = 3 ∨ n = 4 ∨ n = 5 ∨ n = 6 ∨ n = 7 := by omega
    clear h0
    rcases hh with rfl | rfl | rfl | rfl | rfl | rfl | rfl | rfl
    · have hc : w.cell? ⟨0, 0, none⟩ = some (.int .u8 1) := hL.2 0 (by decide)
      go_enter Tryz.func136, Tryz.ntmps136
      go_wp2_with (first | (go_at_call 149; refine (zeroFlag_any _ _).mono ?_; rintro e w' ⟨rfl, rfl⟩))
      go_ret
      exact ⟨ret1 (resAt 0 (by decide) a ha ha2), rfl⟩
    · have hc : w.cell? ⟨0, 1, none⟩ = some (.int .u8 2) := hL.2 1 (by decide)
      go_enter Tryz.func136, Tryz.ntmps136
      go_wp2_with (first | (go_at_call 149; refine (zeroFlag_any _ _).mono ?_; rintro e w' ⟨rfl, rfl⟩))
      go_ret
      exact ⟨ret1 (resAt 1 (by decide) a ha ha2), rfl⟩
    · have hc : w.cell? ⟨0, 2, none⟩ = some (.int .u8 4) := hL.2 2 (by decide)
      go_enter Tryz.func136, Tryz.ntmps136
      go_wp2_with (first | (go_at_call 149; refine (zeroFlag_any _ _).mono ?_; rintro e w' ⟨rfl, rfl⟩))
      go_ret
      exact ⟨ret1 (resAt 2 (by decide) a ha ha2), rfl⟩
    · have hc : w.cell? ⟨0, 3, none⟩ = some (.int .u8 8) := hL.2 3 (by decide)
      go_enter Tryz.func136, Tryz.ntmps136
      go_wp2_with (first | (go_at_call 149; refine (zeroFlag_any _ _).mono ?_; rintro e w' ⟨rfl, rfl⟩))
      go_ret
      exact ⟨ret1 (resAt 3 (by decide) a ha ha2), rfl⟩
    · have hc : w.cell? ⟨0, 4, none⟩ = some (.int .u8 16) := hL.2 4 (by decide)
      go_enter Tryz.func136, Tryz.ntmps136
      go_wp2_with (first | (go_at_call 149; refine (zeroFlag_any _ _).mono ?_; rintro e w' ⟨rfl, rfl⟩))
      go_ret
      exact ⟨ret1 (resAt 4 (by decide) a ha ha2), rfl⟩
    · have hc : w.cell? ⟨0, 5, none⟩ = some (.int .u8 32) := hL.2 5 (by decide)
      go_enter Tryz.func136, Tryz.ntmps136
      go_wp2_with (first | (go_at_call 149; refine (zeroFlag_any _ _).mono ?_; rintro e w' ⟨rfl, rfl⟩))
      go_ret
      exact ⟨ret1 (resAt 5 (by decide) a ha ha2), rfl⟩
    · have hc : w.cell? ⟨0, 6, none⟩ = some (.int .u8 64) := hL.2 6 (by decide)
      go_enter Tryz.func136, Tryz.ntmps136
      go_wp2_with (first | (go_at_call 149; refine (zeroFlag_any _ _).mono ?_; rintro e w' ⟨rfl, rfl⟩))
      go_ret
      exact ⟨ret1 (resAt 6 (by decide) a ha ha2), rfl⟩
    · have hc : w.cell? ⟨0, 7, none⟩ = some (.int .u8 128) := hL.2 7 (by decide)
      go_enter Tryz.func136, Tryz.ntmps136
      go_wp2_with (first | (go_at_call 149; refine (zeroFlag_any _ _).mono ?_; rintro e w' ⟨rfl, rfl⟩))
      go_ret
      exact ⟨ret1 (resAt 7 (by decide) a ha ha2), rfl⟩
set_option maxHeartbeats 2000000 in
theorem set_any (n a : Int) (w : World) (hL : LaidB w) (ha : 0 ≤ a) (ha2 : a ≤ 255) :
    Calls Tryz.prog 137 #[.int .i64 n, .int .u8 a] w fun e w' => e = .returned (.int .u8 (seR n a)) ∧ w' = w := by
  by_cases h0 : n < 0 ∨ 8 ≤ n
  · have e1 : Hid (seR n a = a) := by show seR n a = _; unfold seR; rw [if_pos h0]
    rcases h0 with h0 | h0
    · go_enter Tryz.func137, Tryz.ntmps137
      go_wp2
      go_ret
      exact ⟨ret1 (e1.out.symm), rfl⟩
    · go_enter Tryz.func137, Tryz.ntmps137
      go_wp2
      go_ret
      exact ⟨ret1 (e1.out.symm), rfl⟩
  · have hh : n = 0 ∨ n = 1 ∨ n = 2 ∨ n = 3 ∨ n = 4 ∨ n = 5 ∨ n = 6 ∨ n = 7 := by omega
    clear h0
    rcases hh with rfl | rfl | rfl | rfl | rfl | rfl | rfl | rfl
    · have hc : w.cell? ⟨0, 0, none⟩ = some (.int .u8 1) := hL.2 0 (by decide)
      go_enter Tryz.func137, Tryz.ntmps137
      go_wp2_with (first | (go_at_call 149; refine (zeroFlag_any _ _).mono ?_; rintro e w' ⟨rfl, rfl⟩))
      go_ret
      exact ⟨ret1 (setAt 0 (by decide) a ha ha2), rfl⟩
    · have hc : w.cell? ⟨0, 1, none⟩ = some (.int .u8 2) := hL.2 1 (by decide)
      go_enter Tryz.func137, Tryz.ntmps137
      go_wp2_with (first | (go_at_call 149; refine (zeroFlag_any _ _).mono ?_; rintro e w' ⟨rfl, rfl⟩))
      go_ret
      exact ⟨ret1 (setAt 1 (by decide) a ha ha2), rfl⟩
    · have hc : w.cell? ⟨0, 2, none⟩ = some (.int .u8 4) := hL.2 2 (by decide)
      go_enter Tryz.func137, Tryz.ntmps137
      go_wp2_with (first | (go_at_call 149; refine (zeroFlag_any _ _).mono ?_; rintro e w' ⟨rfl, rfl⟩))
      go_ret
      exact ⟨ret1 (setAt 2 (by decide) a ha ha2), rfl⟩
    · have hc : w.cell? ⟨0, 3, none⟩ = some (.int .u8 8) := hL.2 3 (by decide)
      go_enter Tryz.func137, Tryz.ntmps137
      go_wp2_with (first | (go_at_call 149; refine (zeroFlag_any _ _).mono ?_; rintro e w' ⟨rfl, rfl⟩))
      go_ret
      exact ⟨ret1 (setAt 3 (by decide) a ha ha2), rfl⟩
    · have hc : w.cell? ⟨0, 4, none⟩ = some (.int .u8 16) := hL.2 4 (by decide)
      go_enter Tryz.func137, Tryz.ntmps137
      go_wp2_with (first | (go_at_call 149; refine (zeroFlag_any _ _).mono ?_; rintro e w' ⟨rfl, rfl⟩))
      go_ret
      exact ⟨ret1 (setAt 4 (by decide) a ha ha2), rfl⟩
    · have hc : w.cell? ⟨0, 5, none⟩ = some (.int .u8 32) := hL.2 5 (by decide)
      go_enter Tryz.func137, Tryz.ntmps137
      go_wp2_with (first | (go_at_call 149; refine (zeroFlag_any _ _).mono ?_; rintro e w' ⟨rfl, rfl⟩))
      go_ret
      exact ⟨ret1 (setAt 5 (by decide) a ha ha2), rfl⟩
    · have hc : w.cell? ⟨0, 6, none⟩ = some (.int .u8 64) := hL.2 6 (by decide)
      go_enter Tryz.func137, Tryz.ntmps137
      go_wp2_with (first | (go_at_call 149; refine (zeroFlag_any _ _).mono ?_; rintro e w' ⟨rfl, rfl⟩))
      go_ret
      exact ⟨ret1 (setAt 6 (by decide) a ha ha2), rfl⟩
    · have hc : w.cell? ⟨0, 7, none⟩ = some (.int .u8 128) := hL.2 7 (by decide)
      go_enter Tryz.func137, Tryz.ntmps137
      go_wp2_with (first | (go_at_call 149; refine (zeroFlag_any _ _).mono ?_; rintro e w' ⟨rfl, rfl⟩))
      go_ret
      exact ⟨ret1 (setAt 7 (by decide) a ha ha2), rfl⟩
end Go.Proofs.YtdkibohpdkdooaaGreatDoor
