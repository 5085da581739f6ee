/- What the calls of package alu come to, as contracts over the translation. Conditions: bytes are 0 to 255. -/
import Derived.Test.YtlbcodjkcjjoeabRows
import Derived.Test.YtlbcodjkcjjoeabPlain
import Derived.WalkKit
import Derived.ProofKit
import Derived.OpenShut
import Derived.Laws.EntriesVeiled
namespace Go.Proofs.Ytlbcodjkcjjoeab
open Go.ChangeShapes Go.WideShapes Go.ChangeAt Go.RowKit
set_option linter.unusedVariables false

theorem ret2 {k l : IntKind} {a b c d : Int} (h : a = c) (g : b = d) : Ending.returned (.tuple #[.int k a, .int l b]) = .returned (.tuple #[.int k c, .int l d]) := by rw [h, g]
theorem retb {b : Bool} (h : b = true) : Ending.returned (.bool b) = .returned (.bool true) := by rw [h]
theorem Grown.step {W a b : World} (h : Grown W a) (g : Grown a b) : Grown W b :=
  ⟨World.keptBut_trans h.1 (World.keptBut_mono (fun _ f => f.elim) g.1), fun x => (g.2.1 x).trans (h.2.1 x), Nat.le_trans h.2.2 g.2.2⟩
theorem ret1 {k : IntKind} {a c : Int} (h : a = c) : Ending.returned (.int k a) = .returned (.int k c) := by rw [h]

theorem flagIf_any (b : Bool) (x : Int) (w : World) :
    Calls Try.prog 26 #[.bool b, .int .u8 x] w fun e w' => e = .returned (.int .u8 (flagI b x)) ∧ w' = w := by
  cases b
  · go_enter Try.func26, Try.ntmps26
    go_wp2
    go_ret
    exact ⟨rfl, rfl⟩
  · go_enter Try.func26, Try.ntmps26
    go_wp2
    go_ret
    exact ⟨rfl, rfl⟩
theorem zeroFlag_any (x : Int) (w : World) :
    Calls Try.prog 25 #[.int .u8 x] w fun e w' => e = .returned (.int .u8 (flagI (x == 0) 128)) ∧ w' = w := by
  go_enter Try.func25, Try.ntmps25
  go_wp2_with (go_at_call 26; refine (flagIf_any _ _ _).mono ?_; rintro e w' ⟨rfl, rfl⟩)
  go_ret
  exact ⟨rfl, rfl⟩
theorem sum_any (a b c : Int) (w : World) (ha : 0 ≤ a) (ha2 : a ≤ 255) (hb : 0 ≤ b) (hb2 : b ≤ 255) (hc : 0 ≤ c) (hc2 : c ≤ 1) :
    Calls Try.prog 22 #[.int .u8 a, .int .u8 b, .int .u8 c] w fun e w' => e = .returned (.tuple #[.int .u8 (sumR a b c), .int .u8 (sumF a b c)]) ∧ w' = w := by
  go_enter Try.func22, Try.ntmps22
  go_wp2_with (first | (go_at_call 26; refine (flagIf_any _ _ _).mono ?_; rintro e w' ⟨rfl, rfl⟩) | (go_at_call 25; refine (zeroFlag_any _ _).mono ?_; rintro e w' ⟨rfl, rfl⟩))
  go_ret2
  exact ⟨ret2 rfl (by rw [or3]; rfl), rfl⟩
theorem difference_any (a b c : Int) (w : World) (ha : 0 ≤ a) (ha2 : a ≤ 255) (hb : 0 ≤ b) (hb2 : b ≤ 255) (hc : 0 ≤ c) (hc2 : c ≤ 1) :
    Calls Try.prog 24 #[.int .u8 a, .int .u8 b, .int .u8 c] w fun e w' => e = .returned (.tuple #[.int .u8 (difR a b c), .int .u8 (difF a b c)]) ∧ w' = w := by
  go_enter Try.func24, Try.ntmps24
  go_wp2_with (first | (go_at_call 26; refine (flagIf_any _ _ _).mono ?_; rintro e w' ⟨rfl, rfl⟩) | (go_at_call 25; refine (zeroFlag_any _ _).mono ?_; rintro e w' ⟨rfl, rfl⟩))
  go_ret2
  exact ⟨ret2 rfl (by rw [orDif]; rfl), rfl⟩
theorem carryOf_any (f : Int) (w : World) (hf : 0 ≤ f) (hf2 : f ≤ 255) :
    Calls Try.prog 23 #[.int .u8 f] w fun e w' => e = .returned (.int .u8 (cof f)) ∧ w' = w := by
  have h := and16 f hf hf2
  have b := cof_lo f
  have c := cof_hi f
  by_cases k : cof f = 1
  · have hh : (bits .and .u8 f 16 != 0) = true := by rw [h, k]; decide
    have K : Hid (cof f = 1) := k
    clear k h
    go_enter Try.func23, Try.ntmps23
    go_wp2
    go_ret
    exact ⟨ret1 (by rw [K.out]), rfl⟩
  · have k0 : cof f = 0 := by omega
    have hh : (bits .and .u8 f 16 != 0) = false := by rw [h, k0]; decide
    have K : Hid (cof f = 0) := k0
    clear k h k0
    go_enter Try.func23, Try.ntmps23
    go_wp2
    go_ret
    exact ⟨ret1 (by rw [K.out]), rfl⟩
theorem add_any (a b f : Int) (w : World) (ha : 0 ≤ a) (ha2 : a ≤ 255) (hb : 0 ≤ b) (hb2 : b ≤ 255) :
    Calls Try.prog 6 #[.int .u8 a, .int .u8 b, .int .u8 f] w fun e w' => e = .returned (.tuple #[.int .u8 (sumR a b 0), .int .u8 (sumF a b 0)]) ∧ w' = w := by
  go_enter Try.func6, Try.ntmps6
  go_wp2_with (go_at_call 22; refine (sum_any _ _ _ _ ha ha2 hb hb2 (by omega) (by omega)).mono ?_; rintro e w' ⟨rfl, rfl⟩)
  go_ret2
  exact ⟨rfl, rfl⟩
theorem adc_any (a b f : Int) (w : World) (ha : 0 ≤ a) (ha2 : a ≤ 255) (hb : 0 ≤ b) (hb2 : b ≤ 255) (hf : 0 ≤ f) (hf2 : f ≤ 255) :
    Calls Try.prog 7 #[.int .u8 a, .int .u8 b, .int .u8 f] w fun e w' => e = .returned (.tuple #[.int .u8 (sumR a b (cof f)), .int .u8 (sumF a b (cof f))]) ∧ w' = w := by
  have c0 := cof_lo f
  have c1 := cof_hi f
  go_enter Try.func7, Try.ntmps7
  go_wp2_with (first | (go_at_call 23; refine (carryOf_any _ _ hf hf2).mono ?_; rintro e w' ⟨rfl, rfl⟩) | (go_at_call 22; refine (sum_any _ _ _ _ ha ha2 hb hb2 c0 c1).mono ?_; rintro e w' ⟨rfl, rfl⟩))
  go_ret2
  exact ⟨rfl, rfl⟩
theorem sub_any (a b f : Int) (w : World) (ha : 0 ≤ a) (ha2 : a ≤ 255) (hb : 0 ≤ b) (hb2 : b ≤ 255) :
    Calls Try.prog 8 #[.int .u8 a, .int .u8 b, .int .u8 f] w fun e w' => e = .returned (.tuple #[.int .u8 (difR a b 0), .int .u8 (difF a b 0)]) ∧ w' = w := by
  go_enter Try.func8, Try.ntmps8
  go_wp2_with (go_at_call 24; refine (difference_any _ _ _ _ ha ha2 hb hb2 (by omega) (by omega)).mono ?_; rintro e w' ⟨rfl, rfl⟩)
  go_ret2
  exact ⟨rfl, rfl⟩
theorem sbc_any (a b f : Int) (w : World) (ha : 0 ≤ a) (ha2 : a ≤ 255) (hb : 0 ≤ b) (hb2 : b ≤ 255) (hf : 0 ≤ f) (hf2 : f ≤ 255) :
    Calls Try.prog 9 #[.int .u8 a, .int .u8 b, .int .u8 f] w fun e w' => e = .returned (.tuple #[.int .u8 (difR a b (cof f)), .int .u8 (difF a b (cof f))]) ∧ w' = w := by
  have c0 := cof_lo f
  have c1 := cof_hi f
  go_enter Try.func9, Try.ntmps9
  go_wp2_with (first | (go_at_call 23; refine (carryOf_any _ _ hf hf2).mono ?_; rintro e w' ⟨rfl, rfl⟩) | (go_at_call 24; refine (difference_any _ _ _ _ ha ha2 hb hb2 c0 c1).mono ?_; rintro e w' ⟨rfl, rfl⟩))
  go_ret2
  exact ⟨rfl, rfl⟩
theorem and_any (a b f : Int) (w : World) :
    Calls Try.prog 10 #[.int .u8 a, .int .u8 b, .int .u8 f] w fun e w' => e = .returned (.tuple #[.int .u8 (bits .and .u8 a b), .int .u8 (flg (bits .and .u8 a b == 0) false true false)]) ∧ w' = w := by
  go_enter Try.func10, Try.ntmps10
  go_wp2_with (go_at_call 25; refine (zeroFlag_any _ _).mono ?_; rintro e w' ⟨rfl, rfl⟩)
  go_ret2
  exact ⟨ret2 rfl (by rw [orAnd]), rfl⟩
theorem xor_any (a b f : Int) (w : World) :
    Calls Try.prog 11 #[.int .u8 a, .int .u8 b, .int .u8 f] w fun e w' => e = .returned (.tuple #[.int .u8 (bits .xor .u8 a b), .int .u8 (flg (bits .xor .u8 a b == 0) false false false)]) ∧ w' = w := by
  go_enter Try.func11, Try.ntmps11
  go_wp2_with (go_at_call 25; refine (zeroFlag_any _ _).mono ?_; rintro e w' ⟨rfl, rfl⟩)
  go_ret2
  exact ⟨ret2 rfl (by rw [orNone]), rfl⟩
theorem or_any (a b f : Int) (w : World) :
    Calls Try.prog 12 #[.int .u8 a, .int .u8 b, .int .u8 f] w fun e w' => e = .returned (.tuple #[.int .u8 (bits .or .u8 a b), .int .u8 (flg (bits .or .u8 a b == 0) false false false)]) ∧ w' = w := by
  go_enter Try.func12, Try.ntmps12
  go_wp2_with (go_at_call 25; refine (zeroFlag_any _ _).mono ?_; rintro e w' ⟨rfl, rfl⟩)
  go_ret2
  exact ⟨ret2 rfl (by rw [orNone]), rfl⟩
theorem cp_any (a b f : Int) (w : World) (ha : 0 ≤ a) (ha2 : a ≤ 255) (hb : 0 ≤ b) (hb2 : b ≤ 255) :
    Calls Try.prog 13 #[.int .u8 a, .int .u8 b, .int .u8 f] w fun e w' => e = .returned (.tuple #[.int .u8 a, .int .u8 (difF a b 0)]) ∧ w' = w := by
  go_enter Try.func13, Try.ntmps13
  go_wp2_with (go_at_call 24; refine (difference_any _ _ _ _ ha ha2 hb hb2 (by omega) (by omega)).mono ?_; rintro e w' ⟨rfl, rfl⟩)
  go_ret2
  exact ⟨rfl, rfl⟩
theorem nothing_any (a f : Int) (w : World) (hf : 0 ≤ f) (hf2 : f ≤ 255) :
    Calls Try.prog 14 #[.int .u8 a, .int .u8 f] w fun e w' => e = .returned (.tuple #[.int .u8 a, .int .u8 (f / 16 * 16)]) ∧ w' = w := by
  go_enter Try.func14, Try.ntmps14
  go_wp2
  go_ret2
  exact ⟨ret2 rfl (and240 f hf hf2), rfl⟩
set_option maxHeartbeats 1000000 in
theorem arith_any (op a b f : Int) (w : World) (ha : 0 ≤ a) (ha2 : a ≤ 255) (hb : 0 ≤ b) (hb2 : b ≤ 255) (hf : 0 ≤ f) (hf2 : f ≤ 255) :
    Calls Try.prog 4 #[.int .i64 op, .int .u8 a, .int .u8 b, .int .u8 f] w fun e w' => e = .returned (.tuple #[.int .u8 (arR op a b f), .int .u8 (arF op a b f)]) ∧ Grown w w' := by
  by_cases h0 : op < 0
  · have e1 : Hid (arR op a b f = a) := arR_none op a b f (by omega)
    have e2 : Hid (arF op a b f = f / 16 * 16) := arF_none op a b f (by omega)
    go_enter Try.func4, Try.ntmps4
    go_wp2_with (go_at_call 14; refine (nothing_any _ _ _ hf hf2).mono ?_; rintro e w' ⟨rfl, rfl⟩)
    go_ret2
    exact ⟨ret2 e1.out.symm e2.out.symm, Grown.alloc (Grown.refl _) _ _⟩
  · by_cases h8 : 8 ≤ op
    · have e1 : Hid (arR op a b f = a) := arR_none op a b f (by omega)
      have e2 : Hid (arF op a b f = f / 16 * 16) := arF_none op a b f (by omega)
      go_enter Try.func4, Try.ntmps4
      go_wp2_with (go_at_call 14; refine (nothing_any _ _ _ hf hf2).mono ?_; rintro e w' ⟨rfl, rfl⟩)
      go_ret2
      exact ⟨ret2 e1.out.symm e2.out.symm, Grown.alloc (Grown.refl _) _ _⟩
    · have hh : op = 0 ∨ op = 1 ∨ op = 2 ∨ op = 3 ∨ op = 4 ∨ op = 5 ∨ op = 6 ∨ op = 7 := by omega
      clear h0 h8
      rcases hh with rfl | rfl | rfl | rfl | rfl | rfl | rfl | rfl
      · go_enter Try.func4, Try.ntmps4
        go_wp2_with (go_at_call 6; refine (add_any _ _ _ _ ha ha2 hb hb2).mono ?_; rintro e w' ⟨rfl, rfl⟩)
        go_ret2
        exact ⟨rfl, Grown.alloc (Grown.refl _) _ _⟩
      · go_enter Try.func4, Try.ntmps4
        go_wp2_with (go_at_call 7; refine (adc_any _ _ _ _ ha ha2 hb hb2 hf hf2).mono ?_; rintro e w' ⟨rfl, rfl⟩)
        go_ret2
        exact ⟨rfl, Grown.alloc (Grown.refl _) _ _⟩
      · go_enter Try.func4, Try.ntmps4
        go_wp2_with (go_at_call 8; refine (sub_any _ _ _ _ ha ha2 hb hb2).mono ?_; rintro e w' ⟨rfl, rfl⟩)
        go_ret2
        exact ⟨rfl, Grown.alloc (Grown.refl _) _ _⟩
      · go_enter Try.func4, Try.ntmps4
        go_wp2_with (go_at_call 9; refine (sbc_any _ _ _ _ ha ha2 hb hb2 hf hf2).mono ?_; rintro e w' ⟨rfl, rfl⟩)
        go_ret2
        exact ⟨rfl, Grown.alloc (Grown.refl _) _ _⟩
      · go_enter Try.func4, Try.ntmps4
        go_wp2_with (go_at_call 10; refine (and_any _ _ _ _).mono ?_; rintro e w' ⟨rfl, rfl⟩)
        go_ret2
        exact ⟨rfl, Grown.alloc (Grown.refl _) _ _⟩
      · go_enter Try.func4, Try.ntmps4
        go_wp2_with (go_at_call 11; refine (xor_any _ _ _ _).mono ?_; rintro e w' ⟨rfl, rfl⟩)
        go_ret2
        exact ⟨rfl, Grown.alloc (Grown.refl _) _ _⟩
      · go_enter Try.func4, Try.ntmps4
        go_wp2_with (go_at_call 12; refine (or_any _ _ _ _).mono ?_; rintro e w' ⟨rfl, rfl⟩)
        go_ret2
        exact ⟨rfl, Grown.alloc (Grown.refl _) _ _⟩
      · go_enter Try.func4, Try.ntmps4
        go_wp2_with (go_at_call 13; refine (cp_any _ _ _ _ ha ha2 hb hb2).mono ?_; rintro e w' ⟨rfl, rfl⟩)
        go_ret2
        exact ⟨rfl, Grown.alloc (Grown.refl _) _ _⟩
end Go.Proofs.Ytlbcodjkcjjoeab
