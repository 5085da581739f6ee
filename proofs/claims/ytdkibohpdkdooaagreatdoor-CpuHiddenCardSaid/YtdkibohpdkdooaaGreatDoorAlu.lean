/- What the calls of package alu come to, as contracts over the translation. Conditions: bytes are 0 to 255. -/
import Derived.Test.YtdkibohpdkdooaaGreatDoorRows
import Derived.Test.YtdkibohpdkdooaaGreatDoorPlain
import Derived.WalkKit
import Derived.ProofKit
import Derived.OpenShut
import Derived.Laws.EntriesVeiled
namespace Go.Proofs.YtdkibohpdkdooaaGreatDoor
open Go.ChangeShapes Go.WideShapes Go.ChangeAt Go.RowKit
set_option linter.unusedVariables false

theorem ret2 {k l : IntKind} {a b c d : Int} (h : a = c) (g : b = d) : Ending.returned (.tuple #[.int k a, .int l b]) = .returned (.tuple #[.int k c, .int l d]) := by rw [h, g]
theorem retb {b : Bool} (h : b = true) : Ending.returned (.bool b) = .returned (.bool true) := by rw [h]
theorem Grown.step {W a b : World} (h : Grown W a) (g : Grown a b) : Grown W b :=
  ⟨World.keptBut_trans h.1 (World.keptBut_mono (fun _ f => f.elim) g.1), fun x => (g.2.1 x).trans (h.2.1 x), Nat.le_trans h.2.2 g.2.2⟩
theorem ret1 {k : IntKind} {a c : Int} (h : a = c) : Ending.returned (.int k a) = .returned (.int k c) := by rw [h]

theorem flagIf_any (b : Bool) (x : Int) (w : World) :
    Calls Tryz.prog 138 #[.bool b, .int .u8 x] w fun e w' => e = .returned (.int .u8 (flagI b x)) ∧ w' = w := by
  cases b
  · go_enter Tryz.func138, Tryz.ntmps138
    go_wp2
    go_ret
    exact ⟨rfl, rfl⟩
  · go_enter Tryz.func138, Tryz.ntmps138
    go_wp2
    go_ret
    exact ⟨rfl, rfl⟩
theorem zeroFlag_any (x : Int) (w : World) :
    Calls Tryz.prog 149 #[.int .u8 x] w fun e w' => e = .returned (.int .u8 (flagI (x == 0) 128)) ∧ w' = w := by
  go_enter Tryz.func149, Tryz.ntmps149
  go_wp2_with (go_at_call 138; refine (flagIf_any _ _ _).mono ?_; rintro e w' ⟨rfl, rfl⟩)
  go_ret
  exact ⟨rfl, rfl⟩
theorem sum_any (a b c : Int) (w : World) (ha : 0 ≤ a) (ha2 : a ≤ 255) (hb : 0 ≤ b) (hb2 : b ≤ 255) (hc : 0 ≤ c) (hc2 : c ≤ 1) :
    Calls Tryz.prog 148 #[.int .u8 a, .int .u8 b, .int .u8 c] w fun e w' => e = .returned (.tuple #[.int .u8 (sumR a b c), .int .u8 (sumF a b c)]) ∧ w' = w := by
  go_enter Tryz.func148, Tryz.ntmps148
  go_wp2_with (first | (go_at_call 138; refine (flagIf_any _ _ _).mono ?_; rintro e w' ⟨rfl, rfl⟩) | (go_at_call 149; refine (zeroFlag_any _ _).mono ?_; rintro e w' ⟨rfl, rfl⟩))
  go_ret2
  exact ⟨ret2 rfl (by rw [or3]; rfl), rfl⟩
theorem difference_any (a b c : Int) (w : World) (ha : 0 ≤ a) (ha2 : a ≤ 255) (hb : 0 ≤ b) (hb2 : b ≤ 255) (hc : 0 ≤ c) (hc2 : c ≤ 1) :
    Calls Tryz.prog 160 #[.int .u8 a, .int .u8 b, .int .u8 c] w fun e w' => e = .returned (.tuple #[.int .u8 (difR a b c), .int .u8 (difF a b c)]) ∧ w' = w := by
  go_enter Tryz.func160, Tryz.ntmps160
  go_wp2_with (first | (go_at_call 138; refine (flagIf_any _ _ _).mono ?_; rintro e w' ⟨rfl, rfl⟩) | (go_at_call 149; refine (zeroFlag_any _ _).mono ?_; rintro e w' ⟨rfl, rfl⟩))
  go_ret2
  exact ⟨ret2 rfl (by rw [orDif]; rfl), rfl⟩
theorem carryOf_any (f : Int) (w : World) (hf : 0 ≤ f) (hf2 : f ≤ 255) :
    Calls Tryz.prog 151 #[.int .u8 f] w fun e w' => e = .returned (.int .u8 (cof f)) ∧ w' = w := by
  have h := and16 f hf hf2
  have b := cof_lo f
  have c := cof_hi f
  by_cases k : cof f = 1
  · have hh : (bits .and .u8 f 16 != 0) = true := by rw [h, k]; decide
    have K : Hid (cof f = 1) := k
    clear k h
    go_enter Tryz.func151, Tryz.ntmps151
    go_wp2
    go_ret
    exact ⟨ret1 (by rw [K.out]), rfl⟩
  · have k0 : cof f = 0 := by omega
    have hh : (bits .and .u8 f 16 != 0) = false := by rw [h, k0]; decide
    have K : Hid (cof f = 0) := k0
    clear k h k0
    go_enter Tryz.func151, Tryz.ntmps151
    go_wp2
    go_ret
    exact ⟨ret1 (by rw [K.out]), rfl⟩
theorem add_any (a b f : Int) (w : World) (ha : 0 ≤ a) (ha2 : a ≤ 255) (hb : 0 ≤ b) (hb2 : b ≤ 255) :
    Calls Tryz.prog 140 #[.int .u8 a, .int .u8 b, .int .u8 f] w fun e w' => e = .returned (.tuple #[.int .u8 (sumR a b 0), .int .u8 (sumF a b 0)]) ∧ w' = w := by
  go_enter Tryz.func140, Tryz.ntmps140
  go_wp2_with (go_at_call 148; refine (sum_any _ _ _ _ ha ha2 hb hb2 (by omega) (by omega)).mono ?_; rintro e w' ⟨rfl, rfl⟩)
  go_ret2
  exact ⟨rfl, rfl⟩
theorem adc_any (a b f : Int) (w : World) (ha : 0 ≤ a) (ha2 : a ≤ 255) (hb : 0 ≤ b) (hb2 : b ≤ 255) (hf : 0 ≤ f) (hf2 : f ≤ 255) :
    Calls Tryz.prog 141 #[.int .u8 a, .int .u8 b, .int .u8 f] w fun e w' => e = .returned (.tuple #[.int .u8 (sumR a b (cof f)), .int .u8 (sumF a b (cof f))]) ∧ w' = w := by
  have c0 := cof_lo f
  have c1 := cof_hi f
  go_enter Tryz.func141, Tryz.ntmps141
  go_wp2_with (first | (go_at_call 151; refine (carryOf_any _ _ hf hf2).mono ?_; rintro e w' ⟨rfl, rfl⟩) | (go_at_call 148; refine (sum_any _ _ _ _ ha ha2 hb hb2 c0 c1).mono ?_; rintro e w' ⟨rfl, rfl⟩))
  go_ret2
  exact ⟨rfl, rfl⟩
theorem sub_any (a b f : Int) (w : World) (ha : 0 ≤ a) (ha2 : a ≤ 255) (hb : 0 ≤ b) (hb2 : b ≤ 255) :
    Calls Tryz.prog 142 #[.int .u8 a, .int .u8 b, .int .u8 f] w fun e w' => e = .returned (.tuple #[.int .u8 (difR a b 0), .int .u8 (difF a b 0)]) ∧ w' = w := by
  go_enter Tryz.func142, Tryz.ntmps142
  go_wp2_with (go_at_call 160; refine (difference_any _ _ _ _ ha ha2 hb hb2 (by omega) (by omega)).mono ?_; rintro e w' ⟨rfl, rfl⟩)
  go_ret2
  exact ⟨rfl, rfl⟩
theorem sbc_any (a b f : Int) (w : World) (ha : 0 ≤ a) (ha2 : a ≤ 255) (hb : 0 ≤ b) (hb2 : b ≤ 255) (hf : 0 ≤ f) (hf2 : f ≤ 255) :
    Calls Tryz.prog 143 #[.int .u8 a, .int .u8 b, .int .u8 f] w fun e w' => e = .returned (.tuple #[.int .u8 (difR a b (cof f)), .int .u8 (difF a b (cof f))]) ∧ w' = w := by
  have c0 := cof_lo f
  have c1 := cof_hi f
  go_enter Tryz.func143, Tryz.ntmps143
  go_wp2_with (first | (go_at_call 151; refine (carryOf_any _ _ hf hf2).mono ?_; rintro e w' ⟨rfl, rfl⟩) | (go_at_call 160; refine (difference_any _ _ _ _ ha ha2 hb hb2 c0 c1).mono ?_; rintro e w' ⟨rfl, rfl⟩))
  go_ret2
  exact ⟨rfl, rfl⟩
theorem and_any (a b f : Int) (w : World) :
    Calls Tryz.prog 144 #[.int .u8 a, .int .u8 b, .int .u8 f] w fun e w' => e = .returned (.tuple #[.int .u8 (bits .and .u8 a b), .int .u8 (flg (bits .and .u8 a b == 0) false true false)]) ∧ w' = w := by
  go_enter Tryz.func144, Tryz.ntmps144
  go_wp2_with (go_at_call 149; refine (zeroFlag_any _ _).mono ?_; rintro e w' ⟨rfl, rfl⟩)
  go_ret2
  exact ⟨ret2 rfl (by rw [orAnd]), rfl⟩
theorem xor_any (a b f : Int) (w : World) :
    Calls Tryz.prog 145 #[.int .u8 a, .int .u8 b, .int .u8 f] w fun e w' => e = .returned (.tuple #[.int .u8 (bits .xor .u8 a b), .int .u8 (flg (bits .xor .u8 a b == 0) false false false)]) ∧ w' = w := by
  go_enter Tryz.func145, Tryz.ntmps145
  go_wp2_with (go_at_call 149; refine (zeroFlag_any _ _).mono ?_; rintro e w' ⟨rfl, rfl⟩)
  go_ret2
  exact ⟨ret2 rfl (by rw [orNone]), rfl⟩
theorem or_any (a b f : Int) (w : World) :
    Calls Tryz.prog 146 #[.int .u8 a, .int .u8 b, .int .u8 f] w fun e w' => e = .returned (.tuple #[.int .u8 (bits .or .u8 a b), .int .u8 (flg (bits .or .u8 a b == 0) false false false)]) ∧ w' = w := by
  go_enter Tryz.func146, Tryz.ntmps146
  go_wp2_with (go_at_call 149; refine (zeroFlag_any _ _).mono ?_; rintro e w' ⟨rfl, rfl⟩)
  go_ret2
  exact ⟨ret2 rfl (by rw [orNone]), rfl⟩
theorem cp_any (a b f : Int) (w : World) (ha : 0 ≤ a) (ha2 : a ≤ 255) (hb : 0 ≤ b) (hb2 : b ≤ 255) :
    Calls Tryz.prog 147 #[.int .u8 a, .int .u8 b, .int .u8 f] w fun e w' => e = .returned (.tuple #[.int .u8 a, .int .u8 (difF a b 0)]) ∧ w' = w := by
  go_enter Tryz.func147, Tryz.ntmps147
  go_wp2_with (go_at_call 160; refine (difference_any _ _ _ _ ha ha2 hb hb2 (by omega) (by omega)).mono ?_; rintro e w' ⟨rfl, rfl⟩)
  go_ret2
  exact ⟨rfl, rfl⟩
theorem nothing_any (a f : Int) (w : World) (hf : 0 ≤ f) (hf2 : f ≤ 255) :
    Calls Tryz.prog 126 #[.int .u8 a, .int .u8 f] w fun e w' => e = .returned (.tuple #[.int .u8 a, .int .u8 (f / 16 * 16)]) ∧ w' = w := by
  go_enter Tryz.func126, Tryz.ntmps126
  go_wp2
  go_ret2
  exact ⟨ret2 rfl (and240 f hf hf2), rfl⟩
set_option maxHeartbeats 1000000 in
theorem arith_any (op a b f : Int) (w : World) (ha : 0 ≤ a) (ha2 : a ≤ 255) (hb : 0 ≤ b) (hb2 : b ≤ 255) (hf : 0 ≤ f) (hf2 : f ≤ 255) :
    Calls Tryz.prog 118 #[.int .i64 op, .int .u8 a, .int .u8 b, .int .u8 f] w fun e w' => e = .returned (.tuple #[.int .u8 (arR op a b f), .int .u8 (arF op a b f)]) ∧ Grown w w' := by
  by_cases h0 : op < 0
  · have e1 : Hid (arR op a b f = a) := arR_none op a b f (by omega)
    have e2 : Hid (arF op a b f = f / 16 * 16) := arF_none op a b f (by omega)
    go_enter Tryz.func118, Tryz.ntmps118
    go_wp2_with (go_at_call 126; refine (nothing_any _ _ _ hf hf2).mono ?_; rintro e w' ⟨rfl, rfl⟩)
    go_ret2
    exact ⟨ret2 e1.out.symm e2.out.symm, Grown.alloc (Grown.refl _) _ _⟩
  · by_cases h8 : 8 ≤ op
    · have e1 : Hid (arR op a b f = a) := arR_none op a b f (by omega)
      have e2 : Hid (arF op a b f = f / 16 * 16) := arF_none op a b f (by omega)
      go_enter Tryz.func118, Tryz.ntmps118
      go_wp2_with (go_at_call 126; refine (nothing_any _ _ _ hf hf2).mono ?_; rintro e w' ⟨rfl, rfl⟩)
      go_ret2
      exact ⟨ret2 e1.out.symm e2.out.symm, Grown.alloc (Grown.refl _) _ _⟩
    · have hh : op = 0 ∨ op = 1 ∨ op = 2 ∨ op = 3 ∨ op = 4 ∨ op = 5 ∨ op = 6 ∨ op = 7 := by omega
      clear h0 h8
      rcases hh with rfl | rfl | rfl | rfl | rfl | rfl | rfl | rfl
      · go_enter Tryz.func118, Tryz.ntmps118
        go_wp2_with (go_at_call 140; refine (add_any _ _ _ _ ha ha2 hb hb2).mono ?_; rintro e w' ⟨rfl, rfl⟩)
        go_ret2
        exact ⟨rfl, Grown.alloc (Grown.refl _) _ _⟩
      · go_enter Tryz.func118, Tryz.ntmps118
        go_wp2_with (go_at_call 141; refine (adc_any _ _ _ _ ha ha2 hb hb2 hf hf2).mono ?_; rintro e w' ⟨rfl, rfl⟩)
        go_ret2
        exact ⟨rfl, Grown.alloc (Grown.refl _) _ _⟩
      · go_enter Tryz.func118, Tryz.ntmps118
        go_wp2_with (go_at_call 142; refine (sub_any _ _ _ _ ha ha2 hb hb2).mono ?_; rintro e w' ⟨rfl, rfl⟩)
        go_ret2
        exact ⟨rfl, Grown.alloc (Grown.refl _) _ _⟩
      · go_enter Tryz.func118, Tryz.ntmps118
        go_wp2_with (go_at_call 143; refine (sbc_any _ _ _ _ ha ha2 hb hb2 hf hf2).mono ?_; rintro e w' ⟨rfl, rfl⟩)
        go_ret2
        exact ⟨rfl, Grown.alloc (Grown.refl _) _ _⟩
      · go_enter Tryz.func118, Tryz.ntmps118
        go_wp2_with (go_at_call 144; refine (and_any _ _ _ _).mono ?_; rintro e w' ⟨rfl, rfl⟩)
        go_ret2
        exact ⟨rfl, Grown.alloc (Grown.refl _) _ _⟩
      · go_enter Tryz.func118, Tryz.ntmps118
        go_wp2_with (go_at_call 145; refine (xor_any _ _ _ _).mono ?_; rintro e w' ⟨rfl, rfl⟩)
        go_ret2
        exact ⟨rfl, Grown.alloc (Grown.refl _) _ _⟩
      · go_enter Tryz.func118, Tryz.ntmps118
        go_wp2_with (go_at_call 146; refine (or_any _ _ _ _).mono ?_; rintro e w' ⟨rfl, rfl⟩)
        go_ret2
        exact ⟨rfl, Grown.alloc (Grown.refl _) _ _⟩
      · go_enter Tryz.func118, Tryz.ntmps118
        go_wp2_with (go_at_call 147; refine (cp_any _ _ _ _ ha ha2 hb hb2).mono ?_; rintro e w' ⟨rfl, rfl⟩)
        go_ret2
        exact ⟨rfl, Grown.alloc (Grown.refl _) _ _⟩
theorem inc_any (a f : Int) (w : World) (ha : 0 ≤ a) (ha2 : a ≤ 255) (hf : 0 ≤ f) (hf2 : f ≤ 255) :
    Calls Tryz.prog 124 #[.int .u8 a, .int .u8 f] w fun e w' => e = .returned (.tuple #[.int .u8 ((a + 1) % 256), .int .u8 (flg ((a + 1) % 256 == 0) false ((a + 1) % 16 == 0) (cof f == 1))]) ∧ w' = w := by
  have hm : Hid (bits .and .u8 f 16 = flagI (cof f == 1) 16) := and16 f hf hf2
  go_enter Tryz.func124, Tryz.ntmps124
  go_wp2_with (first | (go_at_call 138; refine (flagIf_any _ _ _).mono ?_; rintro e w' ⟨rfl, rfl⟩) | (go_at_call 149; refine (zeroFlag_any _ _).mono ?_; rintro e w' ⟨rfl, rfl⟩))
  go_ret2
  exact ⟨ret2 rfl (by rw [hm.out, or3]), rfl⟩
theorem dec_any (a f : Int) (w : World) (ha : 0 ≤ a) (ha2 : a ≤ 255) (hf : 0 ≤ f) (hf2 : f ≤ 255) :
    Calls Tryz.prog 125 #[.int .u8 a, .int .u8 f] w fun e w' => e = .returned (.tuple #[.int .u8 ((a - 1) % 256), .int .u8 (flg ((a - 1) % 256 == 0) true ((a - 1) % 16 == 15) (cof f == 1))]) ∧ w' = w := by
  have hm : Hid (bits .and .u8 f 16 = flagI (cof f == 1) 16) := and16 f hf hf2
  go_enter Tryz.func125, Tryz.ntmps125
  go_wp2_with (first | (go_at_call 138; refine (flagIf_any _ _ _).mono ?_; rintro e w' ⟨rfl, rfl⟩) | (go_at_call 149; refine (zeroFlag_any _ _).mono ?_; rintro e w' ⟨rfl, rfl⟩))
  go_ret2
  exact ⟨ret2 rfl (by rw [hm.out, orDec]), rfl⟩
set_option maxHeartbeats 1000000 in
theorem step_any (op a f : Int) (w : World) (ha : 0 ≤ a) (ha2 : a ≤ 255) (hf : 0 ≤ f) (hf2 : f ≤ 255) :
    Calls Tryz.prog 103 #[.int .i64 op, .int .u8 a, .int .u8 f] w fun e w' => e = .returned (.tuple #[.int .u8 (stR op a f), .int .u8 (stF op a f)]) ∧ Grown w w' := by
  by_cases h0 : op < 0
  · have e1 : Hid (stR op a f = a) := stR_none op a f (by omega)
    have e2 : Hid (stF op a f = f / 16 * 16) := stF_none op a f (by omega)
    go_enter Tryz.func103, Tryz.ntmps103
    go_wp2_with (go_at_call 126; refine (nothing_any _ _ _ hf hf2).mono ?_; rintro e w' ⟨rfl, rfl⟩)
    go_ret2
    exact ⟨ret2 e1.out.symm e2.out.symm, Grown.alloc (Grown.refl _) _ _⟩
  · by_cases h8 : 2 ≤ op
    · have e1 : Hid (stR op a f = a) := stR_none op a f (by omega)
      have e2 : Hid (stF op a f = f / 16 * 16) := stF_none op a f (by omega)
      go_enter Tryz.func103, Tryz.ntmps103
      go_wp2_with (go_at_call 126; refine (nothing_any _ _ _ hf hf2).mono ?_; rintro e w' ⟨rfl, rfl⟩)
      go_ret2
      exact ⟨ret2 e1.out.symm e2.out.symm, Grown.alloc (Grown.refl _) _ _⟩
    · have hh : op = 0 ∨ op = 1 := by omega
      clear h0 h8
      rcases hh with rfl | rfl
      · go_enter Tryz.func103, Tryz.ntmps103
        go_wp2_with (go_at_call 124; refine (inc_any _ _ _ ha ha2 hf hf2).mono ?_; rintro e w' ⟨rfl, rfl⟩)
        go_ret2
        exact ⟨rfl, Grown.alloc (Grown.refl _) _ _⟩
      · go_enter Tryz.func103, Tryz.ntmps103
        go_wp2_with (go_at_call 125; refine (dec_any _ _ _ ha ha2 hf hf2).mono ?_; rintro e w' ⟨rfl, rfl⟩)
        go_ret2
        exact ⟨rfl, Grown.alloc (Grown.refl _) _ _⟩
theorem addword_any (a b f : Int) (w : World) (ha : 0 ≤ a) (ha2 : a ≤ 65535) (hb : 0 ≤ b) (hb2 : b ≤ 65535) (hf : 0 ≤ f) (hf2 : f ≤ 255) :
    Calls Tryz.prog 111 #[.int .u16 a, .int .u16 b, .int .u8 f] w fun e w' => e = .returned (.tuple #[.int .u16 ((a + b) % 65536), .int .u8 (flg (f / 128 == 1) false (decide (4095 < a % 4096 + b % 4096)) (decide (65535 < a + b)))]) ∧ w' = w := by
  have hm : Hid (bits .and .u8 f 128 = flagI (f / 128 == 1) 128) := and128 f hf hf2
  go_enter Tryz.func111, Tryz.ntmps111
  go_wp2_with (go_at_call 138; refine (flagIf_any _ _ _).mono ?_; rintro e w' ⟨rfl, rfl⟩)
  go_ret2
  exact ⟨ret2 rfl (by rw [hm.out, or3, and4095 a ha ha2, and4095 b hb hb2, IntKind.wrap_u16, show (a % 4096 + b % 4096) % 65536 = a % 4096 + b % 4096 from by omega]), rfl⟩
theorem addoffset_any (sp e : Int) (w : World) (ha : 0 ≤ sp) (ha2 : sp ≤ 65535) (hb : 0 ≤ e) (hb2 : e ≤ 255) :
    Calls Tryz.prog 119 #[.int .u16 sp, .int .u8 e] w fun x w' => x = .returned (.tuple #[.int .u16 (ofR sp e), .int .u8 (ofF sp e)]) ∧ w' = w := by
  go_enter Tryz.func119, Tryz.ntmps119
  go_wp2_with (go_at_call 148; refine (sum_any _ _ _ _ (by omega) (by omega) hb hb2 (by omega) (by omega)).mono ?_; rintro e w' ⟨rfl, rfl⟩)
  go_ret2
  exact ⟨ret2 (ofR_is sp e ha ha2 hb hb2) (ofF_is sp e ha ha2 hb hb2), rfl⟩
end Go.Proofs.YtdkibohpdkdooaaGreatDoor
