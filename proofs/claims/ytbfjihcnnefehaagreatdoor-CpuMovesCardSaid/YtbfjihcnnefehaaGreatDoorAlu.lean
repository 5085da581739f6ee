/- What the calls of package alu come to, as contracts over the translation. Conditions: bytes are 0 to 255. -/
import Derived.Test.YtbfjihcnnefehaaGreatDoorRows
import Derived.Test.YtbfjihcnnefehaaGreatDoorPlain
import Derived.WalkKit
import Derived.ProofKit
import Derived.OpenShut
import Derived.Laws.EntriesVeiled
namespace Go.Proofs.YtbfjihcnnefehaaGreatDoor
open Go.ChangeShapes Go.WideShapes Go.ChangeAt Go.RowKit
set_option linter.unusedVariables false

theorem ret2 {k l : IntKind} {a b c d : Int} (h : a = c) (g : b = d) : Ending.returned (.tuple #[.int k a, .int l b]) = .returned (.tuple #[.int k c, .int l d]) := by rw [h, g]
theorem retb {b : Bool} (h : b = true) : Ending.returned (.bool b) = .returned (.bool true) := by rw [h]
theorem Grown.step {W a b : World} (h : Grown W a) (g : Grown a b) : Grown W b :=
  ⟨World.keptBut_trans h.1 (World.keptBut_mono (fun _ f => f.elim) g.1), fun x => (g.2.1 x).trans (h.2.1 x), Nat.le_trans h.2.2 g.2.2⟩
theorem ret1 {k : IntKind} {a c : Int} (h : a = c) : Ending.returned (.int k a) = .returned (.int k c) := by rw [h]

theorem flagIf_any (b : Bool) (x : Int) (w : World) :
    Calls Tryz.prog 121 #[.bool b, .int .u8 x] w fun e w' => e = .returned (.int .u8 (flagI b x)) ∧ w' = w := by
  cases b
  · go_enter Tryz.func121, Tryz.ntmps121
    go_wp2
    go_ret
    exact ⟨rfl, rfl⟩
  · go_enter Tryz.func121, Tryz.ntmps121
    go_wp2
    go_ret
    exact ⟨rfl, rfl⟩
theorem zeroFlag_any (x : Int) (w : World) :
    Calls Tryz.prog 120 #[.int .u8 x] w fun e w' => e = .returned (.int .u8 (flagI (x == 0) 128)) ∧ w' = w := by
  go_enter Tryz.func120, Tryz.ntmps120
  go_wp2_with (go_at_call 121; refine (flagIf_any _ _ _).mono ?_; rintro e w' ⟨rfl, rfl⟩)
  go_ret
  exact ⟨rfl, rfl⟩
theorem sum_any (a b c : Int) (w : World) (ha : 0 ≤ a) (ha2 : a ≤ 255) (hb : 0 ≤ b) (hb2 : b ≤ 255) (hc : 0 ≤ c) (hc2 : c ≤ 1) :
    Calls Tryz.prog 74 #[.int .u8 a, .int .u8 b, .int .u8 c] w fun e w' => e = .returned (.tuple #[.int .u8 (sumR a b c), .int .u8 (sumF a b c)]) ∧ w' = w := by
  go_enter Tryz.func74, Tryz.ntmps74
  go_wp2_with (first | (go_at_call 121; refine (flagIf_any _ _ _).mono ?_; rintro e w' ⟨rfl, rfl⟩) | (go_at_call 120; refine (zeroFlag_any _ _).mono ?_; rintro e w' ⟨rfl, rfl⟩))
  go_ret2
  exact ⟨ret2 rfl (by rw [or3]; rfl), rfl⟩
theorem difference_any (a b c : Int) (w : World) (ha : 0 ≤ a) (ha2 : a ≤ 255) (hb : 0 ≤ b) (hb2 : b ≤ 255) (hc : 0 ≤ c) (hc2 : c ≤ 1) :
    Calls Tryz.prog 119 #[.int .u8 a, .int .u8 b, .int .u8 c] w fun e w' => e = .returned (.tuple #[.int .u8 (difR a b c), .int .u8 (difF a b c)]) ∧ w' = w := by
  go_enter Tryz.func119, Tryz.ntmps119
  go_wp2_with (first | (go_at_call 121; refine (flagIf_any _ _ _).mono ?_; rintro e w' ⟨rfl, rfl⟩) | (go_at_call 120; refine (zeroFlag_any _ _).mono ?_; rintro e w' ⟨rfl, rfl⟩))
  go_ret2
  exact ⟨ret2 rfl (by rw [orDif]; rfl), rfl⟩
theorem carryOf_any (f : Int) (w : World) (hf : 0 ≤ f) (hf2 : f ≤ 255) :
    Calls Tryz.prog 118 #[.int .u8 f] w fun e w' => e = .returned (.int .u8 (cof f)) ∧ w' = w := by
  have h := and16 f hf hf2
  have b := cof_lo f
  have c := cof_hi f
  by_cases k : cof f = 1
  · have hh : (bits .and .u8 f 16 != 0) = true := by rw [h, k]; decide
    have K : Hid (cof f = 1) := k
    clear k h
    go_enter Tryz.func118, Tryz.ntmps118
    go_wp2
    go_ret
    exact ⟨ret1 (by rw [K.out]), rfl⟩
  · have k0 : cof f = 0 := by omega
    have hh : (bits .and .u8 f 16 != 0) = false := by rw [h, k0]; decide
    have K : Hid (cof f = 0) := k0
    clear k h k0
    go_enter Tryz.func118, Tryz.ntmps118
    go_wp2
    go_ret
    exact ⟨ret1 (by rw [K.out]), rfl⟩
theorem add_any (a b f : Int) (w : World) (ha : 0 ≤ a) (ha2 : a ≤ 255) (hb : 0 ≤ b) (hb2 : b ≤ 255) :
    Calls Tryz.prog 55 #[.int .u8 a, .int .u8 b, .int .u8 f] w fun e w' => e = .returned (.tuple #[.int .u8 (sumR a b 0), .int .u8 (sumF a b 0)]) ∧ w' = w := by
  go_enter Tryz.func55, Tryz.ntmps55
  go_wp2_with (go_at_call 74; refine (sum_any _ _ _ _ ha ha2 hb hb2 (by omega) (by omega)).mono ?_; rintro e w' ⟨rfl, rfl⟩)
  go_ret2
  exact ⟨rfl, rfl⟩
theorem adc_any (a b f : Int) (w : World) (ha : 0 ≤ a) (ha2 : a ≤ 255) (hb : 0 ≤ b) (hb2 : b ≤ 255) (hf : 0 ≤ f) (hf2 : f ≤ 255) :
    Calls Tryz.prog 56 #[.int .u8 a, .int .u8 b, .int .u8 f] w fun e w' => e = .returned (.tuple #[.int .u8 (sumR a b (cof f)), .int .u8 (sumF a b (cof f))]) ∧ w' = w := by
  have c0 := cof_lo f
  have c1 := cof_hi f
  go_enter Tryz.func56, Tryz.ntmps56
  go_wp2_with (first | (go_at_call 118; refine (carryOf_any _ _ hf hf2).mono ?_; rintro e w' ⟨rfl, rfl⟩) | (go_at_call 74; refine (sum_any _ _ _ _ ha ha2 hb hb2 c0 c1).mono ?_; rintro e w' ⟨rfl, rfl⟩))
  go_ret2
  exact ⟨rfl, rfl⟩
theorem sub_any (a b f : Int) (w : World) (ha : 0 ≤ a) (ha2 : a ≤ 255) (hb : 0 ≤ b) (hb2 : b ≤ 255) :
    Calls Tryz.prog 57 #[.int .u8 a, .int .u8 b, .int .u8 f] w fun e w' => e = .returned (.tuple #[.int .u8 (difR a b 0), .int .u8 (difF a b 0)]) ∧ w' = w := by
  go_enter Tryz.func57, Tryz.ntmps57
  go_wp2_with (go_at_call 119; refine (difference_any _ _ _ _ ha ha2 hb hb2 (by omega) (by omega)).mono ?_; rintro e w' ⟨rfl, rfl⟩)
  go_ret2
  exact ⟨rfl, rfl⟩
theorem sbc_any (a b f : Int) (w : World) (ha : 0 ≤ a) (ha2 : a ≤ 255) (hb : 0 ≤ b) (hb2 : b ≤ 255) (hf : 0 ≤ f) (hf2 : f ≤ 255) :
    Calls Tryz.prog 58 #[.int .u8 a, .int .u8 b, .int .u8 f] w fun e w' => e = .returned (.tuple #[.int .u8 (difR a b (cof f)), .int .u8 (difF a b (cof f))]) ∧ w' = w := by
  have c0 := cof_lo f
  have c1 := cof_hi f
  go_enter Tryz.func58, Tryz.ntmps58
  go_wp2_with (first | (go_at_call 118; refine (carryOf_any _ _ hf hf2).mono ?_; rintro e w' ⟨rfl, rfl⟩) | (go_at_call 119; refine (difference_any _ _ _ _ ha ha2 hb hb2 c0 c1).mono ?_; rintro e w' ⟨rfl, rfl⟩))
  go_ret2
  exact ⟨rfl, rfl⟩
theorem and_any (a b f : Int) (w : World) :
    Calls Tryz.prog 59 #[.int .u8 a, .int .u8 b, .int .u8 f] w fun e w' => e = .returned (.tuple #[.int .u8 (bits .and .u8 a b), .int .u8 (flg (bits .and .u8 a b == 0) false true false)]) ∧ w' = w := by
  go_enter Tryz.func59, Tryz.ntmps59
  go_wp2_with (go_at_call 120; refine (zeroFlag_any _ _).mono ?_; rintro e w' ⟨rfl, rfl⟩)
  go_ret2
  exact ⟨ret2 rfl (by rw [orAnd]), rfl⟩
theorem xor_any (a b f : Int) (w : World) :
    Calls Tryz.prog 60 #[.int .u8 a, .int .u8 b, .int .u8 f] w fun e w' => e = .returned (.tuple #[.int .u8 (bits .xor .u8 a b), .int .u8 (flg (bits .xor .u8 a b == 0) false false false)]) ∧ w' = w := by
  go_enter Tryz.func60, Tryz.ntmps60
  go_wp2_with (go_at_call 120; refine (zeroFlag_any _ _).mono ?_; rintro e w' ⟨rfl, rfl⟩)
  go_ret2
  exact ⟨ret2 rfl (by rw [orNone]), rfl⟩
theorem or_any (a b f : Int) (w : World) :
    Calls Tryz.prog 61 #[.int .u8 a, .int .u8 b, .int .u8 f] w fun e w' => e = .returned (.tuple #[.int .u8 (bits .or .u8 a b), .int .u8 (flg (bits .or .u8 a b == 0) false false false)]) ∧ w' = w := by
  go_enter Tryz.func61, Tryz.ntmps61
  go_wp2_with (go_at_call 120; refine (zeroFlag_any _ _).mono ?_; rintro e w' ⟨rfl, rfl⟩)
  go_ret2
  exact ⟨ret2 rfl (by rw [orNone]), rfl⟩
theorem cp_any (a b f : Int) (w : World) (ha : 0 ≤ a) (ha2 : a ≤ 255) (hb : 0 ≤ b) (hb2 : b ≤ 255) :
    Calls Tryz.prog 62 #[.int .u8 a, .int .u8 b, .int .u8 f] w fun e w' => e = .returned (.tuple #[.int .u8 a, .int .u8 (difF a b 0)]) ∧ w' = w := by
  go_enter Tryz.func62, Tryz.ntmps62
  go_wp2_with (go_at_call 119; refine (difference_any _ _ _ _ ha ha2 hb hb2 (by omega) (by omega)).mono ?_; rintro e w' ⟨rfl, rfl⟩)
  go_ret2
  exact ⟨rfl, rfl⟩
theorem nothing_any (a f : Int) (w : World) (hf : 0 ≤ f) (hf2 : f ≤ 255) :
    Calls Tryz.prog 63 #[.int .u8 a, .int .u8 f] w fun e w' => e = .returned (.tuple #[.int .u8 a, .int .u8 (f / 16 * 16)]) ∧ w' = w := by
  go_enter Tryz.func63, Tryz.ntmps63
  go_wp2
  go_ret2
  exact ⟨ret2 rfl (and240 f hf hf2), rfl⟩
set_option maxHeartbeats 1000000 in
theorem arith_any (op a b f : Int) (w : World) (ha : 0 ≤ a) (ha2 : a ≤ 255) (hb : 0 ≤ b) (hb2 : b ≤ 255) (hf : 0 ≤ f) (hf2 : f ≤ 255) :
    Calls Tryz.prog 33 #[.int .i64 op, .int .u8 a, .int .u8 b, .int .u8 f] w fun e w' => e = .returned (.tuple #[.int .u8 (arR op a b f), .int .u8 (arF op a b f)]) ∧ Grown w w' := by
  by_cases h0 : op < 0
  · have e1 : Hid (arR op a b f = a) := arR_none op a b f (by omega)
    have e2 : Hid (arF op a b f = f / 16 * 16) := arF_none op a b f (by omega)
    go_enter Tryz.func33, Tryz.ntmps33
    go_wp2_with (go_at_call 63; refine (nothing_any _ _ _ hf hf2).mono ?_; rintro e w' ⟨rfl, rfl⟩)
    go_ret2
    exact ⟨ret2 e1.out.symm e2.out.symm, Grown.alloc (Grown.refl _) _ _⟩
  · by_cases h8 : 8 ≤ op
    · have e1 : Hid (arR op a b f = a) := arR_none op a b f (by omega)
      have e2 : Hid (arF op a b f = f / 16 * 16) := arF_none op a b f (by omega)
      go_enter Tryz.func33, Tryz.ntmps33
      go_wp2_with (go_at_call 63; refine (nothing_any _ _ _ hf hf2).mono ?_; rintro e w' ⟨rfl, rfl⟩)
      go_ret2
      exact ⟨ret2 e1.out.symm e2.out.symm, Grown.alloc (Grown.refl _) _ _⟩
    · have hh : op = 0 ∨ op = 1 ∨ op = 2 ∨ op = 3 ∨ op = 4 ∨ op = 5 ∨ op = 6 ∨ op = 7 := by omega
      clear h0 h8
      rcases hh with rfl | rfl | rfl | rfl | rfl | rfl | rfl | rfl
      · go_enter Tryz.func33, Tryz.ntmps33
        go_wp2_with (go_at_call 55; refine (add_any _ _ _ _ ha ha2 hb hb2).mono ?_; rintro e w' ⟨rfl, rfl⟩)
        go_ret2
        exact ⟨rfl, Grown.alloc (Grown.refl _) _ _⟩
      · go_enter Tryz.func33, Tryz.ntmps33
        go_wp2_with (go_at_call 56; refine (adc_any _ _ _ _ ha ha2 hb hb2 hf hf2).mono ?_; rintro e w' ⟨rfl, rfl⟩)
        go_ret2
        exact ⟨rfl, Grown.alloc (Grown.refl _) _ _⟩
      · go_enter Tryz.func33, Tryz.ntmps33
        go_wp2_with (go_at_call 57; refine (sub_any _ _ _ _ ha ha2 hb hb2).mono ?_; rintro e w' ⟨rfl, rfl⟩)
        go_ret2
        exact ⟨rfl, Grown.alloc (Grown.refl _) _ _⟩
      · go_enter Tryz.func33, Tryz.ntmps33
        go_wp2_with (go_at_call 58; refine (sbc_any _ _ _ _ ha ha2 hb hb2 hf hf2).mono ?_; rintro e w' ⟨rfl, rfl⟩)
        go_ret2
        exact ⟨rfl, Grown.alloc (Grown.refl _) _ _⟩
      · go_enter Tryz.func33, Tryz.ntmps33
        go_wp2_with (go_at_call 59; refine (and_any _ _ _ _).mono ?_; rintro e w' ⟨rfl, rfl⟩)
        go_ret2
        exact ⟨rfl, Grown.alloc (Grown.refl _) _ _⟩
      · go_enter Tryz.func33, Tryz.ntmps33
        go_wp2_with (go_at_call 60; refine (xor_any _ _ _ _).mono ?_; rintro e w' ⟨rfl, rfl⟩)
        go_ret2
        exact ⟨rfl, Grown.alloc (Grown.refl _) _ _⟩
      · go_enter Tryz.func33, Tryz.ntmps33
        go_wp2_with (go_at_call 61; refine (or_any _ _ _ _).mono ?_; rintro e w' ⟨rfl, rfl⟩)
        go_ret2
        exact ⟨rfl, Grown.alloc (Grown.refl _) _ _⟩
      · go_enter Tryz.func33, Tryz.ntmps33
        go_wp2_with (go_at_call 62; refine (cp_any _ _ _ _ ha ha2 hb hb2).mono ?_; rintro e w' ⟨rfl, rfl⟩)
        go_ret2
        exact ⟨rfl, Grown.alloc (Grown.refl _) _ _⟩
theorem inc_any (a f : Int) (w : World) (ha : 0 ≤ a) (ha2 : a ≤ 255) (hf : 0 ≤ f) (hf2 : f ≤ 255) :
    Calls Tryz.prog 64 #[.int .u8 a, .int .u8 f] w fun e w' => e = .returned (.tuple #[.int .u8 ((a + 1) % 256), .int .u8 (flg ((a + 1) % 256 == 0) false ((a + 1) % 16 == 0) (cof f == 1))]) ∧ w' = w := by
  have hm : Hid (bits .and .u8 f 16 = flagI (cof f == 1) 16) := and16 f hf hf2
  go_enter Tryz.func64, Tryz.ntmps64
  go_wp2_with (first | (go_at_call 121; refine (flagIf_any _ _ _).mono ?_; rintro e w' ⟨rfl, rfl⟩) | (go_at_call 120; refine (zeroFlag_any _ _).mono ?_; rintro e w' ⟨rfl, rfl⟩))
  go_ret2
  exact ⟨ret2 rfl (by rw [hm.out, or3]), rfl⟩
theorem dec_any (a f : Int) (w : World) (ha : 0 ≤ a) (ha2 : a ≤ 255) (hf : 0 ≤ f) (hf2 : f ≤ 255) :
    Calls Tryz.prog 65 #[.int .u8 a, .int .u8 f] w fun e w' => e = .returned (.tuple #[.int .u8 ((a - 1) % 256), .int .u8 (flg ((a - 1) % 256 == 0) true ((a - 1) % 16 == 15) (cof f == 1))]) ∧ w' = w := by
  have hm : Hid (bits .and .u8 f 16 = flagI (cof f == 1) 16) := and16 f hf hf2
  go_enter Tryz.func65, Tryz.ntmps65
  go_wp2_with (first | (go_at_call 121; refine (flagIf_any _ _ _).mono ?_; rintro e w' ⟨rfl, rfl⟩) | (go_at_call 120; refine (zeroFlag_any _ _).mono ?_; rintro e w' ⟨rfl, rfl⟩))
  go_ret2
  exact ⟨ret2 rfl (by rw [hm.out, orDec]), rfl⟩
set_option maxHeartbeats 1000000 in
theorem step_any (op a f : Int) (w : World) (ha : 0 ≤ a) (ha2 : a ≤ 255) (hf : 0 ≤ f) (hf2 : f ≤ 255) :
    Calls Tryz.prog 34 #[.int .i64 op, .int .u8 a, .int .u8 f] w fun e w' => e = .returned (.tuple #[.int .u8 (stR op a f), .int .u8 (stF op a f)]) ∧ Grown w w' := by
  by_cases h0 : op < 0
  · have e1 : Hid (stR op a f = a) := stR_none op a f (by omega)
    have e2 : Hid (stF op a f = f / 16 * 16) := stF_none op a f (by omega)
    go_enter Tryz.func34, Tryz.ntmps34
    go_wp2_with (go_at_call 63; refine (nothing_any _ _ _ hf hf2).mono ?_; rintro e w' ⟨rfl, rfl⟩)
    go_ret2
    exact ⟨ret2 e1.out.symm e2.out.symm, Grown.alloc (Grown.refl _) _ _⟩
  · by_cases h8 : 2 ≤ op
    · have e1 : Hid (stR op a f = a) := stR_none op a f (by omega)
      have e2 : Hid (stF op a f = f / 16 * 16) := stF_none op a f (by omega)
      go_enter Tryz.func34, Tryz.ntmps34
      go_wp2_with (go_at_call 63; refine (nothing_any _ _ _ hf hf2).mono ?_; rintro e w' ⟨rfl, rfl⟩)
      go_ret2
      exact ⟨ret2 e1.out.symm e2.out.symm, Grown.alloc (Grown.refl _) _ _⟩
    · have hh : op = 0 ∨ op = 1 := by omega
      clear h0 h8
      rcases hh with rfl | rfl
      · go_enter Tryz.func34, Tryz.ntmps34
        go_wp2_with (go_at_call 64; refine (inc_any _ _ _ ha ha2 hf hf2).mono ?_; rintro e w' ⟨rfl, rfl⟩)
        go_ret2
        exact ⟨rfl, Grown.alloc (Grown.refl _) _ _⟩
      · go_enter Tryz.func34, Tryz.ntmps34
        go_wp2_with (go_at_call 65; refine (dec_any _ _ _ ha ha2 hf hf2).mono ?_; rintro e w' ⟨rfl, rfl⟩)
        go_ret2
        exact ⟨rfl, Grown.alloc (Grown.refl _) _ _⟩
theorem addword_any (a b f : Int) (w : World) (ha : 0 ≤ a) (ha2 : a ≤ 65535) (hb : 0 ≤ b) (hb2 : b ≤ 65535) (hf : 0 ≤ f) (hf2 : f ≤ 255) :
    Calls Tryz.prog 176 #[.int .u16 a, .int .u16 b, .int .u8 f] w fun e w' => e = .returned (.tuple #[.int .u16 ((a + b) % 65536), .int .u8 (flg (f / 128 == 1) false (decide (4095 < a % 4096 + b % 4096)) (decide (65535 < a + b)))]) ∧ w' = w := by
  have hm : Hid (bits .and .u8 f 128 = flagI (f / 128 == 1) 128) := and128 f hf hf2
  go_enter Tryz.func176, Tryz.ntmps176
  go_wp2_with (go_at_call 121; refine (flagIf_any _ _ _).mono ?_; rintro e w' ⟨rfl, rfl⟩)
  go_ret2
  exact ⟨ret2 rfl (by rw [hm.out, or3, and4095 a ha ha2, and4095 b hb hb2, IntKind.wrap_u16, show (a % 4096 + b % 4096) % 65536 = a % 4096 + b % 4096 from by omega]), rfl⟩
theorem addoffset_any (sp e : Int) (w : World) (ha : 0 ≤ sp) (ha2 : sp ≤ 65535) (hb : 0 ≤ e) (hb2 : e ≤ 255) :
    Calls Tryz.prog 36 #[.int .u16 sp, .int .u8 e] w fun x w' => x = .returned (.tuple #[.int .u16 (ofR sp e), .int .u8 (ofF sp e)]) ∧ w' = w := by
  go_enter Tryz.func36, Tryz.ntmps36
  go_wp2_with (go_at_call 74; refine (sum_any _ _ _ _ (by omega) (by omega) hb hb2 (by omega) (by omega)).mono ?_; rintro e w' ⟨rfl, rfl⟩)
  go_ret2
  exact ⟨ret2 (ofR_is sp e ha ha2 hb hb2) (ofF_is sp e ha ha2 hb hb2), rfl⟩
end Go.Proofs.YtbfjihcnnefehaaGreatDoor
