/- What the reference's Arith comes to, as a contract over the translation. Conditions: bytes are 0 to 255. -/
import Derived.Test.YtlbcodjkcjjoeabDoorRefD
import Derived.Test.YtlbcodjkcjjoeabDoorRefE
import Derived.Test.YtlbcodjkcjjoeabDoorRefG
import Derived.Deep.QuietTactic
import Derived.BigQuiet
namespace Go.Proofs.YtlbcodjkcjjoeabDoor
open Go.ChangeShapes Go.WideShapes Go.ChangeAt Go.RowKit
set_option linter.unusedVariables false
theorem bits8 (V : Nat) (w : World) (hV : V ≤ 65535) :
    Calls Tryd.prog 54 #[.int .i64 V, .int .i64 8] w fun e w' => ∃ s, e = .returned s ∧ BRow w' s 8 (bitB V) ∧ Kept w w' := bits_any V 8 w hV (by decide) (by decide)
theorem number8 (s : Value) (f : Nat → Bool) (w : World) (hs : BRow w s 8 f) :
    Calls Tryd.prog 57 #[s] w fun e w' => ∃ V : Nat, e = .returned (.int .i64 V) ∧ w' = w ∧ V ≤ 255 ∧ Hid (V = numF f 8) :=
  (number_any s 8 f w hs (by decide)).mono fun e w' ⟨he, hw⟩ => ⟨_, he, hw, by have := num_lt f 8; omega, rfl⟩
theorem kdrew {a b : World} (h : Kept a b) (n : Nat) : Kept a (b.drewN n) := h

set_option maxRecDepth 100000 in
set_option maxHeartbeats 2000000 in
theorem ref_arith0 (A B : Nat) (f : Int) (w : World) (hA : A ≤ 255) (hB : B ≤ 255) (hf : 0 ≤ f) (hf2 : f ≤ 255) :
    Calls Tryd.prog 27 #[.int .i64 0, .int .u8 A, .int .u8 B, .int .u8 f] w fun e w' => e = .returned (.tuple #[.int .u8 (arR 0 A B f), .int .u8 (arF 0 A B f)]) ∧ Kept w w' := by
  go_enter Tryd.func27, Tryd.ntmps27
  go_wp2_with fail
  refine (bits8 A _ (by omega)).mono ?_
  rintro e w1 ⟨sx, rfl, hx, k1⟩
  go_wp2_with fail
  refine (bits8 B _ (by omega)).mono ?_
  rintro e w2 ⟨sy, rfl, hy, k2⟩
  go_wp2_with fail
  refine (has_any _ _ _ hf hf2 (by omega) (by omega)).mono ?_
  rintro e w' ⟨rfl, rfl⟩
  go_wp2_with fail
  refine (both_any sx sy A B false 8 _ (hx.kept k2) hy (by decide) (by decide)).mono ?_
  rintro e w3 ⟨s, r, rfl, hs, hr, k3⟩
  go_wp2_with fail
  refine (number8 s _ _ hs).mono ?_
  rintro e w' ⟨V, rfl, rfl, hV, eV⟩
  obtain ⟨br, capr, rfl, hbr, hcr, hcell⟩ := hr
  have c3 := hcell 3 (by decide)
  have c7 := hcell 7 (by decide)
  have fR : Hid ((V : Int) = sumR A B 0) := sumFinR A B false 0 rfl V eV.out hA hB
  have fF : Hid (flg ((V : Int) == 0) false (carN A B false 4) (carN A B false 8) = sumF A B 0) := sumFinF A B false 0 rfl V eV.out hA hB
  have K : Kept w w' := (k1.step k2).step k3
  clear hcell hs hx hy k1 k2 k3 eV
  go_wp2
  go_quiet ((go_at_call 58; exact Calls.quiet_of_same (flags_any _ _ _ _ _)))
  go_wp2
  go_ret2
  exact ⟨ret2 fR.out fF.out, kdrew K nq⟩

set_option maxRecDepth 100000 in
set_option maxHeartbeats 2000000 in
theorem ref_arith1 (A B : Nat) (f : Int) (w : World) (hA : A ≤ 255) (hB : B ≤ 255) (hf : 0 ≤ f) (hf2 : f ≤ 255) :
    Calls Tryd.prog 27 #[.int .i64 1, .int .u8 A, .int .u8 B, .int .u8 f] w fun e w' => e = .returned (.tuple #[.int .u8 (arR 1 A B f), .int .u8 (arF 1 A B f)]) ∧ Kept w w' := by
  go_enter Tryd.func27, Tryd.ntmps27
  go_wp2_with fail
  refine (bits8 A _ (by omega)).mono ?_
  rintro e w1 ⟨sx, rfl, hx, k1⟩
  go_wp2_with fail
  refine (bits8 B _ (by omega)).mono ?_
  rintro e w2 ⟨sy, rfl, hy, k2⟩
  go_wp2_with fail
  refine (has_any _ _ _ hf hf2 (by omega) (by omega)).mono ?_
  rintro e w' ⟨rfl, rfl⟩
  go_wp2_with fail
  refine (both_any sx sy A B (f / 16 % 2 == 1) 8 _ (hx.kept k2) hy (by decide) (by decide)).mono ?_
  rintro e w3 ⟨s, r, rfl, hs, hr, k3⟩
  go_wp2_with fail
  refine (number8 s _ _ hs).mono ?_
  rintro e w' ⟨V, rfl, rfl, hV, eV⟩
  obtain ⟨br, capr, rfl, hbr, hcr, hcell⟩ := hr
  have c3 := hcell 3 (by decide)
  have c7 := hcell 7 (by decide)
  have fR : Hid ((V : Int) = sumR A B (cof f)) := sumFinR A B (f / 16 % 2 == 1) (cof f) (b2n_cof f).symm V eV.out hA hB
  have fF : Hid (flg ((V : Int) == 0) false (carN A B (f / 16 % 2 == 1) 4) (carN A B (f / 16 % 2 == 1) 8) = sumF A B (cof f)) := sumFinF A B (f / 16 % 2 == 1) (cof f) (b2n_cof f).symm V eV.out hA hB
  have K : Kept w w' := (k1.step k2).step k3
  clear hcell hs hx hy k1 k2 k3 eV
  go_wp2
  go_quiet ((go_at_call 58; exact Calls.quiet_of_same (flags_any _ _ _ _ _)))
  go_wp2
  go_ret2
  exact ⟨ret2 fR.out fF.out, kdrew K nq⟩

set_option maxRecDepth 100000 in
set_option maxHeartbeats 2000000 in
theorem ref_arith2 (A B : Nat) (f : Int) (w : World) (hA : A ≤ 255) (hB : B ≤ 255) (hf : 0 ≤ f) (hf2 : f ≤ 255) :
    Calls Tryd.prog 27 #[.int .i64 2, .int .u8 A, .int .u8 B, .int .u8 f] w fun e w' => e = .returned (.tuple #[.int .u8 (arR 2 A B f), .int .u8 (arF 2 A B f)]) ∧ Kept w w' := by
  go_enter Tryd.func27, Tryd.ntmps27
  go_wp2_with fail
  refine (bits8 A _ (by omega)).mono ?_
  rintro e w1 ⟨sx, rfl, hx, k1⟩
  go_wp2_with fail
  refine (bits8 B _ (by omega)).mono ?_
  rintro e w2 ⟨sy, rfl, hy, k2⟩
  go_wp2_with fail
  refine (has_any _ _ _ hf hf2 (by omega) (by omega)).mono ?_
  rintro e w' ⟨rfl, rfl⟩
  go_wp2_with fail
  refine (less_any sx sy A B false 8 _ (hx.kept k2) hy (by decide) (by decide)).mono ?_
  rintro e w3 ⟨s, r, rfl, hs, hr, k3⟩
  go_wp2_with fail
  refine (number8 s _ _ hs).mono ?_
  rintro e w' ⟨V, rfl, rfl, hV, eV⟩
  obtain ⟨br, capr, rfl, hbr, hcr, hcell⟩ := hr
  have c3 := hcell 3 (by decide)
  have c7 := hcell 7 (by decide)
  have fR : Hid ((V : Int) = difR A B 0) := difFinR A B false 0 rfl V eV.out hA hB
  have fF : Hid (flg ((V : Int) == 0) true (borN A B false 4) (borN A B false 8) = difF A B 0) := difFinF A B false 0 rfl V eV.out hA hB
  have K : Kept w w' := (k1.step k2).step k3
  clear hcell hs hx hy k1 k2 k3 eV
  go_wp2
  go_quiet ((go_at_call 58; exact Calls.quiet_of_same (flags_any _ _ _ _ _)))
  go_wp2
  go_ret2
  exact ⟨ret2 fR.out fF.out, kdrew K nq⟩

set_option maxRecDepth 100000 in
set_option maxHeartbeats 2000000 in
theorem ref_arith3 (A B : Nat) (f : Int) (w : World) (hA : A ≤ 255) (hB : B ≤ 255) (hf : 0 ≤ f) (hf2 : f ≤ 255) :
    Calls Tryd.prog 27 #[.int .i64 3, .int .u8 A, .int .u8 B, .int .u8 f] w fun e w' => e = .returned (.tuple #[.int .u8 (arR 3 A B f), .int .u8 (arF 3 A B f)]) ∧ Kept w w' := by
  go_enter Tryd.func27, Tryd.ntmps27
  go_wp2_with fail
  refine (bits8 A _ (by omega)).mono ?_
  rintro e w1 ⟨sx, rfl, hx, k1⟩
  go_wp2_with fail
  refine (bits8 B _ (by omega)).mono ?_
  rintro e w2 ⟨sy, rfl, hy, k2⟩
  go_wp2_with fail
  refine (has_any _ _ _ hf hf2 (by omega) (by omega)).mono ?_
  rintro e w' ⟨rfl, rfl⟩
  go_wp2_with fail
  refine (less_any sx sy A B (f / 16 % 2 == 1) 8 _ (hx.kept k2) hy (by decide) (by decide)).mono ?_
  rintro e w3 ⟨s, r, rfl, hs, hr, k3⟩
  go_wp2_with fail
  refine (number8 s _ _ hs).mono ?_
  rintro e w' ⟨V, rfl, rfl, hV, eV⟩
  obtain ⟨br, capr, rfl, hbr, hcr, hcell⟩ := hr
  have c3 := hcell 3 (by decide)
  have c7 := hcell 7 (by decide)
  have fR : Hid ((V : Int) = difR A B (cof f)) := difFinR A B (f / 16 % 2 == 1) (cof f) (b2n_cof f).symm V eV.out hA hB
  have fF : Hid (flg ((V : Int) == 0) true (borN A B (f / 16 % 2 == 1) 4) (borN A B (f / 16 % 2 == 1) 8) = difF A B (cof f)) := difFinF A B (f / 16 % 2 == 1) (cof f) (b2n_cof f).symm V eV.out hA hB
  have K : Kept w w' := (k1.step k2).step k3
  clear hcell hs hx hy k1 k2 k3 eV
  go_wp2
  go_quiet ((go_at_call 58; exact Calls.quiet_of_same (flags_any _ _ _ _ _)))
  go_wp2
  go_ret2
  exact ⟨ret2 fR.out fF.out, kdrew K nq⟩

set_option maxRecDepth 100000 in
set_option maxHeartbeats 2000000 in
theorem ref_arith7 (A B : Nat) (f : Int) (w : World) (hA : A ≤ 255) (hB : B ≤ 255) (hf : 0 ≤ f) (hf2 : f ≤ 255) :
    Calls Tryd.prog 27 #[.int .i64 7, .int .u8 A, .int .u8 B, .int .u8 f] w fun e w' => e = .returned (.tuple #[.int .u8 (arR 7 A B f), .int .u8 (arF 7 A B f)]) ∧ Kept w w' := by
  go_enter Tryd.func27, Tryd.ntmps27
  go_wp2_with fail
  refine (bits8 A _ (by omega)).mono ?_
  rintro e w1 ⟨sx, rfl, hx, k1⟩
  go_wp2_with fail
  refine (bits8 B _ (by omega)).mono ?_
  rintro e w2 ⟨sy, rfl, hy, k2⟩
  go_wp2_with fail
  refine (has_any _ _ _ hf hf2 (by omega) (by omega)).mono ?_
  rintro e w' ⟨rfl, rfl⟩
  go_wp2_with fail
  refine (less_any sx sy A B false 8 _ (hx.kept k2) hy (by decide) (by decide)).mono ?_
  rintro e w3 ⟨s, r, rfl, hs, hr, k3⟩
  go_wp2_with fail
  refine (number8 s _ _ hs).mono ?_
  rintro e w' ⟨V, rfl, rfl, hV, eV⟩
  obtain ⟨br, capr, rfl, hbr, hcr, hcell⟩ := hr
  have c3 := hcell 3 (by decide)
  have c7 := hcell 7 (by decide)
  have fR : Hid ((V : Int) = difR A B 0) := difFinR A B false 0 rfl V eV.out hA hB
  have fF : Hid (flg ((V : Int) == 0) true (borN A B false 4) (borN A B false 8) = difF A B 0) := difFinF A B false 0 rfl V eV.out hA hB
  have K : Kept w w' := (k1.step k2).step k3
  clear hcell hs hx hy k1 k2 k3 eV
  go_wp2
  go_quiet ((go_at_call 58; exact Calls.quiet_of_same (flags_any _ _ _ _ _)))
  go_wp2
  go_ret2
  exact ⟨ret2 rfl fF.out, kdrew K nq⟩

set_option maxRecDepth 100000 in
set_option maxHeartbeats 2000000 in
theorem ref_arithNone (op : Int) (A B : Nat) (f : Int) (w : World) (ho : op < 0 ∨ 8 ≤ op) (hA : A ≤ 255) (hB : B ≤ 255) (hf : 0 ≤ f) (hf2 : f ≤ 255) :
    Calls Tryd.prog 27 #[.int .i64 op, .int .u8 A, .int .u8 B, .int .u8 f] w fun e w' => e = .returned (.tuple #[.int .u8 (arR op A B f), .int .u8 (arF op A B f)]) ∧ Kept w w' := by
  have e1 : Hid (arR op A B f = A) := arR_none op A B f ho
  have e2 : Hid (arF op A B f = f / 16 * 16) := arF_none op A B f ho
  have n0 : (op == 0) = false := beq_eq_false_iff_ne.2 (by omega)
  have n1 : (op == 1) = false := beq_eq_false_iff_ne.2 (by omega)
  have n2 : (op == 2) = false := beq_eq_false_iff_ne.2 (by omega)
  have n3 : (op == 3) = false := beq_eq_false_iff_ne.2 (by omega)
  have n4 : (op == 4) = false := beq_eq_false_iff_ne.2 (by omega)
  have n5 : (op == 5) = false := beq_eq_false_iff_ne.2 (by omega)
  have n6 : (op == 6) = false := beq_eq_false_iff_ne.2 (by omega)
  have n7 : (op == 7) = false := beq_eq_false_iff_ne.2 (by omega)
  clear ho
  go_enter Tryd.func27, Tryd.ntmps27
  go_wp2_with fail
  refine (bits8 A _ (by omega)).mono ?_
  rintro e w1 ⟨sx, rfl, hx, k1⟩
  go_wp2_with fail
  refine (bits8 B _ (by omega)).mono ?_
  rintro e w2 ⟨sy, rfl, hy, k2⟩
  go_wp2_with (first | (go_at_call 55; refine (has_any _ _ _ hf hf2 (by omega) (by omega)).mono ?_; rintro e w' ⟨rfl, rfl⟩) | (go_at_call 60; refine (clean_any _ _ hf hf2).mono ?_; rintro e w' ⟨rfl, rfl⟩))
  go_ret2
  exact ⟨ret2 e1.out.symm e2.out.symm, k1.step k2⟩
end Go.Proofs.YtlbcodjkcjjoeabDoor
