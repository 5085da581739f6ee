/- What the reference's Step comes to, and its bits as a row of its own, as contracts over the translation. Conditions: bytes are 0 to 255; at most sixteen bits. -/
import Derived.Test.YtlbcodjkcjjoeabDoorRefH
namespace Go.Proofs.YtlbcodjkcjjoeabDoor
open Go.ChangeShapes Go.WideShapes Go.ChangeAt Go.RowKit
set_option linter.unusedVariables false
theorem ref_step (op a f : Int) (w : World) (ha : 0 ≤ a) (ha2 : a ≤ 255) (hf : 0 ≤ f) (hf2 : f ≤ 255) :
    Calls Tryd.prog 29 #[.int .i64 op, .int .u8 a, .int .u8 f] w fun e w' => e = .returned (.tuple #[.int .u8 (stR op a f), .int .u8 (stF op a f)]) ∧ w' = w := by
  by_cases h0 : op = 0
  · subst h0
    go_enter Tryd.func29, Tryd.ntmps29
    go_wp2_with (first | (go_at_call 55; refine (has_any _ _ _ hf hf2 (by omega) (by omega)).mono ?_; rintro e w' ⟨rfl, rfl⟩) | (go_at_call 58; refine (flags_any _ _ _ _ _).mono ?_; rintro e w' ⟨rfl, rfl⟩))
    go_ret2
    exact ⟨ret2 (by show _ = (a + 1) % 256; omega) (flg_congr (beqBeq (by omega)) rfl (beqBeq (by omega)) rfl), rfl⟩
  · by_cases h1 : op = 1
    · subst h1
      go_enter Tryd.func29, Tryd.ntmps29
      go_wp2_with (first | (go_at_call 55; refine (has_any _ _ _ hf hf2 (by omega) (by omega)).mono ?_; rintro e w' ⟨rfl, rfl⟩) | (go_at_call 58; refine (flags_any _ _ _ _ _).mono ?_; rintro e w' ⟨rfl, rfl⟩))
      go_ret2
      exact ⟨ret2 (by show _ = (a - 1) % 256; omega) (flg_congr (beqBeq (by omega)) rfl (beqBeq (by omega)) rfl), rfl⟩
    · have e1 : Hid (stR op a f = a) := by show stR op a f = a; unfold stR; rw [if_neg h0, if_neg h1]
      have e2 : Hid (stF op a f = f / 16 * 16) := by show stF op a f = _; unfold stF; rw [if_neg h0, if_neg h1]
      have n0 : (op == 0) = false := beq_eq_false_iff_ne.2 h0
      have n1 : (op == 1) = false := beq_eq_false_iff_ne.2 h1
      clear h0 h1
      go_enter Tryd.func29, Tryd.ntmps29
      go_wp2_with (first | (go_at_call 55; refine (has_any _ _ _ hf hf2 (by omega) (by omega)).mono ?_; rintro e w' ⟨rfl, rfl⟩) | (go_at_call 60; refine (clean_any _ _ hf hf2).mono ?_; rintro e w' ⟨rfl, rfl⟩))
      go_ret2
      exact ⟨ret2 e1.out.symm e2.out.symm, rfl⟩
set_option maxRecDepth 100000 in
set_option maxHeartbeats 1000000 in
theorem bits_own (V n : Nat) (w : World) (hV : V ≤ 65535) (hn : 0 < n) (hn2 : n ≤ 16) :
    Calls Tryd.prog 54 #[.int .i64 V, .int .i64 n] w fun e w' => ∃ s, e = .returned s ∧ w'.ownsRow w.heap.size 4 1 s n ((List.range n).map fun j => Value.bool (bitB V j)) ∧ Below w.heap.size w w' := by
  go_enter Tryd.func54, Tryd.ntmps54
  go_wp2
  go_loopw [0, 5, 6] (fun x v i wr => ∃ k u : Nat, k ≤ n ∧ u ≤ 65535 ∧ i = .int .i64 k ∧ x = .int .i64 u ∧ Hid (u = V / 2 ^ k) ∧ wr.ownsRow w.heap.size 4 1 v k ((List.range k).map fun j => Value.bool (bitB V j)) ∧ Below w.heap.size w wr) (fun _ _ i _ => n - (intOf i).toNat)
  case atStart => exact ⟨0, V, by omega, hV, rfl, rfl, show V = V / 2 ^ 0 by simp, World.ownsRow_nil _ _ _ _, Below.refl _ _⟩
  case round =>
    obtain ⟨k, u, hk, hu, rfl, rfl, hq, hown, hbel⟩ := hrel
    by_cases hlt : k < n
    · have hsz := hbel.size
      go_wp2_with (at_builtin; refine app _ rfl (.tmp 12) (.tmp 16) rfl w.heap.size _ _ _ rfl hown _ rfl (by omega) hsz ?_; intro v1 w1 ho1 hb1 hk1; rw [bits_snoc V k u hq.out] at ho1; have hbel1 : Below w.heap.size w w1 := hbel.trans hb1; clear hown hbel hb1 hk1)
      go_roundw
      case rel => exact ⟨k + 1, u / 2, by omega, by omega, by go_num, by go_num, show u / 2 = V / 2 ^ (k + 1) by rw [hq.out, Nat.div_div_eq_div_mul, Nat.pow_succ], ho1, hbel1⟩
      case measure => simp [intOf]; omega
    · obtain rfl : k = n := by omega
      go_wp2
      go_ret
      exact ⟨_, rfl, hown, hbel⟩
end Go.Proofs.YtlbcodjkcjjoeabDoor
