/- Any tick. -/
import Derived.Test.YtmjfccdhjhkocaaPxN
namespace Go.Proofs.Ytmjfccdhjhkocaa
open Go.RowKit
set_option linter.unusedVariables false
variable {b : Nat} {p : Pic}
set_option maxRecDepth 100000 in
theorem tickOff_any (on : p.has 128 = false) (W : World) (h : PxAt W b p) :
    Calls Try.prog 22 #[.pointer (some ⟨b, 0, none⟩)] W fun e w' => e = .returned (.int .i64 0) ∧ PxAt w' b p ∧ Fr b W w' := by
  have HA : Hid (∀ W, PxAt W b p → Calls Try.prog 48 #[.pointer (some ⟨b, 0, none⟩), .int .u8 128] W fun e w' => e = .returned (.bool false) ∧ w' = W) := fun W h => on ▸ has_any 128 W h
  have H : Hid (PxAt W b p) := h
  clear h on
  go_enter Try.func22, Try.ntmps22
  go_wp2_with fail
  refine (HA.out _ H.out).mono ?_
  rintro e w' ⟨rfl, hw'⟩
  obtain rfl := hw'.symm
  go_wp2_with fail
  go_ret
  exact ⟨rfl, H.out, Fr.refl b _⟩
set_option maxRecDepth 100000 in
set_option maxHeartbeats 1000000 in
theorem tickPlain_any (on : p.has 128 = true) (h0 : 0 ≤ p.clk) (h9 : p.clk ≤ 452) (hn : ¬ atTurn (p.clk + 4)) (W : World) (h : PxAt W b p) :
    Calls Try.prog 22 #[.pointer (some ⟨b, 0, none⟩)] W fun e w' => e = .returned (.int .i64 0) ∧ PxAt w' b (p.setClk (p.clk + 4)) ∧ Fr b W w' := by
  have kc := h.clk
  have fc := h.fz 8364
  have n1 : ¬ p.clk + 4 = 80 := fun e => hn (Or.inl e)
  have n2 : ¬ p.clk + 4 = 252 := fun e => hn (Or.inr (Or.inl e))
  have n3 : ¬ p.clk + 4 = 456 := fun e => hn (Or.inr (Or.inr e))
  have d1 : (p.clk + 4 != 80) = true := bne_iff_ne.2 n1
  have d2 : (p.clk + 4 != 252) = true := bne_iff_ne.2 n2
  have d3 : (p.clk + 4 != 456) = true := bne_iff_ne.2 n3
  have HA : Hid (∀ W, PxAt W b p → Calls Try.prog 48 #[.pointer (some ⟨b, 0, none⟩), .int .u8 128] W fun e w' => e = .returned (.bool true) ∧ w' = W) := fun W h => on ▸ has_any 128 W h
  have H : Hid (PxAt W b p) := h
  have H2 : Hid _ := And.intro (h.set 8364 _ (fun j _ => Pic.cellClk p (p.clk + 4) j)) ((Fr.refl b W).setCell (k := 8364) (v := .int .i64 (p.clk + 4)))
  clear h on hn
  generalize hk : p.clk = k at *
  go_enter Try.func22, Try.ntmps22
  go_wp2_with fail
  refine (HA.out _ H.out).mono ?_
  rintro e w' ⟨rfl, hw'⟩
  obtain rfl := hw'.symm
  go_wp2_with fail
  go_ret
  exact ⟨rfl, H2.out⟩
theorem tick_any (L : Pic → Pic) (h0 : 0 ≤ p.clk) (h9 : p.clk ≤ 452) (hL : p.has 128 = true → p.clk = 248 → p.rg 4 < 144 → Draws b (p.setClk 252) (L (p.setClk 252))) (W : World) (h : PxAt W b p) :
    Calls Try.prog 22 #[.pointer (some ⟨b, 0, none⟩)] W fun e w' => e = .returned (.int .i64 (p.tickA L)) ∧ PxAt w' b (p.tickP L) ∧ Fr b W w' := by
  unfold Pic.tickA Pic.tickP
  cases on : p.has 128
  · simp only [if_true]
    exact tickOff_any on W h
  · simp only [Bool.true_eq_false, if_false]
    by_cases ht : atTurn (p.clk + 4)
    · simp only [if_pos ht]
      exact tickAt_any L on _ rfl ht (fun e => hL on (by omega)) W h
    · simp only [if_neg ht]
      exact tickPlain_any on h0 h9 ht W h
end Go.Proofs.Ytmjfccdhjhkocaa
