/- A tick. -/
import Derived.Test.YtmjfccdhjhkocaaPxK
namespace Go.Proofs.Ytmjfccdhjhkocaa
open Go.RowKit
set_option linter.unusedVariables false
variable {b : Nat} {p : Pic}
/-- what drawing a line makes of a picture -/
def Draws (b : Nat) (q r : Pic) : Prop := ∀ W, PxAt W b q → Calls Try.prog 64 #[.pointer (some ⟨b, 0, none⟩)] W fun e w' => e = .returned (.tuple #[]) ∧ PxAt w' b r ∧ Fr b W w'
def Pic.turnP (p : Pic) (c : Int) (L : Pic → Pic) : Pic := if c = 456 then (p.setClk 456).next else if 144 ≤ p.rg 4 then p.setClk c else if c = 80 then (p.setClk c).setMet (p.met || p.rg 10 == p.rg 4) else L (p.setClk c)
def Pic.turnA (p : Pic) (c : Int) : Int := if c = 456 then (p.setClk 456).nextA else 0
set_option maxRecDepth 100000 in
set_option maxHeartbeats 1000000 in
theorem turnMost_any (L : Pic → Pic) (c : Int) (hM : c = 80 → 144 ≤ p.rg 4) (hc : c = 80 ∨ c = 252 ∨ c = 456) (hL : c = 252 → p.rg 4 < 144 → Draws b (p.setClk 252) (L (p.setClk 252))) (W : World) (h : PxAt W b p) :
    Calls Try.prog 50 #[.pointer (some ⟨b, 0, none⟩), .int .i64 c] W fun e w' => e = .returned (.int .i64 (p.turnA c)) ∧ PxAt w' b (p.turnP c L) ∧ Fr b W w' := by
  have kc := h.clk
  have fc := h.fz 8364
  have h1 : PxAt (W.setCell ⟨b, 8364, none⟩ (.int .i64 c)) b (p.setClk c) := h.set 8364 _ (fun j _ => Pic.cellClk p c j)
  have F1 : Fr b W (W.setCell ⟨b, 8364, none⟩ (.int .i64 c)) := (Fr.refl b W).setCell
  have k4 : W.cell? ⟨b, 8356, none⟩ = some (.int .u8 (p.rg 4)) := h.reg 4 (by decide)
  have k10 : W.cell? ⟨b, 8362, none⟩ = some (.int .u8 (p.rg 10)) := h.reg 10 (by decide)
  have km := h.metC
  have fm := h.fz 8365
  have H1 : Hid _ := And.intro h1 F1
  clear h h1 F1
  unfold Pic.turnA Pic.turnP
  rcases hc with rfl | rfl | rfl
  · rw [if_neg (by decide), if_neg (by decide)]
    by_cases e : 144 ≤ p.rg 4
    · rw [if_pos e]
      have d : decide (144 ≤ p.rg 4) = true := decide_eq_true e
      clear e
      go_enter Try.func50, Try.ntmps50
      go_wp2_with fail
      go_ret
      exact ⟨rfl, H1.out⟩
    · exact absurd (hM rfl) e
  · rw [if_neg (by decide), if_neg (by decide)]
    by_cases e : 144 ≤ p.rg 4
    · rw [if_pos e]
      have d : decide (144 ≤ p.rg 4) = true := decide_eq_true e
      clear e
      go_enter Try.func50, Try.ntmps50
      go_wp2_with fail
      go_ret
      exact ⟨rfl, H1.out⟩
    · rw [if_neg e, if_neg (by decide)]
      have HD : Hid _ := hL rfl (by omega)
      have d : decide (144 ≤ p.rg 4) = false := decide_eq_false e
      clear e hL
      go_enter Try.func50, Try.ntmps50
      go_wp2_with fail
      refine (HD.out _ H1.out.1).mono ?_
      rintro e w2 ⟨rfl, h2, F2⟩
      have H2 : Hid _ := And.intro h2 (H1.out.2.trans F2)
      clear h2 F2
      go_wp2_with fail
      go_ret
      exact ⟨rfl, H2.out⟩
  · rw [if_pos rfl, if_pos rfl]
    go_enter Try.func50, Try.ntmps50
    go_wp2_with fail
    refine (nextLine_any _ H1.out.1).mono ?_
    rintro e w2 ⟨rfl, h2, F2⟩
    have H2 : Hid _ := And.intro h2 (H1.out.2.trans F2)
    clear h2 F2
    go_wp2_with fail
    go_ret
    exact ⟨rfl, H2.out⟩
end Go.Proofs.Ytmjfccdhjhkocaa
