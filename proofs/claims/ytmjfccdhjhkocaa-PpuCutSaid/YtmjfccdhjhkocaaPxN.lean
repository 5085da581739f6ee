/- A turn at any of its clocks; a tick. -/
import Derived.Test.YtmjfccdhjhkocaaPxL2
namespace Go.Proofs.Ytmjfccdhjhkocaa
open Go.RowKit
set_option linter.unusedVariables false
variable {b : Nat} {p : Pic}
theorem turn_any (L : Pic → Pic) (c : Int) (hc : c = 80 ∨ c = 252 ∨ c = 456) (hL : c = 252 → p.rg 4 < 144 → Draws b (p.setClk 252) (L (p.setClk 252))) (W : World) (h : PxAt W b p) :
    Calls Try.prog 50 #[.pointer (some ⟨b, 0, none⟩), .int .i64 c] W fun e w' => e = .returned (.int .i64 (p.turnA c)) ∧ PxAt w' b (p.turnP c L) ∧ Fr b W w' := by
  by_cases h80 : c = 80 ∧ p.rg 4 < 144
  · obtain ⟨rfl, hr⟩ := h80
    have e1 : p.turnP 80 L = (p.setClk 80).setMet (p.met || p.rg 10 == p.rg 4) := by
      unfold Pic.turnP
      rw [if_neg (by decide), if_neg (by omega), if_pos rfl]
    have e2 : p.turnA 80 = 0 := by unfold Pic.turnA; rw [if_neg (by decide)]
    rw [e1, e2]
    exact turnMet_any hr W h
  · exact turnMost_any L c (fun e => by omega) hc hL W h
def atTurn (c : Int) : Prop := c = 80 ∨ c = 252 ∨ c = 456
instance (c : Int) : Decidable (atTurn c) := by unfold atTurn; exact inferInstance
def Pic.tickP (p : Pic) (L : Pic → Pic) : Pic := if p.has 128 = false then p else if atTurn (p.clk + 4) then p.turnP (p.clk + 4) L else p.setClk (p.clk + 4)
def Pic.tickA (p : Pic) (L : Pic → Pic) : Int := if p.has 128 = false then 0 else if atTurn (p.clk + 4) then (if p.stl = false ∧ (p.turnP (p.clk + 4) L).stl = true then bits .or .i64 (p.turnA (p.clk + 4)) 2 else p.turnA (p.clk + 4)) else 0
theorem Fr.drewN {b : Nat} {x y : World} (h : Fr b x y) (n : Nat) : Fr b x (y.drewN n) := h.trans (Fr.ofUp (Up.drewN y n))
set_option maxRecDepth 100000 in
set_option maxHeartbeats 1000000 in
theorem tickAt_any (L : Pic → Pic) (on : p.has 128 = true) (c : Int) (ec : p.clk + 4 = c) (hc : c = 80 ∨ c = 252 ∨ c = 456) (hL : c = 252 → p.rg 4 < 144 → Draws b (p.setClk 252) (L (p.setClk 252))) (W : World) (h : PxAt W b p) :
    Calls Try.prog 22 #[.pointer (some ⟨b, 0, none⟩)] W fun e w' => e = .returned (.int .i64 (if p.stl = false ∧ (p.turnP c L).stl = true then bits .or .i64 (p.turnA c) 2 else p.turnA c)) ∧ PxAt w' b (p.turnP c L) ∧ Fr b W w' := by
  have kc := h.clk
  have ek : p.clk = c - 4 := by omega
  rw [ek] at kc
  clear ek ec
  have HA : Hid (∀ W, PxAt W b p → Calls Try.prog 48 #[.pointer (some ⟨b, 0, none⟩), .int .u8 128] W fun e w' => e = .returned (.bool true) ∧ w' = W) := fun W h => on ▸ has_any 128 W h
  have HS : Hid (∀ W, PxAt W b p → Calls Try.prog 49 #[.pointer (some ⟨b, 0, none⟩)] W fun e w' => e = .returned (.bool p.stl) ∧ ∃ n, w' = W.drewN n) := fun W h => statLine_any W h
  have HQ : Hid (∀ W, PxAt W b (p.turnP c L) → Calls Try.prog 49 #[.pointer (some ⟨b, 0, none⟩)] W fun e w' => e = .returned (.bool (p.turnP c L).stl) ∧ ∃ n, w' = W.drewN n) := fun W h => statLine_any W h
  have HT : Hid (∀ W, PxAt W b p → Calls Try.prog 50 #[.pointer (some ⟨b, 0, none⟩), .int .i64 c] W fun e w' => e = .returned (.int .i64 (p.turnA c)) ∧ PxAt w' b (p.turnP c L) ∧ Fr b W w') := fun W h => turn_any L c hc hL W h
  have H : Hid (PxAt W b p) := h
  clear h hL on
  generalize p.turnA c = A at *
  generalize (p.turnP c L).stl = S2 at *
  generalize p.turnP c L = q at *
  generalize p.stl = S1 at *
  rcases hc with rfl | rfl | rfl <;> cases S1 <;> cases S2 <;>
  · go_enter Try.func22, Try.ntmps22
    go_wp2_with fail
    refine (HA.out _ H.out).mono ?_
    rintro e w' ⟨rfl, hw'⟩
    obtain rfl := hw'.symm
    go_wp2_with fail
    refine (HS.out _ H.out).mono ?_
    rintro e w' ⟨rfl, n, rfl⟩
    go_wp2_with fail
    refine (HT.out _ (H.out.drewN n)).mono ?_
    rintro e w2 ⟨rfl, h2, F2⟩
    have H2 : Hid _ := And.intro h2 ((Fr.ofUp (Up.drewN W n)).trans F2)
    clear h2 F2 kc
    go_wp2_with fail
    first
      | (go_ret
         exact ⟨rfl, H2.out⟩)
      | (refine (HQ.out _ H2.out.1).mono ?_
         rintro e w3 ⟨rfl, n3, rfl⟩
         go_wp2_with fail
         go_ret
         exact ⟨rfl, H2.out.1.drewN n3, H2.out.2.drewN n3⟩)
end Go.Proofs.Ytmjfccdhjhkocaa
