/- Ticks, counted. -/
import Derived.Test.YtmjfccdhjhkocaaPxR
namespace Go.Proofs.Ytmjfccdhjhkocaa
open Go.RowKit
set_option linter.unusedVariables false
variable {b : Nat} {p : Pic}
def lnK (k : Nat) : Nat := k / 114 % 154
def ckK (k : Nat) : Nat := k % 114 * 4
/-- a picture k ticks behind p0, by all but what it shows -/
structure Tk (p0 : Pic) (k : Nat) (q : Pic) : Prop where
  vr : q.vr = p0.vr
  oa : q.oa = p0.oa
  rg : ∀ j, j ≠ 4 → q.rg j = p0.rg j
  ly : q.rg 4 = (lnK k : Int)
  clk : q.clk = (ckK k : Int)
/-- a picture that is on, with neither window nor sprites -/
structure Bare (p0 : Pic) : Prop where
  inn : p0.In
  on : p0.has 128 = true
  nw : p0.has 32 = false
  ns : p0.has 2 = false
variable {p0 q : Pic} {k : Nat}
theorem Tk.has (h : Tk p0 k q) (m : Int) : q.has m = p0.has m := by unfold Pic.has; rw [h.rg 0 (by decide)]
theorem Tk.inn (h : Tk p0 k q) (i : p0.In) : q.In := by
  refine ⟨fun j => by rw [h.vr]; exact i.vr j, fun j => by rw [h.oa]; exact i.oa j, fun j => ?_⟩
  by_cases e : j = 4
  · subst e
    rw [h.ly]
    unfold lnK
    omega
  · rw [h.rg j e]
    exact i.rg j
theorem Tk.win (h : Tk p0 k q) (B : Bare p0) : q.win = false := by
  unfold Pic.win
  rw [h.has 32, B.nw]
  rfl
theorem Tk.c0 (h : Tk p0 k q) : 0 ≤ q.clk := by rw [h.clk]; omega
theorem Tk.c9 (h : Tk p0 k q) : q.clk ≤ 452 := by rw [h.clk]; unfold ckK; omega
theorem Tk.draws (h : Tk p0 k q) (B : Bare p0) (hl : q.rg 4 < 144) : Draws b (q.setClk 252) (q.setClk 252).lineP := by
  have h2 : Tk p0 k { q with clk := (ckK k : Int) } := ⟨h.vr, h.oa, h.rg, h.ly, rfl⟩
  have i := h.inn B.inn
  refine drawLine_any ⟨i.vr, i.oa, i.rg⟩ hl ?_ ?_
  · show (q.setClk 252).win = false
    have := h.win B
    exact this
  · exact (h.has 2).trans B.ns
theorem lnK_le (k : Nat) : lnK k ≤ 153 := by unfold lnK; omega
theorem Tk.step (h : Tk p0 k q) (B : Bare p0) : Tk p0 (k + 1) (q.tickP Pic.lineP) := by
  have on : q.has 128 = true := (h.has 128).trans B.on
  unfold Pic.tickP
  rw [if_neg (by rw [on]; decide)]
  have hb := lnK_le k
  by_cases ht : atTurn (q.clk + 4)
  · rw [if_pos ht]
    unfold Pic.turnP
    by_cases e : q.clk + 4 = 456
    · rw [if_pos e]
      have ek : k % 114 = 113 := by have := h.clk; unfold ckK at this; omega
      have ec : ckK (k + 1) = 0 := by unfold ckK; omega
      unfold Pic.next
      have e4 : (q.setClk 456).rg 4 = (lnK k : Int) := h.ly
      rw [e4]
      by_cases e1 : (lnK k : Int) = 153
      · rw [if_pos e1]
        have el : lnK (k + 1) = 0 := by unfold lnK at *; omega
        exact ⟨h.vr, h.oa, fun j hj => by show (if j = 4 then 0 else q.rg j) = _; rw [if_neg hj]; exact h.rg j hj, by rw [el]; rfl, by rw [ec]; rfl⟩
      · rw [if_neg e1]
        have el : lnK (k + 1) = lnK k + 1 := by unfold lnK at *; omega
        have em : ((lnK k : Int) + 1) % 256 = (lnK (k + 1) : Int) := by omega
        rw [em]
        split
        · exact ⟨h.vr, h.oa, fun j hj => by show (if j = 4 then (lnK (k + 1) : Int) else q.rg j) = _; rw [if_neg hj]; exact h.rg j hj, rfl, by rw [ec]; rfl⟩
        · exact ⟨h.vr, h.oa, fun j hj => by show (if j = 4 then (lnK (k + 1) : Int) else q.rg j) = _; rw [if_neg hj]; exact h.rg j hj, rfl, by rw [ec]; rfl⟩
    · rw [if_neg e]
      have ek : k % 114 ≠ 113 := by have := h.clk; unfold ckK at this; omega
      have ec : q.clk + 4 = (ckK (k + 1) : Int) := by have := h.clk; unfold ckK at *; omega
      have el : lnK (k + 1) = lnK k := by unfold lnK; omega
      rw [ec]
      split
      · exact ⟨h.vr, h.oa, h.rg, by rw [el]; exact h.ly, rfl⟩
      · split
        · exact ⟨h.vr, h.oa, h.rg, by rw [el]; exact h.ly, rfl⟩
        · exact ⟨h.vr, h.oa, h.rg, by rw [el]; exact h.ly, rfl⟩
  · rw [if_neg ht]
    have ek : k % 114 ≠ 113 := by have := h.clk; unfold atTurn at ht; unfold ckK at this; omega
    have ec : q.clk + 4 = (ckK (k + 1) : Int) := by have := h.clk; unfold ckK at *; omega
    have el : lnK (k + 1) = lnK k := by unfold lnK; omega
    rw [ec]
    exact ⟨h.vr, h.oa, h.rg, by rw [el]; exact h.ly, rfl⟩
/-- is the STAT line on, k ticks behind? -/
def Pic.stlK (p0 : Pic) (k : Nat) : Bool := ((p0.setR 4 (lnK k : Int)).setClk (ckK k : Int)).stl
theorem Tk.stl (h : Tk p0 k q) : q.stl = p0.stlK k := by
  have r : ∀ j, ((p0.setR 4 (lnK k : Int)).setClk (ckK k : Int)).rg j = q.rg j := fun j => by
    show (if j = 4 then (lnK k : Int) else p0.rg j) = q.rg j
    by_cases e : j = 4
    · subst e
      rw [if_pos rfl, h.ly]
    · rw [if_neg e, h.rg j e]
  have c : ((p0.setR 4 (lnK k : Int)).setClk (ckK k : Int)).clk = q.clk := h.clk.symm
  unfold Pic.stlK Pic.stl Pic.causes Pic.cause Pic.mode Pic.matches Pic.has
  rw [c, r 0, r 1, r 4, r 5]
/-- do the blank lines begin at the tick k? -/
def blankK (k : Nat) : Int := if (k + 1140) % 17556 = 0 then 1 else 0
theorem stlK_same (B : Bare p0) (hn : ¬ atTurn ((ckK k : Int) + 4)) : p0.stlK (k + 1) = p0.stlK k := by
  have ek : k % 114 ≠ 113 := by unfold atTurn ckK at hn; omega
  have el : lnK (k + 1) = lnK k := by unfold lnK; omega
  have ec : (ckK (k + 1) : Int) = (ckK k : Int) + 4 := by unfold ckK; omega
  have em : ((p0.setR 4 (lnK k : Int)).setClk ((ckK k : Int) + 4)).mode = ((p0.setR 4 (lnK k : Int)).setClk (ckK k : Int)).mode := by
    have m4 : ∃ t : Nat, (ckK k : Int) = 4 * t := ⟨k % 114, by unfold ckK; omega⟩
    obtain ⟨t, ht⟩ := m4
    have f80 : ((ckK k : Int) + 4 < 80) = ((ckK k : Int) < 80) := by unfold atTurn at hn; apply propext; omega
    have f252 : ((ckK k : Int) + 4 < 252) = ((ckK k : Int) < 252) := by unfold atTurn at hn; apply propext; omega
    unfold Pic.mode
    show (if (_ : Bool) = false then _ else if _ then _ else if (ckK k : Int) + 4 < 80 then _ else if (ckK k : Int) + 4 < 252 then _ else _) = _
    simp only [f80, f252]
    rfl
  unfold Pic.stlK
  rw [el, ec]
  unfold Pic.stl Pic.causes Pic.cause
  rw [em]
  rfl
theorem Tk.asks (h : Tk p0 k q) (B : Bare p0) : q.tickA Pic.lineP = blankK (k + 1) + (if p0.stlK k = false ∧ p0.stlK (k + 1) = true then 2 else 0) := by
  have on : q.has 128 = true := (h.has 128).trans B.on
  have hb := lnK_le k
  have h1 := h.step B
  unfold Pic.tickP at h1
  rw [if_neg (by rw [on]; decide)] at h1
  unfold Pic.tickA
  rw [if_neg (by rw [on]; decide)]
  by_cases ht : atTurn (q.clk + 4)
  · rw [if_pos ht] at h1
    rw [if_pos ht, h.stl, h1.stl]
    have ea : q.turnA (q.clk + 4) = blankK (k + 1) := by
      unfold Pic.turnA blankK
      by_cases e : q.clk + 4 = 456
      · rw [if_pos e]
        have ek : k % 114 = 113 := by have := h.clk; unfold ckK at this; omega
        unfold Pic.nextA
        have e4 : (q.setClk 456).rg 4 = (lnK k : Int) := h.ly
        rw [e4]
        unfold lnK
        by_cases e1 : ((k / 114 % 154 : Nat) : Int) = 153
        · rw [if_pos e1, if_neg (by omega)]
        · rw [if_neg e1]
          by_cases e2 : (((k / 114 % 154 : Nat) : Int) + 1) % 256 = 144
          · rw [if_pos e2, if_pos (by omega)]
          · rw [if_neg e2, if_neg (by omega)]
      · rw [if_neg e, if_neg (by have := h.clk; unfold ckK at this; omega)]
    rw [ea]
    unfold blankK
    by_cases e : p0.stlK k = false ∧ p0.stlK (k + 1) = true
    · rw [if_pos e, if_pos e]
      split <;> decide
    · rw [if_neg e, if_neg e]
      omega
  · rw [if_neg ht]
    have hc := h.clk
    rw [hc] at ht
    have es := stlK_same (k := k) B ht
    rw [es, if_neg (by cases p0.stlK k <;> simp)]
    unfold blankK
    rw [if_neg (by unfold atTurn ckK at ht; omega)]
    rfl
theorem Tk.tick (h : Tk p0 k q) (B : Bare p0) (W : World) (hp : PxAt W b q) :
    Calls Try.prog 22 #[.pointer (some ⟨b, 0, none⟩)] W fun e w' => e = .returned (.int .i64 (blankK (k + 1) + (if p0.stlK k = false ∧ p0.stlK (k + 1) = true then 2 else 0))) ∧ (∃ q', Tk p0 (k + 1) q' ∧ PxAt w' b q') ∧ Fr b W w' := by
  have := tick_any Pic.lineP h.c0 h.c9 (fun _ _ hl => h.draws B hl) W hp
  rw [h.asks B] at this
  exact this.mono fun e w' ⟨h1, h2, h3⟩ => ⟨h1, ⟨_, h.step B, h2⟩, h3⟩
end Go.Proofs.Ytmjfccdhjhkocaa
