/- A frame as it is drawn, line by line. -/
import Derived.Test.YtmjfccdhjhkocaaPxU
namespace Go.Proofs.Ytmjfccdhjhkocaa
open Go.RowKit
set_option linter.unusedVariables false
variable {b : Nat} {p : Pic}
/-- the point x of the line l of a picture without window and sprites -/
def Pic.pointG (p : Pic) (l x : Nat) : Int := colourI (p.rg 7) (if p.has 1 = true then p.num (p.mapBy 8).toNat (((l : Int) + p.rg 2) % 256).toNat (((p.rg 3).toNat + x) % 256) else 0)
structure TkD (p0 : Pic) (k : Nat) (q : Pic) : Prop where
  tk : Tk p0 k q
  dr : ∀ l x, x < 160 → 114 * l + 63 ≤ k → q.dr (160 * l + x) = p0.pointG l x
variable {p0 q : Pic} {k : Nat}
theorem Tk.num (h : Tk p0 k q) (m r c : Nat) : q.num m r c = p0.num m r c := by
  unfold Pic.num Pic.lo Pic.hi Pic.tileN Pic.tileAt
  rw [h.vr, h.has 16]
theorem Tk.mapBy (h : Tk p0 k q) (m : Int) : q.mapBy m = p0.mapBy m := by
  unfold Pic.mapBy
  rw [h.has m]
theorem Tk.point (h : Tk p0 k q) (x : Nat) : colourI (q.rg 7) (q.groundF (fun _ => 0) x) = p0.pointG (lnK k) x := by
  unfold Pic.groundF Pic.pointG
  rw [h.rg 7 (by decide), h.has 1, h.ly, h.rg 2 (by decide), h.rg 3 (by decide), h.num, h.mapBy]
theorem TkD.step (h : TkD p0 k q) (B : Bare p0) (hk : k + 1 < 16416) : TkD p0 (k + 1) (q.tickP Pic.lineP) := by
  refine ⟨h.tk.step B, ?_⟩
  intro l x hx hl
  have on : q.has 128 = true := (h.tk.has 128).trans B.on
  have hc := h.tk.clk
  have hly := h.tk.ly
  have hln : lnK k = k / 114 := by unfold lnK; omega
  unfold Pic.tickP
  rw [if_neg (by rw [on]; decide)]
  by_cases ht : atTurn (q.clk + 4)
  · rw [if_pos ht]
    unfold Pic.turnP
    by_cases e : q.clk + 4 = 456
    · rw [if_pos e]
      have ek : k % 114 = 113 := by unfold ckK at hc; omega
      have hd := h.dr l x hx (by omega)
      unfold Pic.next
      have e4 : (q.setClk 456).rg 4 = (lnK k : Int) := hly
      rw [e4, if_neg (by omega), if_neg (by omega)]
      exact hd
    · rw [if_neg e, if_neg (by rw [hly]; omega)]
      by_cases e8 : q.clk + 4 = 80
      · rw [if_pos e8]
        exact h.dr l x hx (by unfold ckK at hc; omega)
      · rw [if_neg e8]
        have ek : k % 114 = 62 := by unfold atTurn at ht; unfold ckK at hc; omega
        have e4 : (q.setClk (q.clk + 4)).rg 4 = (lnK k : Int) := hly
        show (if 160 * ((q.setClk (q.clk + 4)).rg 4).toNat ≤ 160 * l + x ∧ 160 * l + x < 160 * ((q.setClk (q.clk + 4)).rg 4).toNat + 160 then colourI (q.rg 7) ((q.setClk (q.clk + 4)).groundF (fun _ => 0) (160 * l + x - 160 * ((q.setClk (q.clk + 4)).rg 4).toNat)) else q.dr (160 * l + x)) = _
        rw [e4]
        by_cases el : l = lnK k
        · rw [if_pos (by omega)]
          have ex : 160 * l + x - 160 * ((lnK k : Nat) : Int).toNat = x := by omega
          rw [ex, el]
          exact h.tk.point x
        · rw [if_neg (by omega)]
          exact h.dr l x hx (by omega)
  · rw [if_neg ht]
    exact h.dr l x hx (by unfold atTurn at ht; unfold ckK at hc; omega)
theorem TkD.last (h : TkD p0 16415 q) (B : Bare p0) (i : Nat) (hi : i < 23040) : (q.tickP Pic.lineP).sh i = p0.pointG (i / 160) (i % 160) := by
  have on : q.has 128 = true := (h.tk.has 128).trans B.on
  have hc : q.clk = 452 := h.tk.clk
  have hly : q.rg 4 = 143 := h.tk.ly
  have hd := h.dr (i / 160) (i % 160) (by omega) (by omega)
  rw [show 160 * (i / 160) + i % 160 = i by omega] at hd
  unfold Pic.tickP
  rw [if_neg (by rw [on]; decide), if_pos (by rw [hc]; exact Or.inr (Or.inr rfl))]
  unfold Pic.turnP
  rw [if_pos (by rw [hc]; rfl)]
  unfold Pic.next
  have e4 : (q.setClk 456).rg 4 = 143 := hly
  rw [e4, if_neg (by decide), if_pos (by decide)]
  show (if i < 23040 then q.dr i else q.sh i) = _
  rw [if_pos hi]
  exact hd
/-- a picture whose frame is being drawn; all that was there as it was -/
structure Td (W0 : World) (b : Nat) (p0 : Pic) (k : Nat) (W : World) : Prop where
  at' : ∃ q, TkD p0 k q ∧ PxAt W b q
  up : Fr b W0 W
theorem Td.tick {W0 W : World} (h : Td W0 b p0 k W) (B : Bare p0) (hk : k + 1 < 16416) :
    Calls Try.prog 22 #[.pointer (some ⟨b, 0, none⟩)] W fun e w' => (∃ v, e = .returned (.int .i64 v)) ∧ Td W0 b p0 (k + 1) w' := by
  obtain ⟨q, hq, hp⟩ := h.at'
  have := tick_any Pic.lineP hq.tk.c0 hq.tk.c9 (fun _ _ hl => hq.tk.draws B hl) W hp
  exact this.mono fun e w' ⟨h1, h2, h3⟩ => ⟨⟨_, h1⟩, ⟨_, hq.step B hk, h2⟩, h.up.trans h3⟩
theorem Td.lastTick {W0 W : World} (h : Td W0 b p0 16415 W) (B : Bare p0) :
    Calls Try.prog 22 #[.pointer (some ⟨b, 0, none⟩)] W fun e w' => (∃ v, e = .returned (.int .i64 v)) ∧ (∃ q, PxAt w' b q ∧ ∀ i, i < 23040 → q.sh i = p0.pointG (i / 160) (i % 160)) ∧ Fr b W0 w' := by
  obtain ⟨q, hq, hp⟩ := h.at'
  have := tick_any Pic.lineP hq.tk.c0 hq.tk.c9 (fun _ _ hl => hq.tk.draws B hl) W hp
  exact this.mono fun e w' ⟨h1, h2, h3⟩ => ⟨⟨_, h1⟩, ⟨_, h2, fun i hi => hq.last B i hi⟩, h.up.trans h3⟩
end Go.Proofs.Ytmjfccdhjhkocaa
