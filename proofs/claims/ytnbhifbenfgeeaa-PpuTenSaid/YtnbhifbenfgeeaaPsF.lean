/- A frame, line by line, by any way of drawing a line. -/
import Derived.Test.YtnbhifbenfgeeaaPsE
namespace Go.Proofs.Ytnbhifbenfgeeaa
open Go.RowKit
set_option linter.unusedVariables false
variable {b : Nat} {p : Pic}
/-- L draws, in a frame of p0, the points P -/
structure Lin (b : Nat) (p0 : Pic) (L : Pic → Pic) (P : Nat → Nat → Int) : Prop where
  on : p0.has 128 = true
  draws : ∀ k q, Tk p0 k q → q.rg 4 < 144 → Draws b (q.setClk 252) (L (q.setClk 252))
  keeps : ∀ q, (L q).vr = q.vr ∧ (L q).oa = q.oa ∧ (L q).rg = q.rg ∧ (L q).clk = q.clk
  pt : ∀ k q, Tk p0 k q → k < 16416 → ∀ l x, x < 160 → (L (q.setClk 252)).dr (160 * l + x) = if l = lnK k then P l x else q.dr (160 * l + x)
structure TkG (p0 : Pic) (P : Nat → Nat → Int) (k : Nat) (q : Pic) : Prop where
  tk : Tk p0 k q
  dr : ∀ l x, x < 160 → 114 * l + 63 ≤ k → q.dr (160 * l + x) = P l x
variable {p0 q : Pic} {k : Nat} {L : Pic → Pic} {P : Nat → Nat → Int}
theorem Tk.stepG (h : Tk p0 k q) (B : Lin b p0 L P) : Tk p0 (k + 1) (q.tickP L) := by
  have on : q.has 128 = true := (h.has 128).trans B.on
  unfold Pic.tickP
  rw [if_neg (by rw [on]; decide)]
  have hb := lnK_le k
  by_cases ht : atTurn (q.clk + 4)
  · rw [if_pos ht]
    unfold Pic.turnP
    by_cases e : q.clk + 4 = 456
    · rw [if_pos e]
      have ek : k % 114 = 113 := by have := h.clk; unfold ckK at this; omega
      have ec : ckK (k + 1) = 0 := by unfold ckK; omega
      unfold Pic.next
      have e4 : (q.setClk 456).rg 4 = (lnK k : Int) := h.ly
      rw [e4]
      by_cases e1 : (lnK k : Int) = 153
      · rw [if_pos e1]
        have el : lnK (k + 1) = 0 := by unfold lnK at *; omega
        exact ⟨h.vr, h.oa, fun j hj => by show (if j = 4 then 0 else q.rg j) = _; rw [if_neg hj]; exact h.rg j hj, by rw [el]; rfl, by rw [ec]; rfl⟩
      · rw [if_neg e1]
        have el : lnK (k + 1) = lnK k + 1 := by unfold lnK at *; omega
        have em : ((lnK k : Int) + 1) % 256 = (lnK (k + 1) : Int) := by omega
        rw [em]
        split
        · exact ⟨h.vr, h.oa, fun j hj => by show (if j = 4 then (lnK (k + 1) : Int) else q.rg j) = _; rw [if_neg hj]; exact h.rg j hj, rfl, by rw [ec]; rfl⟩
        · exact ⟨h.vr, h.oa, fun j hj => by show (if j = 4 then (lnK (k + 1) : Int) else q.rg j) = _; rw [if_neg hj]; exact h.rg j hj, rfl, by rw [ec]; rfl⟩
    · rw [if_neg e]
      have ek : k % 114 ≠ 113 := by have := h.clk; unfold ckK at this; omega
      have ec : q.clk + 4 = (ckK (k + 1) : Int) := by have := h.clk; unfold ckK at *; omega
      have el : lnK (k + 1) = lnK k := by unfold lnK; omega
      rw [ec]
      split
      · exact ⟨h.vr, h.oa, h.rg, by rw [el]; exact h.ly, rfl⟩
      · split
        · exact ⟨h.vr, h.oa, h.rg, by rw [el]; exact h.ly, rfl⟩
        · obtain ⟨a1, a2, a3, a4⟩ := B.keeps (q.setClk (ckK (k + 1) : Int))
          exact ⟨a1.trans h.vr, a2.trans h.oa, fun j hj => by rw [a3]; exact h.rg j hj, by rw [a3, el]; exact h.ly, a4⟩
  · rw [if_neg ht]
    have ek : k % 114 ≠ 113 := by have := h.clk; unfold atTurn at ht; unfold ckK at this; omega
    have ec : q.clk + 4 = (ckK (k + 1) : Int) := by have := h.clk; unfold ckK at *; omega
    have el : lnK (k + 1) = lnK k := by unfold lnK; omega
    rw [ec]
    exact ⟨h.vr, h.oa, h.rg, by rw [el]; exact h.ly, rfl⟩
theorem TkG.step (h : TkG p0 P k q) (B : Lin b p0 L P) (hk : k + 1 < 16416) : TkG p0 P (k + 1) (q.tickP L) := by
  refine ⟨h.tk.stepG B, ?_⟩
  intro l x hx hl
  have on : q.has 128 = true := (h.tk.has 128).trans B.on
  have hc := h.tk.clk
  have hly := h.tk.ly
  have hln : lnK k = k / 114 := by unfold lnK; omega
  unfold Pic.tickP
  rw [if_neg (by rw [on]; decide)]
  by_cases ht : atTurn (q.clk + 4)
  · rw [if_pos ht]
    unfold Pic.turnP
    by_cases e : q.clk + 4 = 456
    · rw [if_pos e]
      have ek : k % 114 = 113 := by unfold ckK at hc; omega
      have hd := h.dr l x hx (by omega)
      unfold Pic.next
      have e4 : (q.setClk 456).rg 4 = (lnK k : Int) := hly
      rw [e4, if_neg (by omega), if_neg (by omega)]
      exact hd
    · rw [if_neg e, if_neg (by rw [hly]; omega)]
      by_cases e8 : q.clk + 4 = 80
      · rw [if_pos e8]
        exact h.dr l x hx (by unfold ckK at hc; omega)
      · rw [if_neg e8]
        have ek : k % 114 = 62 := by unfold atTurn at ht; unfold ckK at hc; omega
        have e252 : q.clk + 4 = 252 := by unfold ckK at hc; omega
        rw [e252, B.pt k q h.tk (by omega) l x hx]
        by_cases el : l = lnK k
        · rw [if_pos el]
        · rw [if_neg el]
          exact h.dr l x hx (by omega)
  · rw [if_neg ht]
    exact h.dr l x hx (by unfold atTurn at ht; unfold ckK at hc; omega)
theorem TkG.last (h : TkG p0 P 16415 q) (B : Lin b p0 L P) (i : Nat) (hi : i < 23040) : (q.tickP L).sh i = P (i / 160) (i % 160) := by
  have on : q.has 128 = true := (h.tk.has 128).trans B.on
  have hc : q.clk = 452 := h.tk.clk
  have hly : q.rg 4 = 143 := h.tk.ly
  have hd := h.dr (i / 160) (i % 160) (by omega) (by omega)
  rw [show 160 * (i / 160) + i % 160 = i by omega] at hd
  unfold Pic.tickP
  rw [if_neg (by rw [on]; decide), if_pos (by rw [hc]; exact Or.inr (Or.inr rfl))]
  unfold Pic.turnP
  rw [if_pos (by rw [hc]; rfl)]
  unfold Pic.next
  have e4 : (q.setClk 456).rg 4 = 143 := hly
  rw [e4, if_neg (by decide), if_pos (by decide)]
  show (if i < 23040 then q.dr i else q.sh i) = _
  rw [if_pos hi]
  exact hd
/-- a picture whose frame is being drawn; all that was there as it was -/
structure Tg (W0 : World) (b : Nat) (p0 : Pic) (P : Nat → Nat → Int) (k : Nat) (W : World) : Prop where
  at' : ∃ q, TkG p0 P k q ∧ PxAt W b q
  up : Fr b W0 W
theorem Tg.tick {W0 W : World} (h : Tg W0 b p0 P k W) (B : Lin b p0 L P) (hk : k + 1 < 16416) :
    Calls Try.prog 22 #[.pointer (some ⟨b, 0, none⟩)] W fun e w' => (∃ v, e = .returned (.int .i64 v)) ∧ Tg W0 b p0 P (k + 1) w' := by
  obtain ⟨q, hq, hp⟩ := h.at'
  have := tick_any L hq.tk.c0 hq.tk.c9 (fun _ _ hl => B.draws k q hq.tk hl) W hp
  exact this.mono fun e w' ⟨h1, h2, h3⟩ => ⟨⟨_, h1⟩, ⟨_, hq.step B hk, h2⟩, h.up.trans h3⟩
theorem Tg.lastTick {W0 W : World} (h : Tg W0 b p0 P 16415 W) (B : Lin b p0 L P) :
    Calls Try.prog 22 #[.pointer (some ⟨b, 0, none⟩)] W fun e w' => (∃ v, e = .returned (.int .i64 v)) ∧ (∃ q, PxAt w' b q ∧ ∀ i, i < 23040 → q.sh i = P (i / 160) (i % 160)) ∧ Fr b W0 w' := by
  obtain ⟨q, hq, hp⟩ := h.at'
  have := tick_any L hq.tk.c0 hq.tk.c9 (fun _ _ hl => B.draws 16415 q hq.tk hl) W hp
  exact this.mono fun e w' ⟨h1, h2, h3⟩ => ⟨⟨_, h1⟩, ⟨_, h2, fun i hi => hq.last B i hi⟩, h.up.trans h3⟩
set_option maxRecDepth 100000 in
set_option maxHeartbeats 1000000 in
theorem oneG_any {W0 : World} (W : World) (h : Tg W0 b p0 P 0 W) (B : Lin b p0 L P) : Calls Try.prog 28 #[.pointer (some ⟨b, 0, none⟩)] W fun e w' => (∃ g, e = .returned (.slice (some ⟨g, 0, none⟩) 23040 23040) ∧ W0.heap.size ≤ g ∧ NmAt w' g 23040 (fun i => P (i / 160) (i % 160))) ∧ Fr b W0 w' := by
  have H0 : Hid _ := h
  have HB : Hid _ := B
  clear h B
  go_enter Try.func28, Try.ntmps28
  go_wp2_with fail
  go_loopw [3] (fun I wr => ∃ i : Nat, i ≤ 16416 ∧ I = .int .i64 i ∧ Hid (i < 16416 → Tg W0 b p0 P i wr) ∧ Hid (i = 16416 → (∃ q, PxAt wr b q ∧ ∀ i, i < 23040 → q.sh i = P (i / 160) (i % 160)) ∧ Fr b W0 wr)) (fun I _ => 16416 - (intOf I).toNat)
  case atStart => exact ⟨0, by omega, rfl, fun _ => H0.out, fun e => absurd e (by omega)⟩
  case round =>
    clear H0
    obtain ⟨i, hi, rfl, M0, M1⟩ := hrel
    by_cases hlt : i < 16416
    · have d1 : decide ((i : Int) < 16416) = true := decide_eq_true (by omega)
      have e1 : (i : Int) < 16416 := by omega
      by_cases hl : i + 1 < 16416
      · have HT : Hid _ := (M0.out hlt).tick HB.out hl
        go_wp2_with fail
        refine Calls.mono HT.out ?_
        rintro e w4 ⟨⟨v, rfl⟩, h4⟩
        have H4 : Hid _ := h4
        clear h4 HT M0 M1
        go_wp2_with fail
        refine ⟨⟨i + 1, by omega, ?_, fun _ => H4.out, fun e => absurd e (by omega)⟩, ?_⟩
        · first | rfl | (simp; done)
        · simp [intOf]
          omega
      · have ei : i = 16415 := by omega
        have HT : Hid _ := (show Tg W0 b p0 P 16415 wr by rw [← ei]; exact M0.out hlt).lastTick HB.out
        clear ei
        go_wp2_with fail
        refine Calls.mono HT.out ?_
        rintro e w4 ⟨⟨v, rfl⟩, h4⟩
        have H4 : Hid _ := h4
        clear h4 HT M0 M1
        go_wp2_with fail
        refine ⟨⟨i + 1, by omega, ?_, fun e => absurd e (by omega), fun _ => H4.out⟩, ?_⟩
        · first | rfl | (simp; done)
        · simp [intOf]
          omega
    · have d1 : decide ((i : Int) < 16416) = false := decide_eq_false (by omega)
      have M2 : Hid _ := M1.out (by omega)
      clear M0 M1
      obtain ⟨q, hq, hs⟩ := M2.out.1
      have HF : Hid _ := frame_any wr hq
      have HS : Hid _ := hs
      clear hq hs
      go_wp2_with fail
      refine Calls.mono HF.out ?_
      rintro e w5 ⟨rfl, h5, u5⟩
      have H5 : Hid _ := And.intro h5 u5
      clear h5 u5 HF
      go_wp2_with fail
      go_ret
      exact ⟨⟨_, rfl, M2.out.2.size, H5.out.1.congr HS.out⟩, M2.out.2.trans (Fr.ofUp H5.out.2)⟩
end Go.Proofs.Ytnbhifbenfgeeaa
