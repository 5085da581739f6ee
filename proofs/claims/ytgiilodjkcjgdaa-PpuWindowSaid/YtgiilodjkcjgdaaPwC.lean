/- A frame with its window, line by line. -/
import Derived.Test.YtgiilodjkcjgdaaPwB
namespace Go.Proofs.Ytgiilodjkcjgdaa
open Go.RowKit
set_option linter.unusedVariables false
variable {b : Nat} {p : Pic}
def Pic.lineQ (p : Pic) : Pic := if p.win = true then p.lineW else p.lineP
theorem lineQ_keeps (q : Pic) : q.lineQ.vr = q.vr ∧ q.lineQ.oa = q.oa ∧ q.lineQ.rg = q.rg ∧ q.lineQ.clk = q.clk ∧ q.lineQ.met = q.met := by
  unfold Pic.lineQ
  split
  · exact ⟨rfl, rfl, rfl, rfl, rfl⟩
  · exact ⟨rfl, rfl, rfl, rfl, rfl⟩
structure BareW (p0 : Pic) : Prop where
  inn : p0.In
  on : p0.has 128 = true
  w : p0.has 32 = true
  ns : p0.has 2 = false
  x0 : 7 ≤ p0.rg 11
  x1 : p0.rg 11 ≤ 166
def Pic.wyN (p : Pic) : Nat := (p.rg 10).toNat
/-- the point x of the line l of a picture with window, without sprites -/
def Pic.pointW (p : Pic) (l x : Nat) : Int := colourI (p.rg 7) (if p.has 1 = true then (if p.wyN ≤ l ∧ p.winO ≤ x then p.num (p.mapBy 64).toNat (l - p.wyN) ((x - p.winO) % 256) else p.num (p.mapBy 8).toNat (((l : Int) + p.rg 2) % 256).toNat (((p.rg 3).toNat + x) % 256)) else 0)
structure TkW (p0 : Pic) (k : Nat) (q : Pic) : Prop where
  tk : Tk p0 k q
  met : q.met = decide (114 * p0.wyN + 20 ≤ k)
  rows : q.rows = (((k + 51) / 114 - p0.wyN : Nat) : Int)
  dr : ∀ l x, x < 160 → 114 * l + 63 ≤ k → q.dr (160 * l + x) = p0.pointW l x
variable {p0 q : Pic} {k : Nat}
theorem Tk.stepQ (h : Tk p0 k q) (on0 : p0.has 128 = true) : Tk p0 (k + 1) (q.tickP Pic.lineQ) := by
  have on : q.has 128 = true := (h.has 128).trans on0
  unfold Pic.tickP
  rw [if_neg (by rw [on]; decide)]
  have hb := lnK_le k
  by_cases ht : atTurn (q.clk + 4)
  · rw [if_pos ht]
    unfold Pic.turnP
    by_cases e : q.clk + 4 = 456
    · rw [if_pos e]
      have ek : k % 114 = 113 := by have := h.clk; unfold ckK at this; omega
      have ec : ckK (k + 1) = 0 := by unfold ckK; omega
      unfold Pic.next
      have e4 : (q.setClk 456).rg 4 = (lnK k : Int) := h.ly
      rw [e4]
      by_cases e1 : (lnK k : Int) = 153
      · rw [if_pos e1]
        have el : lnK (k + 1) = 0 := by unfold lnK at *; omega
        exact ⟨h.vr, h.oa, fun j hj => by show (if j = 4 then 0 else q.rg j) = _; rw [if_neg hj]; exact h.rg j hj, by rw [el]; rfl, by rw [ec]; rfl⟩
      · rw [if_neg e1]
        have el : lnK (k + 1) = lnK k + 1 := by unfold lnK at *; omega
        have em : ((lnK k : Int) + 1) % 256 = (lnK (k + 1) : Int) := by omega
        rw [em]
        split
        · exact ⟨h.vr, h.oa, fun j hj => by show (if j = 4 then (lnK (k + 1) : Int) else q.rg j) = _; rw [if_neg hj]; exact h.rg j hj, rfl, by rw [ec]; rfl⟩
        · exact ⟨h.vr, h.oa, fun j hj => by show (if j = 4 then (lnK (k + 1) : Int) else q.rg j) = _; rw [if_neg hj]; exact h.rg j hj, rfl, by rw [ec]; rfl⟩
    · rw [if_neg e]
      have ek : k % 114 ≠ 113 := by have := h.clk; unfold ckK at this; omega
      have ec : q.clk + 4 = (ckK (k + 1) : Int) := by have := h.clk; unfold ckK at *; omega
      have el : lnK (k + 1) = lnK k := by unfold lnK; omega
      rw [ec]
      split
      · exact ⟨h.vr, h.oa, h.rg, by rw [el]; exact h.ly, rfl⟩
      · split
        · exact ⟨h.vr, h.oa, h.rg, by rw [el]; exact h.ly, rfl⟩
        · obtain ⟨a1, a2, a3, a4, a5⟩ := lineQ_keeps (q.setClk (ckK (k + 1) : Int))
          exact ⟨a1.trans h.vr, a2.trans h.oa, fun j hj => by rw [a3]; exact h.rg j hj, by rw [a3, el]; exact h.ly, a4⟩
  · rw [if_neg ht]
    have ek : k % 114 ≠ 113 := by have := h.clk; unfold atTurn at ht; unfold ckK at this; omega
    have ec : q.clk + 4 = (ckK (k + 1) : Int) := by have := h.clk; unfold ckK at *; omega
    have el : lnK (k + 1) = lnK k := by unfold lnK; omega
    rw [ec]
    exact ⟨h.vr, h.oa, h.rg, by rw [el]; exact h.ly, rfl⟩
theorem TkW.win (h : TkW p0 k q) (B : BareW p0) (c : Int) : (q.setClk c).win = decide (114 * p0.wyN + 20 ≤ k) := by
  show (q.has 32 && q.met && decide (q.rg 11 ≤ 166)) = _
  rw [h.tk.has 32, B.w, h.met, h.tk.rg 11 (by decide), decide_eq_true B.x1, Bool.true_and, Bool.and_true]
theorem TkW.draws (h : TkW p0 k q) (B : BareW p0) (hk : k < 16416) (hl : q.rg 4 < 144) : Draws b (q.setClk 252) (q.setClk 252).lineQ := by
  have i := h.tk.inn B.inn
  have i2 : (q.setClk 252).In := ⟨i.vr, i.oa, i.rg⟩
  have hs : (q.setClk 252).has 2 = false := (h.tk.has 2).trans B.ns
  have hr := h.rows
  unfold Pic.lineQ
  cases hw : (q.setClk 252).win
  · rw [if_neg (by decide)]
    exact drawLine_any i2 hl hw hs
  · rw [if_pos rfl]
    have h11 : (q.setClk 252).rg 11 = p0.rg 11 := h.tk.rg 11 (by decide)
    have hrr : (q.setClk 252).rows = _ := hr
    exact drawLineW_any i2 hl hw (by rw [h11]; exact B.x0) (by rw [hrr]; omega) (by rw [hrr]; omega) hs
theorem TkW.pointQ (h : TkW p0 k q) (B : BareW p0) (hk : k < 16416) (hm : k % 114 = 62) (x : Nat) (c : Int) : colourI (q.rg 7) (if 114 * p0.wyN + 20 ≤ k then (q.setClk c).windowF ((q.setClk c).groundF (fun _ => 0)) x else (q.setClk c).groundF (fun _ => 0) x) = p0.pointW (k / 114) x := by
  have hln : lnK k = k / 114 := by unfold lnK; omega
  have e11 : q.rg 11 = p0.rg 11 := h.tk.rg 11 (by decide)
  have eo : (q.setClk c).winO = p0.winO := by show (q.rg 11 - 7).toNat = (p0.rg 11 - 7).toNat; rw [e11]
  have eg : (q.setClk c).groundF (fun _ => 0) x = if p0.has 1 = true then p0.num (p0.mapBy 8).toNat ((((k / 114 : Nat) : Int) + p0.rg 2) % 256).toNat (((p0.rg 3).toNat + x) % 256) else 0 := by
    show (if q.has 1 = true then q.num (q.mapBy 8).toNat ((q.rg 4 + q.rg 2) % 256).toNat (((q.rg 3).toNat + x) % 256) else 0) = _
    rw [h.tk.has 1, h.tk.ly, h.tk.rg 2 (by decide), h.tk.rg 3 (by decide), h.tk.num, h.tk.mapBy, hln]
  have er : cutB q.rows = ((k / 114 - p0.wyN : Nat) : Int) := by
    rw [h.rows, show (k + 51) / 114 = k / 114 by omega]
    unfold cutB
    simp [IntKind.wrap, IntKind.bits, IntKind.signed]
    omega
  have ew : (q.setClk c).windowF ((q.setClk c).groundF (fun _ => 0)) x = if p0.has 1 = true then (if p0.winO ≤ x then p0.num (p0.mapBy 64).toNat (k / 114 - p0.wyN) ((x - p0.winO) % 256) else p0.num (p0.mapBy 8).toNat ((((k / 114 : Nat) : Int) + p0.rg 2) % 256).toNat (((p0.rg 3).toNat + x) % 256)) else 0 := by
    unfold Pic.windowF
    rw [eo, eg]
    show (if q.has 1 = true then (if p0.winO ≤ x then q.num (q.mapBy 64).toNat (cutB q.rows).toNat ((x - p0.winO) % 256) else _) else _) = _
    rw [h.tk.has 1, h.tk.num, h.tk.mapBy, er, Int.toNat_natCast]
    cases p0.has 1
    · simp
    · simp
  unfold Pic.pointW
  rw [h.tk.rg 7 (by decide), ew, eg]
  by_cases hw : 114 * p0.wyN + 20 ≤ k
  · rw [if_pos hw]
    congr 1
    have : p0.wyN ≤ k / 114 := by omega
    simp only [this, true_and]
  · rw [if_neg hw]
    congr 1
    have : ¬ p0.wyN ≤ k / 114 := by omega
    simp only [this, false_and, if_false]
theorem TkW.step (h : TkW p0 k q) (B : BareW p0) (hk : k + 1 < 16416) : TkW p0 (k + 1) (q.tickP Pic.lineQ) := by
  have hst := h.tk.stepQ B.on
  have on : q.has 128 = true := (h.tk.has 128).trans B.on
  have hc := h.tk.clk
  have hly := h.tk.ly
  have hln : lnK k = k / 114 := by unfold lnK; omega
  have hmet := h.met
  have hrows := h.rows
  have hwy : p0.rg 10 = (p0.wyN : Int) := by have := (B.inn.rg 10).1; unfold Pic.wyN; omega
  unfold Pic.tickP at hst ⊢
  rw [if_neg (by rw [on]; decide)] at hst ⊢
  by_cases ht : atTurn (q.clk + 4)
  · rw [if_pos ht] at hst ⊢
    unfold Pic.turnP at hst ⊢
    by_cases e : q.clk + 4 = 456
    · rw [if_pos e] at hst ⊢
      have ek : k % 114 = 113 := by unfold ckK at hc; omega
      unfold Pic.next at hst ⊢
      have e4 : (q.setClk 456).rg 4 = (lnK k : Int) := hly
      rw [e4, if_neg (by omega), if_neg (by omega)] at hst ⊢
      refine ⟨hst, ?_, ?_, fun l x hx hl => h.dr l x hx (by omega)⟩
      · show q.met = _
        rw [hmet]
        exact decide_eq_decide.2 (by omega)
      · show q.rows = _
        rw [hrows]
        congr 2
        omega
    · rw [if_neg e] at hst ⊢
      rw [if_neg (by rw [hly]; omega)] at hst ⊢
      by_cases e8 : q.clk + 4 = 80
      · rw [if_pos e8] at hst ⊢
        have ek : k % 114 = 19 := by unfold ckK at hc; omega
        refine ⟨hst, ?_, ?_, fun l x hx hl => h.dr l x hx (by omega)⟩
        · show (q.met || q.rg 10 == q.rg 4) = _
          rw [hmet, h.tk.rg 10 (by decide), hly, hwy, hln]
          by_cases e1 : 114 * p0.wyN + 20 ≤ k
          · rw [decide_eq_true e1, decide_eq_true (by omega), Bool.true_or]
          · rw [decide_eq_false e1, Bool.false_or]
            by_cases e2 : p0.wyN = k / 114
            · rw [e2, beq_self_eq_true, decide_eq_true (by omega)]
            · rw [beq_eq_false_iff_ne.2 (by omega), decide_eq_false (by omega)]
        · show q.rows = _
          rw [hrows]
          congr 2
          omega
      · rw [if_neg e8] at hst ⊢
        have ek : k % 114 = 62 := by unfold atTurn at ht; unfold ckK at hc; omega
        have hw := h.win B (q.clk + 4)
        have hpt := fun x => h.pointQ B (by omega) ek x (q.clk + 4)
        have e4 : (q.setClk (q.clk + 4)).rg 4 = (lnK k : Int) := hly
        refine ⟨hst, ?_, ?_, ?_⟩
        · rw [(lineQ_keeps _).2.2.2.2]
          show q.met = _
          rw [hmet]
          exact decide_eq_decide.2 (by omega)
        · unfold Pic.lineQ
          rw [hw]
          by_cases e1 : 114 * p0.wyN + 20 ≤ k
          · rw [decide_eq_true e1, if_pos rfl]
            show q.rows + 1 = _
            rw [hrows]
            omega
          · rw [decide_eq_false e1, if_neg (by decide)]
            show q.rows = _
            rw [hrows]
            omega
        · intro l x hx hl
          unfold Pic.lineQ
          rw [hw]
          by_cases e1 : 114 * p0.wyN + 20 ≤ k
          · rw [decide_eq_true e1, if_pos rfl]
            show (if 160 * ((q.setClk (q.clk + 4)).rg 4).toNat ≤ 160 * l + x ∧ 160 * l + x < 160 * ((q.setClk (q.clk + 4)).rg 4).toNat + 160 then colourI (q.rg 7) ((q.setClk (q.clk + 4)).windowF ((q.setClk (q.clk + 4)).groundF (fun _ => 0)) (160 * l + x - 160 * ((q.setClk (q.clk + 4)).rg 4).toNat)) else q.dr (160 * l + x)) = _
            rw [e4]
            by_cases el : l = lnK k
            · rw [if_pos (by omega)]
              have ex : 160 * l + x - 160 * ((lnK k : Nat) : Int).toNat = x := by omega
              have := hpt x
              rw [if_pos e1] at this
              rw [ex, el, hln]
              exact this
            · rw [if_neg (by omega)]
              exact h.dr l x hx (by omega)
          · rw [decide_eq_false e1, if_neg (by decide)]
            show (if 160 * ((q.setClk (q.clk + 4)).rg 4).toNat ≤ 160 * l + x ∧ 160 * l + x < 160 * ((q.setClk (q.clk + 4)).rg 4).toNat + 160 then colourI (q.rg 7) ((q.setClk (q.clk + 4)).groundF (fun _ => 0) (160 * l + x - 160 * ((q.setClk (q.clk + 4)).rg 4).toNat)) else q.dr (160 * l + x)) = _
            rw [e4]
            by_cases el : l = lnK k
            · rw [if_pos (by omega)]
              have ex : 160 * l + x - 160 * ((lnK k : Nat) : Int).toNat = x := by omega
              have := hpt x
              rw [if_neg e1] at this
              rw [ex, el, hln]
              exact this
            · rw [if_neg (by omega)]
              exact h.dr l x hx (by omega)
  · rw [if_neg ht] at hst ⊢
    refine ⟨hst, ?_, ?_, fun l x hx hl => h.dr l x hx (by unfold atTurn at ht; unfold ckK at hc; omega)⟩
    · show q.met = _
      rw [hmet]
      exact decide_eq_decide.2 (by unfold atTurn at ht; unfold ckK at hc; omega)
    · show q.rows = _
      rw [hrows]
      congr 2
      unfold atTurn at ht
      unfold ckK at hc
      omega
theorem TkW.last (h : TkW p0 16415 q) (B : BareW p0) (i : Nat) (hi : i < 23040) : (q.tickP Pic.lineQ).sh i = p0.pointW (i / 160) (i % 160) := by
  have on : q.has 128 = true := (h.tk.has 128).trans B.on
  have hc : q.clk = 452 := h.tk.clk
  have hly : q.rg 4 = 143 := h.tk.ly
  have hd := h.dr (i / 160) (i % 160) (by omega) (by omega)
  rw [show 160 * (i / 160) + i % 160 = i by omega] at hd
  unfold Pic.tickP
  rw [if_neg (by rw [on]; decide), if_pos (by rw [hc]; exact Or.inr (Or.inr rfl))]
  unfold Pic.turnP
  rw [if_pos (by rw [hc]; rfl)]
  unfold Pic.next
  have e4 : (q.setClk 456).rg 4 = 143 := hly
  rw [e4, if_neg (by decide), if_pos (by decide)]
  show (if i < 23040 then q.dr i else q.sh i) = _
  rw [if_pos hi]
  exact hd
structure TdW (W0 : World) (b : Nat) (p0 : Pic) (k : Nat) (W : World) : Prop where
  at' : ∃ q, TkW p0 k q ∧ PxAt W b q
  up : Fr b W0 W
theorem TdW.tick {W0 W : World} (h : TdW W0 b p0 k W) (B : BareW p0) (hk : k + 1 < 16416) :
    Calls Try.prog 20 #[.pointer (some ⟨b, 0, none⟩)] W fun e w' => (∃ v, e = .returned (.int .i64 v)) ∧ TdW W0 b p0 (k + 1) w' := by
  obtain ⟨q, hq, hp⟩ := h.at'
  have := tick_any Pic.lineQ hq.tk.c0 hq.tk.c9 (fun _ _ hl => hq.draws B (by omega) hl) W hp
  exact this.mono fun e w' ⟨h1, h2, h3⟩ => ⟨⟨_, h1⟩, ⟨_, hq.step B hk, h2⟩, h.up.trans h3⟩
theorem TdW.lastTick {W0 W : World} (h : TdW W0 b p0 16415 W) (B : BareW p0) :
    Calls Try.prog 20 #[.pointer (some ⟨b, 0, none⟩)] W fun e w' => (∃ v, e = .returned (.int .i64 v)) ∧ (∃ q, PxAt w' b q ∧ ∀ i, i < 23040 → q.sh i = p0.pointW (i / 160) (i % 160)) ∧ Fr b W0 w' := by
  obtain ⟨q, hq, hp⟩ := h.at'
  have := tick_any Pic.lineQ hq.tk.c0 hq.tk.c9 (fun _ _ hl => hq.draws B (by omega) hl) W hp
  exact this.mono fun e w' ⟨h1, h2, h3⟩ => ⟨⟨_, h1⟩, ⟨_, h2, fun i hi => hq.last B i hi⟩, h.up.trans h3⟩
end Go.Proofs.Ytgiilodjkcjgdaa
