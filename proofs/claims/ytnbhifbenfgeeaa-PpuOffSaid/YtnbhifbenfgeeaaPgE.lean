/- What any picture keeps to; any tick. -/
import Derived.Test.YtnbhifbenfgeeaaPgD
namespace Go.Proofs.Ytnbhifbenfgeeaa
open Go.RowKit
set_option linter.unusedVariables false
variable {b : Nat} {p : Pic}
theorem div_bG {l : Int} (h0 : 0 ≤ l) (h1 : l ≤ 255) (j : Nat) : 0 ≤ l / 2 ^ j ∧ l / 2 ^ j ≤ 255 := by
  have hp : (0 : Int) < 2 ^ j := Int.pow_pos (by decide)
  exact ⟨Int.ediv_nonneg h0 (Int.le_of_lt hp), Int.le_trans (Int.ediv_le_self _ h0) h1⟩
theorem and3_b : ∀ x : Int, 0 ≤ x → x ≤ 255 → 0 ≤ bits .and .u8 x 3 ∧ bits .and .u8 x 3 ≤ 3 := byteAll (by decide +kernel)
theorem colourI_b {c : Int} (n : Int) (h0 : 0 ≤ c) (h1 : c ≤ 255) : 0 ≤ colourI c n ∧ colourI c n ≤ 3 := by
  unfold colourI
  have := div_bG h0 h1 (2 * n).toNat
  exact and3_b _ this.1 this.2
theorem sprToA_b (i : p.In) (N : Nat → Int) (s : Spr) (st : Dn) (h : ∀ k, 0 ≤ st.D k ∧ st.D k ≤ 3) : ∀ n k, 0 ≤ (p.sprToA N s st n).D k ∧ (p.sprToA N s st n).D k ≤ 3 := by
  intro n
  induction n with
  | zero => exact h
  | succ n ih =>
    intro k
    show 0 ≤ (p.sprPtA N s (p.sprToA N s st n) n).D k ∧ (p.sprPtA N s (p.sprToA N s st n) n).D k ≤ 3
    have hc : 0 ≤ p.sprC s ∧ p.sprC s ≤ 255 := by unfold Pic.sprC; split; exact i.rg 8; exact i.rg 9
    unfold Pic.sprPtA
    split
    · exact ih k
    · show 0 ≤ (if _ then _ else (p.sprToA N s st n).D : Nat → Int) k ∧ (if _ then _ else (p.sprToA N s st n).D : Nat → Int) k ≤ 3
      split
      · show 0 ≤ (if k = _ then _ else (p.sprToA N s st n).D k) ∧ (if k = _ then _ else (p.sprToA N s st n).D k) ≤ 3
        split
        · exact colourI_b _ hc.1 hc.2
        · exact ih k
      · exact ih k
theorem sprAllA_b (i : p.In) (N : Nat → Int) : ∀ (l : List Spr) (st : Dn), (∀ k, 0 ≤ st.D k ∧ st.D k ≤ 3) → ∀ k, 0 ≤ (p.sprAllA N l st).D k ∧ (p.sprAllA N l st).D k ≤ 3 := by
  intro l
  induction l with
  | nil => intro st h; exact h
  | cons s l ih => intro st h; exact ih _ (sprToA_b i N s st h 8)
/-- the points of a line, whatever is there -/
def Pic.ptsA (p : Pic) (M : Nat) : Nat → Int :=
  if p.win = true then (if p.has 2 = true then ((p.setRows (p.rows + 1)).sprAllA (p.windowG (p.groundF (fun _ => 0))) ((p.setRows (p.rows + 1)).sorted M) ⟨fun _ => false, fun k => colourI (p.rg 7) (p.windowG (p.groundF (fun _ => 0)) k)⟩).D else fun k => colourI (p.rg 7) (p.windowG (p.groundF (fun _ => 0)) k))
  else (if p.has 2 = true then (p.sprAllA (p.groundF (fun _ => 0)) (p.sorted M) ⟨fun _ => false, fun k => colourI (p.rg 7) (p.groundF (fun _ => 0) k)⟩).D else fun k => colourI (p.rg 7) (p.groundF (fun _ => 0) k))
theorem ptsA_b (i : p.In) (M k : Nat) : 0 ≤ p.ptsA M k ∧ p.ptsA M k ≤ 3 := by
  unfold Pic.ptsA
  have c := i.rg 7
  have i2 : (p.setRows (p.rows + 1)).In := ⟨i.vr, i.oa, i.rg⟩
  split
  · split
    · exact sprAllA_b i2 _ _ _ (fun k => colourI_b _ c.1 c.2) k
    · exact colourI_b _ c.1 c.2
  · split
    · exact sprAllA_b i _ _ _ (fun k => colourI_b _ c.1 c.2) k
    · exact colourI_b _ c.1 c.2
theorem lineA_eq (p : Pic) (M : Nat) : p.lineA M = (if p.win = true then p.setRows (p.rows + 1) else p).setLine (160 * (p.rg 4).toNat) (p.ptsA M) 160 := by
  unfold Pic.lineA Pic.ptsA
  by_cases hw : p.win = true
  · rw [if_pos hw, if_pos hw, if_pos hw]
    by_cases hs : p.has 2 = true
    · rw [if_pos hs, if_pos hs]; rfl
    · rw [if_neg hs, if_neg hs]; rfl
  · rw [if_neg hw, if_neg hw, if_neg hw]
    by_cases hs : p.has 2 = true
    · rw [if_pos hs, if_pos hs]; rfl
    · rw [if_neg hs, if_neg hs]; rfl
theorem lineA_keeps (p : Pic) (M : Nat) : (p.lineA M).vr = p.vr ∧ (p.lineA M).oa = p.oa ∧ (p.lineA M).rg = p.rg ∧ (p.lineA M).clk = p.clk ∧ (p.lineA M).met = p.met ∧ (p.lineA M).sh = p.sh := by
  rw [lineA_eq]
  split <;> exact ⟨rfl, rfl, rfl, rfl, rfl, rfl⟩
theorem lineA_rows (p : Pic) (M : Nat) : (p.lineA M).rows = if p.win = true then p.rows + 1 else p.rows := by
  rw [lineA_eq]
  by_cases hw : p.win = true
  · rw [if_pos hw, if_pos hw]; rfl
  · rw [if_neg hw, if_neg hw]; rfl
theorem lineA_dr (p : Pic) (M k : Nat) : (p.lineA M).dr k = if 160 * (p.rg 4).toNat ≤ k ∧ k < 160 * (p.rg 4).toNat + 160 then p.ptsA M (k - 160 * (p.rg 4).toNat) else p.dr k := by
  rw [lineA_eq]
  by_cases hw : p.win = true
  · rw [if_pos hw]; rfl
  · rw [if_neg hw]; rfl
/-- how many lines of the frame are drawn -/
def Pic.lines (p : Pic) : Nat := if 144 ≤ p.rg 4 then 0 else if 252 ≤ p.clk then (p.rg 4).toNat + 1 else (p.rg 4).toNat
structure Sane (p : Pic) : Prop where
  inn : p.In
  c0 : 0 ≤ p.clk
  c9 : p.clk ≤ 452
  c4 : p.clk % 4 = 0
  ly : p.rg 4 ≤ 153
  st : bits .andNot .u8 (p.rg 1) 120 = 0
  dm : p.rg 6 = 0
  off : p.has 128 = false → p.rg 4 = 0 ∧ p.clk = 0 ∧ ∀ k, k < 23040 → p.sh k = 0
  r0 : 0 ≤ p.rows
  rl : p.rows ≤ (p.lines : Int)
  rm : 0 < p.rows → p.met = true
  ml : p.met = true → p.rg 4 < 144 ∧ (0 < p.rg 4 ∨ 80 ≤ p.clk)
  dz : ∀ k, k < 23040 → 160 * p.lines ≤ k → p.dr k = 0
  d3 : ∀ k, k < 23040 → 0 ≤ p.dr k ∧ p.dr k ≤ 3
  s3 : ∀ k, k < 23040 → 0 ≤ p.sh k ∧ p.sh k ≤ 3
theorem lines_of {p q : Pic} (h4 : q.rg 4 = p.rg 4) (hc : (252 ≤ q.clk) = (252 ≤ p.clk)) : q.lines = p.lines := by
  unfold Pic.lines
  simp only [h4, hc]
theorem Pic.inClk (i : p.In) (c : Int) : (p.setClk c).In := ⟨i.vr, i.oa, i.rg⟩
theorem Sane.plain (h : Sane p) (on : p.has 128 = true) (hn : ¬ atTurn (p.clk + 4)) : Sane (p.setClk (p.clk + 4)) := by
  unfold atTurn at hn
  have c0 := h.c0
  have c9 := h.c9
  have c4 := h.c4
  have el : (p.setClk (p.clk + 4)).lines = p.lines := lines_of rfl (propext (show 252 ≤ p.clk + 4 ↔ 252 ≤ p.clk by omega))
  refine ⟨Pic.inClk h.inn _, ?_, ?_, ?_, h.ly, h.st, h.dm, fun o => ?_, h.r0, by rw [el]; exact h.rl, h.rm, fun m => ?_, fun k hk hl => h.dz k hk (by rw [el] at hl; exact hl), h.d3, h.s3⟩
  · show 0 ≤ p.clk + 4; omega
  · show p.clk + 4 ≤ 452; omega
  · show (p.clk + 4) % 4 = 0; omega
  · have o2 : p.has 128 = false := o
    rw [on] at o2
    cases o2
  · have := h.ml m
    refine ⟨this.1, ?_⟩
    show 0 < p.rg 4 ∨ 80 ≤ p.clk + 4
    omega
theorem Pic.inR (i : p.In) (j : Nat) (x : Int) (x0 : 0 ≤ x) (x1 : x ≤ 255) : (p.setR j x).In := by
  refine ⟨i.vr, i.oa, fun k => ?_⟩
  show 0 ≤ (if k = j then x else p.rg k) ∧ (if k = j then x else p.rg k) ≤ 255
  split
  · exact ⟨x0, x1⟩
  · exact i.rg k
theorem Sane.next (h : Sane p) (on : p.has 128 = true) (hc : p.clk = 452) : Sane (p.setClk 456).next := by
  have ly := h.ly
  have l0 := (h.inn.rg 4).1
  unfold Pic.next
  have e4 : (p.setClk 456).rg 4 = p.rg 4 := rfl
  rw [e4]
  by_cases e1 : p.rg 4 = 153
  · rw [if_pos e1]
    have nm : p.met = false := by cases hm : p.met; rfl; have := (h.ml hm).1; omega
    have el : (((p.setClk 456).setClk 0).setR 4 0).lines = 0 := by
      unfold Pic.lines
      show (if 144 ≤ (0 : Int) then 0 else if 252 ≤ (0 : Int) then (0 : Int).toNat + 1 else (0 : Int).toNat) = 0
      decide
    have el2 : p.lines = 0 := by unfold Pic.lines; rw [if_pos (by omega)]
    have rz : p.rows = 0 := by have := h.rl; have := h.r0; rw [el2] at *; omega
    refine ⟨Pic.inR (p := (p.setClk 456).setClk 0) ⟨h.inn.vr, h.inn.oa, h.inn.rg⟩ 4 0 (by decide) (by decide), show (0 : Int) ≤ 0 by decide, show (0 : Int) ≤ 452 by decide, show (0 : Int) % 4 = 0 by decide, show (0 : Int) ≤ 153 by decide, h.st, h.dm, fun o => ?_, h.r0, ?_, h.rm, fun m => ?_, fun k hk _ => h.dz k hk (by omega), h.d3, h.s3⟩
    · have o2 : p.has 128 = false := o
      rw [on] at o2
      cases o2
    · rw [el]
      show p.rows ≤ 0
      omega
    · have m2 : p.met = true := m
      rw [nm] at m2
      cases m2
  · rw [if_neg e1]
    have em : (p.rg 4 + 1) % 256 = p.rg 4 + 1 := by omega
    rw [em]
    by_cases e2 : p.rg 4 + 1 = 144
    · rw [if_pos e2]
      have el : ((((p.setClk 456).setClk 0).setR 4 (p.rg 4 + 1)).cpy 23040).forget.lines = 0 := by
        unfold Pic.lines
        show (if 144 ≤ p.rg 4 + 1 then 0 else _) = 0
        rw [if_pos (by omega)]
      refine ⟨?_, show (0 : Int) ≤ 0 by decide, show (0 : Int) ≤ 452 by decide, show (0 : Int) % 4 = 0 by decide, ?_, h.st, h.dm, fun o => ?_, show (0 : Int) ≤ 0 by decide, ?_, fun m => absurd (show (0 : Int) < 0 from m) (by decide), fun m => ?_, fun k hk _ => ?_, fun k hk => ?_, fun k hk => ?_⟩
      · have := Pic.inR (p := p) h.inn 4 (p.rg 4 + 1) (by omega) (by omega)
        exact ⟨this.vr, this.oa, this.rg⟩
      · show p.rg 4 + 1 ≤ 153; omega
      · have o2 : p.has 128 = false := o
        rw [on] at o2
        cases o2
      · rw [el]
        show (0 : Int) ≤ ((0 : Nat) : Int)
        decide
      · have m2 : false = true := m
        cases m2
      · show (if k < 23040 then (0 : Int) else _) = 0
        rw [if_pos hk]
      · show 0 ≤ (if k < 23040 then (0 : Int) else _) ∧ (if k < 23040 then (0 : Int) else _) ≤ 3
        rw [if_pos hk]
        decide
      · show 0 ≤ (if k < 23040 then p.dr k else p.sh k) ∧ (if k < 23040 then p.dr k else p.sh k) ≤ 3
        rw [if_pos hk]
        exact h.d3 k hk
    · rw [if_neg e2]
      have el : (((p.setClk 456).setClk 0).setR 4 (p.rg 4 + 1)).lines = p.lines := by
        unfold Pic.lines
        show (if 144 ≤ p.rg 4 + 1 then 0 else if 252 ≤ (0 : Int) then _ else (p.rg 4 + 1).toNat) = _
        by_cases e3 : 144 ≤ p.rg 4
        · rw [if_pos (by omega), if_pos e3]
        · rw [if_neg (by omega), if_neg (by decide), if_neg e3, if_pos (by omega)]
          omega
      refine ⟨?_, show (0 : Int) ≤ 0 by decide, show (0 : Int) ≤ 452 by decide, show (0 : Int) % 4 = 0 by decide, ?_, h.st, h.dm, fun o => ?_, h.r0, ?_, h.rm, fun m => ?_, fun k hk hl => h.dz k hk (by rw [el] at hl; exact hl), h.d3, h.s3⟩
      · have := Pic.inR (p := p) h.inn 4 (p.rg 4 + 1) (by omega) (by omega)
        exact ⟨this.vr, this.oa, this.rg⟩
      · show p.rg 4 + 1 ≤ 153; omega
      · have o2 : p.has 128 = false := o
        rw [on] at o2
        cases o2
      · rw [el]
        exact h.rl
      · have := (h.ml m).1
        refine ⟨?_, Or.inl ?_⟩
        · show p.rg 4 + 1 < 144; omega
        · show 0 < p.rg 4 + 1; omega
theorem Sane.tick (h : Sane p) (M : Nat) : Sane (p.tickP (Pic.lineA M)) := by
  have c0 := h.c0
  have c9 := h.c9
  have c4 := h.c4
  have l0 := (h.inn.rg 4).1
  unfold Pic.tickP
  cases on : p.has 128
  · rw [if_pos rfl]
    exact h
  · rw [if_neg (by decide)]
    by_cases ht : atTurn (p.clk + 4)
    · rw [if_pos ht]
      unfold Pic.turnP
      have nf : ∀ q : Pic, q.rg 0 = p.rg 0 → q.has 128 = false → False := fun q e o => by
        have o2 : p.has 128 = false := by unfold Pic.has at *; rw [← e]; exact o
        rw [on] at o2
        cases o2
      by_cases e : p.clk + 4 = 456
      · rw [if_pos e]
        exact h.next on (by omega)
      · rw [if_neg e]
        by_cases e4 : 144 ≤ p.rg 4
        · rw [if_pos e4]
          have el : (p.setClk (p.clk + 4)).lines = p.lines := by
            unfold Pic.lines
            show (if 144 ≤ p.rg 4 then 0 else _) = _
            rw [if_pos e4, if_pos e4]
          refine ⟨Pic.inClk h.inn _, ?_, ?_, ?_, h.ly, h.st, h.dm, fun o => (nf _ rfl o).elim, h.r0, by rw [el]; exact h.rl, h.rm, fun m => ?_, fun k hk hl => h.dz k hk (by rw [el] at hl; exact hl), h.d3, h.s3⟩
          · show 0 ≤ p.clk + 4; omega
          · show p.clk + 4 ≤ 452; omega
          · show (p.clk + 4) % 4 = 0; omega
          · have := (h.ml m).1
            omega
        · rw [if_neg e4]
          by_cases e8 : p.clk + 4 = 80
          · rw [if_pos e8]
            have el : ((p.setClk (p.clk + 4)).setMet (p.met || p.rg 10 == p.rg 4)).lines = p.lines := lines_of rfl (propext (show 252 ≤ p.clk + 4 ↔ 252 ≤ p.clk by omega))
            refine ⟨⟨h.inn.vr, h.inn.oa, h.inn.rg⟩, ?_, ?_, ?_, h.ly, h.st, h.dm, fun o => (nf _ rfl o).elim, h.r0, by rw [el]; exact h.rl, fun r => ?_, fun m => ?_, fun k hk hl => h.dz k hk (by rw [el] at hl; exact hl), h.d3, h.s3⟩
            · show 0 ≤ p.clk + 4; omega
            · show p.clk + 4 ≤ 452; omega
            · show (p.clk + 4) % 4 = 0; omega
            · show (p.met || p.rg 10 == p.rg 4) = true
              rw [h.rm r]
              rfl
            · refine ⟨?_, Or.inr ?_⟩
              · show p.rg 4 < 144; omega
              · show 80 ≤ p.clk + 4; omega
          · rw [if_neg e8]
            have e252 : p.clk + 4 = 252 := by unfold atTurn at ht; omega
            rw [e252]
            obtain ⟨k1, k2, k3, k4, k5, k6⟩ := lineA_keeps (p.setClk 252) M
            have lp : p.lines = (p.rg 4).toNat := by unfold Pic.lines; rw [if_neg e4, if_neg (by omega)]
            have lq : ((p.setClk 252).lineA M).lines = (p.rg 4).toNat + 1 := by
              unfold Pic.lines
              rw [k3, k4]
              show (if 144 ≤ p.rg 4 then 0 else if 252 ≤ (252 : Int) then (p.rg 4).toNat + 1 else _) = _
              rw [if_neg e4, if_pos (by decide)]
            have hrl := h.rl
            rw [lp] at hrl
            have hr0 := h.r0
            have er := lineA_rows (p.setClk 252) M
            have er2 : (p.setClk 252).rows = p.rows := rfl
            rw [er2] at er
            have ew : (p.setClk 252).win = p.win := rfl
            rw [ew] at er
            refine ⟨⟨by rw [k1]; exact h.inn.vr, by rw [k2]; exact h.inn.oa, by rw [k3]; exact h.inn.rg⟩, ?_, ?_, ?_, by rw [k3]; exact h.ly, by rw [k3]; exact h.st, by rw [k3]; exact h.dm, fun o => (nf _ (by rw [k3]; rfl) o).elim, ?_, ?_, fun r => ?_, fun m => ?_, fun k hk hl => ?_, fun k hk => ?_, by rw [k6]; exact h.s3⟩
            · rw [k4]; show (0 : Int) ≤ 252; decide
            · rw [k4]; show (252 : Int) ≤ 452; decide
            · rw [k4]; show (252 : Int) % 4 = 0; decide
            · rw [er]; split <;> omega
            · rw [er, lq]; split <;> omega
            · rw [k5]
              show p.met = true
              rw [er] at r
              by_cases hw : p.win = true
              · unfold Pic.win at hw
                cases hm : p.met
                · rw [hm] at hw
                  simp at hw
                · rfl
              · rw [if_neg hw] at r
                exact h.rm r
            · rw [k3, k4]
              refine ⟨?_, Or.inr ?_⟩
              · show p.rg 4 < 144; omega
              · show (80 : Int) ≤ 252; decide
            · rw [lq] at hl
              rw [lineA_dr]
              show (if 160 * (p.rg 4).toNat ≤ k ∧ k < 160 * (p.rg 4).toNat + 160 then _ else p.dr k) = 0
              rw [if_neg (by omega)]
              exact h.dz k hk (by rw [lp]; omega)
            · rw [lineA_dr]
              split
              · exact ptsA_b (Pic.inClk h.inn 252) M _
              · exact h.d3 k hk
    · rw [if_neg ht]
      exact h.plain on ht
theorem Sane.tickC (h : Sane p) {M : Nat} (hM : M = 40) (W : World) (hp : PxAt W b p) :
    Calls Try.prog 22 #[.pointer (some ⟨b, 0, none⟩)] W fun e w' => e = .returned (.int .i64 (p.tickA (Pic.lineA M))) ∧ PxAt w' b (p.tickP (Pic.lineA M)) ∧ Fr b W w' := by
  refine tick_any (Pic.lineA M) h.c0 h.c9 (fun _ hc hl => drawLineA_any (Pic.inClk h.inn 252) hl h.r0 ?_ hM) W hp
  have := h.rl
  have hl2 : p.lines ≤ 144 := by unfold Pic.lines; split; omega; split <;> omega
  show p.rows ≤ 1000
  omega
end Go.Proofs.Ytnbhifbenfgeeaa
