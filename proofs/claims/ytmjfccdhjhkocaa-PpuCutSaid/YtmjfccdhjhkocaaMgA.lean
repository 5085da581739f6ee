import Derived.Test.YtmjfccdhjhkocaaPgD
/- What any picture keeps to; any tick. -/
namespace Go.Proofs.Ytmjfccdhjhkocaa
open Go.RowKit
set_option linter.unusedVariables false
variable {b : Nat} {p : Pic}
theorem div_bG {l : Int} (h0 : 0 ≤ l) (h1 : l ≤ 255) (j : Nat) : 0 ≤ l / 2 ^ j ∧ l / 2 ^ j ≤ 255 := by
  have hp : (0 : Int) < 2 ^ j := Int.pow_pos (by decide)
  exact ⟨Int.ediv_nonneg h0 (Int.le_of_lt hp), Int.le_trans (Int.ediv_le_self _ h0) h1⟩
theorem and3_b : ∀ x : Int, 0 ≤ x → x ≤ 255 → 0 ≤ bits .and .u8 x 3 ∧ bits .and .u8 x 3 ≤ 3 := byteAll (by decide +kernel)
theorem colourI_b {c : Int} (n : Int) (h0 : 0 ≤ c) (h1 : c ≤ 255) : 0 ≤ colourI c n ∧ colourI c n ≤ 3 := by
  unfold colourI
  have := div_bG h0 h1 (2 * n).toNat
  exact and3_b _ this.1 this.2
theorem sprToA_b (i : p.In) (N : Nat → Int) (s : Spr) (st : Dn) (h : ∀ k, 0 ≤ st.D k ∧ st.D k ≤ 3) : ∀ n k, 0 ≤ (p.sprToA N s st n).D k ∧ (p.sprToA N s st n).D k ≤ 3 := by
  intro n
  induction n with
  | zero => exact h
  | succ n ih =>
    intro k
    show 0 ≤ (p.sprPtA N s (p.sprToA N s st n) n).D k ∧ (p.sprPtA N s (p.sprToA N s st n) n).D k ≤ 3
    have hc : 0 ≤ p.sprC s ∧ p.sprC s ≤ 255 := by unfold Pic.sprC; split; exact i.rg 8; exact i.rg 9
    unfold Pic.sprPtA
    split
    · exact ih k
    · show 0 ≤ (if _ then _ else (p.sprToA N s st n).D : Nat → Int) k ∧ (if _ then _ else (p.sprToA N s st n).D : Nat → Int) k ≤ 3
      split
      · show 0 ≤ (if k = _ then _ else (p.sprToA N s st n).D k) ∧ (if k = _ then _ else (p.sprToA N s st n).D k) ≤ 3
        split
        · exact colourI_b _ hc.1 hc.2
        · exact ih k
      · exact ih k
theorem sprAllA_b (i : p.In) (N : Nat → Int) : ∀ (l : List Spr) (st : Dn), (∀ k, 0 ≤ st.D k ∧ st.D k ≤ 3) → ∀ k, 0 ≤ (p.sprAllA N l st).D k ∧ (p.sprAllA N l st).D k ≤ 3 := by
  intro l
  induction l with
  | nil => intro st h; exact h
  | cons s l ih => intro st h; exact ih _ (sprToA_b i N s st h 8)
/-- the points of a line, whatever is there -/
def Pic.ptsA (p : Pic) (M : Nat) : Nat → Int :=
  if p.win = true then (if p.has 2 = true then ((p.setRows (p.rows + 1)).sprAllA (p.windowG (p.groundF (fun _ => 0))) ((p.setRows (p.rows + 1)).sorted M) ⟨fun _ => false, fun k => colourI (p.rg 7) (p.windowG (p.groundF (fun _ => 0)) k)⟩).D else fun k => colourI (p.rg 7) (p.windowG (p.groundF (fun _ => 0)) k))
  else (if p.has 2 = true then (p.sprAllA (p.groundF (fun _ => 0)) (p.sorted M) ⟨fun _ => false, fun k => colourI (p.rg 7) (p.groundF (fun _ => 0) k)⟩).D else fun k => colourI (p.rg 7) (p.groundF (fun _ => 0) k))
theorem ptsA_b (i : p.In) (M k : Nat) : 0 ≤ p.ptsA M k ∧ p.ptsA M k ≤ 3 := by
  unfold Pic.ptsA
  have c := i.rg 7
  have i2 : (p.setRows (p.rows + 1)).In := ⟨i.vr, i.oa, i.rg⟩
  split
  · split
    · exact sprAllA_b i2 _ _ _ (fun k => colourI_b _ c.1 c.2) k
    · exact colourI_b _ c.1 c.2
  · split
    · exact sprAllA_b i _ _ _ (fun k => colourI_b _ c.1 c.2) k
    · exact colourI_b _ c.1 c.2
theorem lineA_eq (p : Pic) (M : Nat) : p.lineA M = (if p.win = true then p.setRows (p.rows + 1) else p).setLine (160 * (p.rg 4).toNat) (p.ptsA M) 160 := by
  unfold Pic.lineA Pic.ptsA
  by_cases hw : p.win = true
  · rw [if_pos hw, if_pos hw, if_pos hw]
    by_cases hs : p.has 2 = true
    · rw [if_pos hs, if_pos hs]; rfl
    · rw [if_neg hs, if_neg hs]; rfl
  · rw [if_neg hw, if_neg hw, if_neg hw]
    by_cases hs : p.has 2 = true
    · rw [if_pos hs, if_pos hs]; rfl
    · rw [if_neg hs, if_neg hs]; rfl
theorem lineA_keeps (p : Pic) (M : Nat) : (p.lineA M).vr = p.vr ∧ (p.lineA M).oa = p.oa ∧ (p.lineA M).rg = p.rg ∧ (p.lineA M).clk = p.clk ∧ (p.lineA M).met = p.met ∧ (p.lineA M).sh = p.sh := by
  rw [lineA_eq]
  split <;> exact ⟨rfl, rfl, rfl, rfl, rfl, rfl⟩
theorem lineA_rows (p : Pic) (M : Nat) : (p.lineA M).rows = if p.win = true then p.rows + 1 else p.rows := by
  rw [lineA_eq]
  by_cases hw : p.win = true
  · rw [if_pos hw, if_pos hw]; rfl
  · rw [if_neg hw, if_neg hw]; rfl
theorem lineA_dr (p : Pic) (M k : Nat) : (p.lineA M).dr k = if 160 * (p.rg 4).toNat ≤ k ∧ k < 160 * (p.rg 4).toNat + 160 then p.ptsA M (k - 160 * (p.rg 4).toNat) else p.dr k := by
  rw [lineA_eq]
  by_cases hw : p.win = true
  · rw [if_pos hw]; rfl
  · rw [if_neg hw]; rfl
/-- how many lines of the frame are drawn -/
def Pic.lines (p : Pic) : Nat := if 144 ≤ p.rg 4 then 0 else if 252 ≤ p.clk then (p.rg 4).toNat + 1 else (p.rg 4).toNat
structure Sane (p : Pic) : Prop where
  inn : p.In
  c0 : 0 ≤ p.clk
  c9 : p.clk ≤ 452
  c4 : p.clk % 4 = 0
  ly : p.rg 4 ≤ 153
  st : bits .andNot .u8 (p.rg 1) 120 = 0
  dm : p.rg 6 = 0
  off : p.has 128 = false → p.rg 4 = 0 ∧ p.clk = 0 ∧ ∀ k, k < 23040 → p.sh k = 0
  r0 : 0 ≤ p.rows
  rl : p.rows ≤ (p.lines : Int)
  rm : 0 < p.rows → p.met = true
  ml : p.met = true → p.rg 4 < 144 ∧ (0 < p.rg 4 ∨ 80 ≤ p.clk)
  dz : ∀ k, k < 23040 → 160 * p.lines ≤ k → p.dr k = 0
  d3 : ∀ k, k < 23040 → 0 ≤ p.dr k ∧ p.dr k ≤ 3
  s3 : ∀ k, k < 23040 → 0 ≤ p.sh k ∧ p.sh k ≤ 3
theorem lines_of {p q : Pic} (h4 : q.rg 4 = p.rg 4) (hc : (252 ≤ q.clk) = (252 ≤ p.clk)) : q.lines = p.lines := by
  unfold Pic.lines
  simp only [h4, hc]
theorem Pic.inClk (i : p.In) (c : Int) : (p.setClk c).In := ⟨i.vr, i.oa, i.rg⟩
theorem Sane.plain (h : Sane p) (on : p.has 128 = true) (hn : ¬ atTurn (p.clk + 4)) : Sane (p.setClk (p.clk + 4)) := by
  unfold atTurn at hn
  have c0 := h.c0
  have c9 := h.c9
  have c4 := h.c4
  have el : (p.setClk (p.clk + 4)).lines = p.lines := lines_of rfl (propext (show 252 ≤ p.clk + 4 ↔ 252 ≤ p.clk by omega))
  refine ⟨Pic.inClk h.inn _, ?_, ?_, ?_, h.ly, h.st, h.dm, fun o => ?_, h.r0, by rw [el]; exact h.rl, h.rm, fun m => ?_, fun k hk hl => h.dz k hk (by rw [el] at hl; exact hl), h.d3, h.s3⟩
  · show 0 ≤ p.clk + 4; omega
  · show p.clk + 4 ≤ 452; omega
  · show (p.clk + 4) % 4 = 0; omega
  · have o2 : p.has 128 = false := o
    rw [on] at o2
    cases o2
  · have := h.ml m
    refine ⟨this.1, ?_⟩
    show 0 < p.rg 4 ∨ 80 ≤ p.clk + 4
    omega
theorem Pic.inR (i : p.In) (j : Nat) (x : Int) (x0 : 0 ≤ x) (x1 : x ≤ 255) : (p.setR j x).In := by
  refine ⟨i.vr, i.oa, fun k => ?_⟩
  show 0 ≤ (if k = j then x else p.rg k) ∧ (if k = j then x else p.rg k) ≤ 255
  split
  · exact ⟨x0, x1⟩
  · exact i.rg k
theorem Sane.next (h : Sane p) (on : p.has 128 = true) (hc : p.clk = 452) : Sane (p.setClk 456).next := by
  have ly := h.ly
  have l0 := (h.inn.rg 4).1
  unfold Pic.next
  have e4 : (p.setClk 456).rg 4 = p.rg 4 := rfl
  rw [e4]
  by_cases e1 : p.rg 4 = 153
  · rw [if_pos e1]
    have nm : p.met = false := by cases hm : p.met; rfl; have := (h.ml hm).1; omega
    have el : (((p.setClk 456).setClk 0).setR 4 0).lines = 0 := by
      unfold Pic.lines
      show (if 144 ≤ (0 : Int) then 0 else if 252 ≤ (0 : Int) then (0 : Int).toNat + 1 else (0 : Int).toNat) = 0
      decide
    have el2 : p.lines = 0 := by unfold Pic.lines; rw [if_pos (by omega)]
    have rz : p.rows = 0 := by have := h.rl; have := h.r0; rw [el2] at *; omega
    refine ⟨Pic.inR (p := (p.setClk 456).setClk 0) ⟨h.inn.vr, h.inn.oa, h.inn.rg⟩ 4 0 (by decide) (by decide), show (0 : Int) ≤ 0 by decide, show (0 : Int) ≤ 452 by decide, show (0 : Int) % 4 = 0 by decide, show (0 : Int) ≤ 153 by decide, h.st, h.dm, fun o => ?_, h.r0, ?_, h.rm, fun m => ?_, fun k hk _ => h.dz k hk (by omega), h.d3, h.s3⟩
    · have o2 : p.has 128 = false := o
      rw [on] at o2
      cases o2
    · rw [el]
      show p.rows ≤ 0
      omega
    · have m2 : p.met = true := m
      rw [nm] at m2
      cases m2
  · rw [if_neg e1]
    have em : (p.rg 4 + 1) % 256 = p.rg 4 + 1 := by omega
    rw [em]
    by_cases e2 : p.rg 4 + 1 = 144
    · rw [if_pos e2]
      have el : ((((p.setClk 456).setClk 0).setR 4 (p.rg 4 + 1)).cpy 23040).forget.lines = 0 := by
        unfold Pic.lines
        show (if 144 ≤ p.rg 4 + 1 then 0 else _) = 0
        rw [if_pos (by omega)]
      refine ⟨?_, show (0 : Int) ≤ 0 by decide, show (0 : Int) ≤ 452 by decide, show (0 : Int) % 4 = 0 by decide, ?_, h.st, h.dm, fun o => ?_, show (0 : Int) ≤ 0 by decide, ?_, fun m => absurd (show (0 : Int) < 0 from m) (by decide), fun m => ?_, fun k hk _ => ?_, fun k hk => ?_, fun k hk => ?_⟩
      · have := Pic.inR (p := p) h.inn 4 (p.rg 4 + 1) (by omega) (by omega)
        exact ⟨this.vr, this.oa, this.rg⟩
      · show p.rg 4 + 1 ≤ 153; omega
      · have o2 : p.has 128 = false := o
        rw [on] at o2
        cases o2
      · rw [el]
        show (0 : Int) ≤ ((0 : Nat) : Int)
        decide
      · have m2 : false = true := m
        cases m2
      · show (if k < 23040 then (0 : Int) else _) = 0
        rw [if_pos hk]
      · show 0 ≤ (if k < 23040 then (0 : Int) else _) ∧ (if k < 23040 then (0 : Int) else _) ≤ 3
        rw [if_pos hk]
        decide
      · show 0 ≤ (if k < 23040 then p.dr k else p.sh k) ∧ (if k < 23040 then p.dr k else p.sh k) ≤ 3
        rw [if_pos hk]
        exact h.d3 k hk
    · rw [if_neg e2]
      have el : (((p.setClk 456).setClk 0).setR 4 (p.rg 4 + 1)).lines = p.lines := by
        unfold Pic.lines
        show (if 144 ≤ p.rg 4 + 1 then 0 else if 252 ≤ (0 : Int) then _ else (p.rg 4 + 1).toNat) = _
        by_cases e3 : 144 ≤ p.rg 4
        · rw [if_pos (by omega), if_pos e3]
        · rw [if_neg (by omega), if_neg (by decide), if_neg e3, if_pos (by omega)]
          omega
      refine ⟨?_, show (0 : Int) ≤ 0 by decide, show (0 : Int) ≤ 452 by decide, show (0 : Int) % 4 = 0 by decide, ?_, h.st, h.dm, fun o => ?_, h.r0, ?_, h.rm, fun m => ?_, fun k hk hl => h.dz k hk (by rw [el] at hl; exact hl), h.d3, h.s3⟩
      · have := Pic.inR (p := p) h.inn 4 (p.rg 4 + 1) (by omega) (by omega)
        exact ⟨this.vr, this.oa, this.rg⟩
      · show p.rg 4 + 1 ≤ 153; omega
      · have o2 : p.has 128 = false := o
        rw [on] at o2
        cases o2
      · rw [el]
        exact h.rl
      · have := (h.ml m).1
        refine ⟨?_, Or.inl ?_⟩
        · show p.rg 4 + 1 < 144; omega
        · show 0 < p.rg 4 + 1; omega
theorem Sane.tick (h : Sane p) (M : Nat) : Sane (p.tickP (Pic.lineA M)) := by
  have c0 := h.c0
  have c9 := h.c9
  have c4 := h.c4
  have l0 := (h.inn.rg 4).1
  unfold Pic.tickP
  cases on : p.has 128
  · rw [if_pos rfl]
    exact h
  · rw [if_neg (by decide)]
    by_cases ht : atTurn (p.clk + 4)
    · rw [if_pos ht]
      unfold Pic.turnP
      have nf : ∀ q : Pic, q.rg 0 = p.rg 0 → q.has 128 = false → False := fun q e o => by
        have o2 : p.has 128 = false := by unfold Pic.has at *; rw [← e]; exact o
        rw [on] at o2
        cases o2
      by_cases e : p.clk + 4 = 456
      · rw [if_pos e]
        exact h.next on (by omega)
      · rw [if_neg e]
        by_cases e4 : 144 ≤ p.rg 4
        · rw [if_pos e4]
          have el : (p.setClk (p.clk + 4)).lines = p.lines := by
            unfold Pic.lines
            show (if 144 ≤ p.rg 4 then 0 else _) = _
            rw [if_pos e4, if_pos e4]
          refine ⟨Pic.inClk h.inn _, ?_, ?_, ?_, h.ly, h.st, h.dm, fun o => (nf _ rfl o).elim, h.r0, by rw [el]; exact h.rl, h.rm, fun m => ?_, fun k hk hl => h.dz k hk (by rw [el] at hl; exact hl), h.d3, h.s3⟩
          · show 0 ≤ p.clk + 4; omega
          · show p.clk + 4 ≤ 452; omega
          · show (p.clk + 4) % 4 = 0; omega
          · have := (h.ml m).1
            omega
        · rw [if_neg e4]
          by_cases e8 : p.clk + 4 = 80
          · rw [if_pos e8]
            have el : ((p.setClk (p.clk + 4)).setMet (p.met || p.rg 10 == p.rg 4)).lines = p.lines := lines_of rfl (propext (show 252 ≤ p.clk + 4 ↔ 252 ≤ p.clk by omega))
            refine ⟨⟨h.inn.vr, h.inn.oa, h.inn.rg⟩, ?_, ?_, ?_, h.ly, h.st, h.dm, fun o => (nf _ rfl o).elim, h.r0, by rw [el]; exact h.rl, fun r => ?_, fun m => ?_, fun k hk hl => h.dz k hk (by rw [el] at hl; exact hl), h.d3, h.s3⟩
            · show 0 ≤ p.clk + 4; omega
            · show p.clk + 4 ≤ 452; omega
            · show (p.clk + 4) % 4 = 0; omega
            · show (p.met || p.rg 10 == p.rg 4) = true
              rw [h.rm r]
              rfl
            · refine ⟨?_, Or.inr ?_⟩
              · show p.rg 4 < 144; omega
              · show 80 ≤ p.clk + 4; omega
          · rw [if_neg e8]
            have e252 : p.clk + 4 = 252 := by unfold atTurn at ht; omega
            rw [e252]
            obtain ⟨k1, k2, k3, k4, k5, k6⟩ := lineA_keeps (p.setClk 252) M
            have lp : p.lines = (p.rg 4).toNat := by unfold Pic.lines; rw [if_neg e4, if_neg (by omega)]
            have lq : ((p.setClk 252).lineA M).lines = (p.rg 4).toNat + 1 := by
              unfold Pic.lines
              rw [k3, k4]
              show (if 144 ≤ p.rg 4 then 0 else if 252 ≤ (252 : Int) then (p.rg 4).toNat + 1 else _) = _
              rw [if_neg e4, if_pos (by decide)]
            have hrl := h.rl
            rw [lp] at hrl
            have hr0 := h.r0
            have er := lineA_rows (p.setClk 252) M
            have er2 : (p.setClk 252).rows = p.rows := rfl
            rw [er2] at er
            have ew : (p.setClk 252).win = p.win := rfl
            rw [ew] at er
            refine ⟨⟨by rw [k1]; exact h.inn.vr, by rw [k2]; exact h.inn.oa, by rw [k3]; exact h.inn.rg⟩, ?_, ?_, ?_, by rw [k3]; exact h.ly, by rw [k3]; exact h.st, by rw [k3]; exact h.dm, fun o => (nf _ (by rw [k3]; rfl) o).elim, ?_, ?_, fun r => ?_, fun m => ?_, fun k hk hl => ?_, fun k hk => ?_, by rw [k6]; exact h.s3⟩
            · rw [k4]; show (0 : Int) ≤ 252; decide
            · rw [k4]; show (252 : Int) ≤ 452; decide
            · rw [k4]; show (252 : Int) % 4 = 0; decide
            · rw [er]; split <;> omega
            · rw [er, lq]; split <;> omega
            · rw [k5]
              show p.met = true
              rw [er] at r
              by_cases hw : p.win = true
              · unfold Pic.win at hw
                cases hm : p.met
                · rw [hm] at hw
                  simp at hw
                · rfl
              · rw [if_neg hw] at r
                exact h.rm r
            · rw [k3, k4]
              refine ⟨?_, Or.inr ?_⟩
              · show p.rg 4 < 144; omega
              · show (80 : Int) ≤ 252; decide
            · rw [lq] at hl
              rw [lineA_dr]
              show (if 160 * (p.rg 4).toNat ≤ k ∧ k < 160 * (p.rg 4).toNat + 160 then _ else p.dr k) = 0
              rw [if_neg (by omega)]
              exact h.dz k hk (by rw [lp]; omega)
            · rw [lineA_dr]
              split
              · exact ptsA_b (Pic.inClk h.inn 252) M _
              · exact h.d3 k hk
    · rw [if_neg ht]
      exact h.plain on ht
theorem Sane.tickC (h : Sane p) {M : Nat} (hM : M = 40) (W : World) (hp : PxAt W b p) :
    Calls Try.prog 22 #[.pointer (some ⟨b, 0, none⟩)] W fun e w' => e = .returned (.int .i64 (p.tickA (Pic.lineA M))) ∧ PxAt w' b (p.tickP (Pic.lineA M)) ∧ Fr b W w' := by
  refine tick_any (Pic.lineA M) h.c0 h.c9 (fun _ hc hl => drawLineA_any (Pic.inClk h.inn 252) hl h.r0 ?_ hM) W hp
  have := h.rl
  have hl2 : p.lines ≤ 144 := by unfold Pic.lines; split; omega; split <;> omega
  show p.rows ≤ 1000
  omega
end Go.Proofs.Ytmjfccdhjhkocaa
/- A frame hangs on memory and registers alone. -/
namespace Go.Proofs.Ytmjfccdhjhkocaa
open Go.RowKit
set_option linter.unusedVariables false
variable {b : Nat} {p : Pic}
theorem found_congrG {p q : Pic} (hr : p.rg = q.rg) : ∀ j, (∀ i, i < j → p.spr i = q.spr i) → p.found j = q.found j := by
  intro j
  induction j with
  | zero => intro _; rfl
  | succ j ih =>
    intro h
    have hj := ih (fun i hi => h i (by omega))
    have hs := h j (by omega)
    have ho : p.onLine (q.spr j) = q.onLine (q.spr j) := by
      unfold Pic.onLine Pic.sprH Pic.has
      rw [hr]
    show (if (p.found j).length < 10 ∧ p.onLine (p.spr j) = true then p.found j ++ [p.spr j] else p.found j) = (if (q.found j).length < 10 ∧ q.onLine (q.spr j) = true then q.found j ++ [q.spr j] else q.found j)
    rw [hj, hs, ho]
theorem groundF_congrG {p q : Pic} (hv : p.vr = q.vr) (hr : p.rg = q.rg) (f : Nat → Int) : p.groundF f = q.groundF f := by
  funext k
  unfold Pic.groundF Pic.num Pic.lo Pic.hi Pic.tileN Pic.tileAt Pic.mapBy Pic.has
  rw [hv, hr]
def tickN (M : Nat) (p : Pic) : Nat → Pic
  | 0 => p
  | n + 1 => (tickN M p n).tickP (Pic.lineA M)
theorem Sane.ticks (h : Sane p) (M : Nat) : ∀ n, Sane (tickN M p n) := by
  intro n
  induction n with
  | zero => exact h
  | succ n ih => exact ih.tick M
theorem Tk.stepA {p0 q : Pic} {k : Nat} (h : Tk p0 k q) (on0 : p0.has 128 = true) (M : Nat) : Tk p0 (k + 1) (q.tickP (Pic.lineA M)) := by
  have on : q.has 128 = true := (h.has 128).trans on0
  unfold Pic.tickP
  rw [if_neg (by rw [on]; decide)]
  have hb := lnK_le k
  by_cases ht : atTurn (q.clk + 4)
  · rw [if_pos ht]
    unfold Pic.turnP
    by_cases e : q.clk + 4 = 456
    · rw [if_pos e]
      have ek : k % 114 = 113 := by have := h.clk; unfold ckK at this; omega
      have ec : ckK (k + 1) = 0 := by unfold ckK; omega
      unfold Pic.next
      have e4 : (q.setClk 456).rg 4 = (lnK k : Int) := h.ly
      rw [e4]
      by_cases e1 : (lnK k : Int) = 153
      · rw [if_pos e1]
        have el : lnK (k + 1) = 0 := by unfold lnK at *; omega
        exact ⟨h.vr, h.oa, fun j hj => by show (if j = 4 then 0 else q.rg j) = _; rw [if_neg hj]; exact h.rg j hj, by rw [el]; rfl, by rw [ec]; rfl⟩
      · rw [if_neg e1]
        have el : lnK (k + 1) = lnK k + 1 := by unfold lnK at *; omega
        have em : ((lnK k : Int) + 1) % 256 = (lnK (k + 1) : Int) := by omega
        rw [em]
        split
        · exact ⟨h.vr, h.oa, fun j hj => by show (if j = 4 then (lnK (k + 1) : Int) else q.rg j) = _; rw [if_neg hj]; exact h.rg j hj, rfl, by rw [ec]; rfl⟩
        · exact ⟨h.vr, h.oa, fun j hj => by show (if j = 4 then (lnK (k + 1) : Int) else q.rg j) = _; rw [if_neg hj]; exact h.rg j hj, rfl, by rw [ec]; rfl⟩
    · rw [if_neg e]
      have ek : k % 114 ≠ 113 := by have := h.clk; unfold ckK at this; omega
      have ec : q.clk + 4 = (ckK (k + 1) : Int) := by have := h.clk; unfold ckK at *; omega
      have el : lnK (k + 1) = lnK k := by unfold lnK; omega
      rw [ec]
      split
      · exact ⟨h.vr, h.oa, h.rg, by rw [el]; exact h.ly, rfl⟩
      · split
        · exact ⟨h.vr, h.oa, h.rg, by rw [el]; exact h.ly, rfl⟩
        · obtain ⟨a1, a2, a3, a4, _⟩ := lineA_keeps (q.setClk (ckK (k + 1) : Int)) M
          exact ⟨a1.trans h.vr, a2.trans h.oa, fun j hj => by rw [a3]; exact h.rg j hj, by rw [a3, el]; exact h.ly, a4⟩
  · rw [if_neg ht]
    have ek : k % 114 ≠ 113 := by have := h.clk; unfold atTurn at ht; unfold ckK at this; omega
    have ec : q.clk + 4 = (ckK (k + 1) : Int) := by have := h.clk; unfold ckK at *; omega
    have el : lnK (k + 1) = lnK k := by unfold lnK; omega
    rw [ec]
    exact ⟨h.vr, h.oa, h.rg, by rw [el]; exact h.ly, rfl⟩
theorem Tk.start (h4 : p.rg 4 = 0) (hc : p.clk = 0) : Tk p 0 p := ⟨rfl, rfl, fun _ _ => rfl, by rw [h4]; rfl, by rw [hc]; rfl⟩
theorem Tk.ticks (on : p.has 128 = true) (h4 : p.rg 4 = 0) (hc : p.clk = 0) (M : Nat) : ∀ n, Tk p n (tickN M p n) := by
  intro n
  induction n with
  | zero => exact Tk.start h4 hc
  | succ n ih => exact ih.stepA on M
/-- alike but for the frame that is shown -/
structure Alike (p q : Pic) : Prop where
  vr : p.vr = q.vr
  oa : p.oa = q.oa
  rg : p.rg = q.rg
  clk : p.clk = q.clk
  met : p.met = q.met
  rows : p.rows = q.rows
  dr : ∀ k, k < 23040 → p.dr k = q.dr k
theorem sprToA_congr {p q : Pic} (hv : p.vr = q.vr) (hr : p.rg = q.rg) (N : Nat → Int) (s : Spr) (st : Dn) : ∀ i, p.sprToA N s st i = q.sprToA N s st i := by
  intro i
  induction i with
  | zero => rfl
  | succ i ih =>
    show p.sprPtA N s (p.sprToA N s st i) i = q.sprPtA N s (q.sprToA N s st i) i
    rw [ih]
    unfold Pic.sprPtA Pic.sprA Pic.sprW Pic.sprH Pic.has Pic.sprC
    rw [hv, hr]
theorem sprAllA_congr {p q : Pic} (hv : p.vr = q.vr) (hr : p.rg = q.rg) (N : Nat → Int) : ∀ (l : List Spr) (st : Dn), p.sprAllA N l st = q.sprAllA N l st := by
  intro l
  induction l with
  | nil => intro st; rfl
  | cons s l ih =>
    intro st
    show p.sprAllA N l (p.sprToA N s st 8) = q.sprAllA N l (q.sprToA N s st 8)
    rw [ih, sprToA_congr hv hr]
theorem sorted_congr {p q : Pic} (ho : p.oa = q.oa) (hr : p.rg = q.rg) (M : Nat) : p.sorted M = q.sorted M := by
  unfold Pic.sorted
  rw [found_congrG hr M (fun i _ => by unfold Pic.spr; rw [ho])]
theorem windowG_congr {p q : Pic} (hv : p.vr = q.vr) (hr : p.rg = q.rg) (hw : p.rows = q.rows) (f : Nat → Int) : p.windowG f = q.windowG f := by
  funext k
  unfold Pic.windowG Pic.winO Pic.winC Pic.num Pic.lo Pic.hi Pic.tileN Pic.tileAt Pic.mapBy Pic.has
  rw [hv, hr, hw]
theorem ptsA_congr {p q : Pic} (hv : p.vr = q.vr) (ho : p.oa = q.oa) (hr : p.rg = q.rg) (hm : p.met = q.met) (hw : p.rows = q.rows) (M : Nat) : p.ptsA M = q.ptsA M := by
  have e1 : p.win = q.win := by unfold Pic.win Pic.has; rw [hr, hm]
  have e2 : p.has 2 = q.has 2 := by unfold Pic.has; rw [hr]
  have s1 : (p.setRows (p.rows + 1)).sorted M = (q.setRows (q.rows + 1)).sorted M := sorted_congr (p := p.setRows (p.rows + 1)) (q := q.setRows (q.rows + 1)) ho hr M
  unfold Pic.ptsA
  rw [e1, e2, s1, sorted_congr ho hr M, groundF_congrG hv hr, windowG_congr hv hr hw, hr]
  rw [sprAllA_congr hv hr, sprAllA_congr (p := p.setRows (p.rows + 1)) (q := q.setRows (q.rows + 1)) hv hr]
theorem Alike.line {p q : Pic} (h : Alike p q) (M : Nat) : Alike (p.lineA M) (q.lineA M) := by
  obtain ⟨a1, a2, a3, a4, a5, a6⟩ := lineA_keeps p M
  obtain ⟨b1, b2, b3, b4, b5, b6⟩ := lineA_keeps q M
  have e1 : p.win = q.win := by unfold Pic.win Pic.has; rw [h.rg, h.met]
  refine ⟨by rw [a1, b1, h.vr], by rw [a2, b2, h.oa], by rw [a3, b3, h.rg], by rw [a4, b4, h.clk], by rw [a5, b5, h.met], by rw [lineA_rows, lineA_rows, e1, h.rows], fun k hk => ?_⟩
  rw [lineA_dr, lineA_dr, ptsA_congr h.vr h.oa h.rg h.met h.rows M, h.rg, h.dr k hk]
theorem Alike.setClk {p q : Pic} (h : Alike p q) (c : Int) : Alike (p.setClk c) (q.setClk c) := ⟨h.vr, h.oa, h.rg, rfl, h.met, h.rows, h.dr⟩
theorem Alike.setR {p q : Pic} (h : Alike p q) (j : Nat) (x : Int) : Alike (p.setR j x) (q.setR j x) := ⟨h.vr, h.oa, by show (fun n => if n = j then x else p.rg n) = fun n => if n = j then x else q.rg n; rw [h.rg], h.clk, h.met, h.rows, h.dr⟩
theorem Alike.forget {p q : Pic} (h : Alike p q) : Alike p.forget q.forget := ⟨h.vr, h.oa, h.rg, h.clk, rfl, rfl, fun k hk => by show (if k < 23040 then (0 : Int) else _) = (if k < 23040 then (0 : Int) else _); rw [if_pos hk, if_pos hk]⟩
theorem Alike.next {p q : Pic} (h : Alike p q) : Alike p.next q.next := by
  unfold Pic.next
  rw [h.rg]
  split
  · exact (h.setClk 0).setR 4 0
  · split
    · have := ((h.setClk 0).setR 4 ((q.rg 4 + 1) % 256))
      exact Alike.forget ⟨this.vr, this.oa, this.rg, this.clk, this.met, this.rows, this.dr⟩
    · exact (h.setClk 0).setR 4 _
theorem Alike.tick {p q : Pic} (h : Alike p q) (M : Nat) : Alike (p.tickP (Pic.lineA M)) (q.tickP (Pic.lineA M)) := by
  have e1 : p.has 128 = q.has 128 := by unfold Pic.has; rw [h.rg]
  unfold Pic.tickP
  rw [e1, h.clk]
  split
  · exact h
  · split
    · unfold Pic.turnP
      rw [h.rg, h.met]
      split
      · exact (h.setClk 456).next
      · split
        · exact h.setClk _
        · split
          · exact ⟨h.vr, h.oa, h.rg, rfl, rfl, h.rows, h.dr⟩
          · exact (h.setClk _).line M
    · exact h.setClk _
theorem Alike.ticks {p q : Pic} (h : Alike p q) (M : Nat) : ∀ n, Alike (tickN M p n) (tickN M q n) := by
  intro n
  induction n with
  | zero => exact h
  | succ n ih => exact ih.tick M
/-- a picture at a frame's beginning -/
def cPic (V O R : Nat → Int) : Pic := ⟨V, O, R, 0, false, 0, fun _ => 0, fun _ => 0⟩
theorem Sane.begun (h : Sane p) (h4 : p.rg 4 = 0) (hc : p.clk = 0) : Alike p (cPic p.vr p.oa p.rg) := by
  have hm : p.met = false := by
    cases hm : p.met
    · rfl
    · have := (h.ml hm).2
      omega
  have hl : p.lines = 0 := by unfold Pic.lines; rw [h4, hc]; decide
  have hr : p.rows = 0 := by
    have := h.r0
    have := h.rl
    rw [hl] at this
    omega
  exact ⟨rfl, rfl, rfl, hc, hm, hr, fun k hk => h.dz k hk (by rw [hl]; omega)⟩
/-- the frame that memory and registers make -/
def frameF (M : Nat) (V O R : Nat → Int) (i : Nat) : Int := (tickN M (cPic V O R) 16415).dr i
theorem frame_last (h : Sane p) (on : p.has 128 = true) (h4 : p.rg 4 = 0) (hc : p.clk = 0) (M : Nat) {n : Nat} (hn : n = 16415) (i : Nat) (hi : i < 23040) : (tickN M p (n + 1)).sh i = (tickN M (cPic p.vr p.oa p.rg) n).dr i := by
  have t := Tk.ticks on h4 hc M n
  have al := (h.begun h4 hc).ticks M n
  show ((tickN M p n).tickP (Pic.lineA M)).sh i = _
  generalize tickN M p n = q at *
  have on2 : q.has 128 = true := (t.has 128).trans on
  have hc2 : q.clk = 452 := by rw [t.clk]; unfold ckK; omega
  have hly : q.rg 4 = 143 := by rw [t.ly]; unfold lnK; omega
  unfold Pic.tickP
  rw [if_neg (by rw [on2]; decide), if_pos (by rw [hc2]; exact Or.inr (Or.inr rfl))]
  unfold Pic.turnP
  rw [if_pos (by rw [hc2]; rfl)]
  unfold Pic.next
  have e4 : (q.setClk 456).rg 4 = 143 := hly
  rw [e4, if_neg (by decide), if_pos (by decide)]
  show (if i < 23040 then q.dr i else q.sh i) = _
  rw [if_pos hi]
  exact al.dr i hi
/-- a picture behind some ticks; all else as it was -/
structure Ts (M : Nat) (W0 : World) (b : Nat) (p : Pic) (n : Nat) (W : World) : Prop where
  px : PxAt W b (tickN M p n)
  fr : Fr b W0 W
theorem Ts.tick {M : Nat} (hM : M = 40) {W0 W : World} {n : Nat} (h : Sane p) (t : Ts M W0 b p n W) :
    Calls Try.prog 22 #[.pointer (some ⟨b, 0, none⟩)] W fun e w' => e = .returned (.int .i64 ((tickN M p n).tickA (Pic.lineA M))) ∧ Ts M W0 b p (n + 1) w' :=
  ((h.ticks M n).tickC hM W t.px).mono fun e w' ⟨h1, h2, h3⟩ => ⟨h1, h2, t.fr.trans h3⟩
set_option maxRecDepth 100000 in
set_option maxHeartbeats 1000000 in
theorem oneA_any {M : Nat} (hM : M = 40) {N : Nat} (hN : N = 16416) (h : Sane p) (on : p.has 128 = true) (h4 : p.rg 4 = 0) (hc : p.clk = 0) (W : World) (hp : PxAt W b p) : Calls Try.prog 28 #[.pointer (some ⟨b, 0, none⟩)] W fun e w' => (∃ g, e = .returned (.slice (some ⟨g, 0, none⟩) 23040 23040) ∧ W.heap.size ≤ g ∧ NmAt w' g 23040 (frameF M p.vr p.oa p.rg)) ∧ PxAt w' b (tickN M p N) ∧ Fr b W w' := by
  have H0 : Hid (Ts M W b p 0 W) := ⟨hp, Fr.refl b W⟩
  have HT : Hid (∀ n w, Ts M W b p n w → _) := fun n w (t : Ts M W b p n w) => t.tick hM h
  have HL : Hid (∀ i, i < 23040 → (tickN M p N).sh i = frameF M p.vr p.oa p.rg i) := fun i hi => by
    have := frame_last h on h4 hc M (n := N - 1) (by omega) i hi
    rw [show N - 1 + 1 = N by omega] at this
    unfold frameF
    rw [this, show N - 1 = 16415 by omega]
  have HN : Hid (N = 16416) := hN
  clear h on h4 hc hp hM hN
  generalize frameF M p.vr p.oa p.rg = F at *
  go_enter Try.func28, Try.ntmps28
  go_wp2_with fail
  go_loopw [3] (fun I wr => ∃ i : Nat, i ≤ 16416 ∧ I = .int .i64 i ∧ Hid (Ts M W b p i wr)) (fun I _ => 16416 - (intOf I).toNat)
  case atStart => exact ⟨0, by omega, rfl, H0⟩
  case round =>
    clear H0
    obtain ⟨i, hi, rfl, M0⟩ := hrel
    by_cases hlt : i < 16416
    · have d1 : decide ((i : Int) < 16416) = true := decide_eq_true (by omega)
      have e1 : (i : Int) < 16416 := by omega
      have HT1 : Hid _ := HT.out i wr M0.out
      clear HL HN
      go_wp2_with fail
      refine Calls.mono HT1.out ?_
      rintro e w4 ⟨rfl, h4⟩
      have H4 : Hid _ := h4
      clear h4 HT1 M0 HT
      go_wp2_with fail
      refine ⟨⟨i + 1, by omega, ?_, H4⟩, ?_⟩
      · first | rfl | (simp; done)
      · simp [intOf]
        omega
    · have d1 : decide ((i : Int) < 16416) = false := decide_eq_false (by omega)
      have M2 : Hid (Ts M W b p N wr) := by
        have e : N = i := by have := HN.out; omega
        show Ts M W b p N wr
        rw [e]
        exact M0.out
      have HF : Hid _ := frame_any wr M2.out.px
      clear M0 HT HN
      go_wp2_with fail
      refine Calls.mono HF.out ?_
      rintro e w5 ⟨rfl, h5, u5⟩
      have H5 : Hid _ := And.intro h5 u5
      clear h5 u5 HF
      go_wp2_with fail
      go_ret
      exact ⟨⟨_, rfl, M2.out.fr.size, H5.out.1.congr HL.out⟩, M2.out.px.up H5.out.2, M2.out.fr.trans (Fr.ofUp H5.out.2)⟩
end Go.Proofs.Ytmjfccdhjhkocaa
/- Any write. -/
namespace Go.Proofs.Ytmjfccdhjhkocaa
open Go.RowKit
set_option linter.unusedVariables false
variable {b : Nat} {p : Pic}
def Pic.wrL (p : Pic) (v : Int) : Pic := if p.has 128 = true ∧ (p.setR 0 v).has 128 = false then p.off v else p.setR 0 v
def Pic.wrR (p : Pic) (n : Nat) (v : Int) : Pic := if n = 0 then p.wrL v else if n = 1 then p.setR 1 (bits .and .u8 v 120) else if n = 4 ∨ n = 6 then p else p.setR n v
/-- what a write makes -/
def Pic.wr (p : Pic) (a x : Int) : Pic :=
  if p.locked a = true then p else if isV a = true then p.setV (a - 32768).toNat (cutB x) else if isO a = true then p.setO (a - 65024).toNat (cutB x) else if isR a = true then p.wrR (a - 65344).toNat (cutB x) else p
set_option maxRecDepth 100000 in
theorem wreg6_any (x : Int) (W : World) (h : PxAt W b p) :
    Calls Try.prog 46 #[.pointer (some ⟨b, 0, none⟩), .int .i64 6, .int .u8 x] W fun e w' => e = .returned (.tuple #[]) ∧ PxAt w' b p ∧ Fr b W w' := by
  go_enter Try.func46, Try.ntmps46
  go_wp2
  go_end0
  exact ⟨rfl, h, Fr.refl b W⟩
set_option maxRecDepth 100000 in
theorem lcdcOO_any (x : Int) (on : p.has 128 = true) (hx : (p.setR 0 x).has 128 = true) (W : World) (h : PxAt W b p) :
    Calls Try.prog 60 #[.pointer (some ⟨b, 0, none⟩), .int .u8 x] W fun e w' => e = .returned (.tuple #[]) ∧ PxAt w' b (p.setR 0 x) ∧ Fr b W w' := by
  have k : W.cell? ⟨b, 8352, none⟩ = some (.int .u8 (p.rg 0)) := h.reg 0 (by decide)
  have fz := h.fz 8352
  have HA : Hid (∀ W, PxAt W b p → Calls Try.prog 48 #[.pointer (some ⟨b, 0, none⟩), .int .u8 128] W fun e w' => e = .returned (.bool true) ∧ w' = W) := fun W h => on ▸ has_any 128 W h
  have HB : Hid (∀ W, PxAt W b (p.setR 0 x) → Calls Try.prog 48 #[.pointer (some ⟨b, 0, none⟩), .int .u8 128] W fun e w' => e = .returned (.bool true) ∧ w' = W) := fun W h => hx ▸ has_any 128 W h
  have HP : Hid (PxAt W b p) := h
  clear h on hx
  go_enter Try.func60, Try.ntmps60
  go_wp2_with fail
  refine (HA.out _ HP.out).mono ?_
  rintro e w' ⟨rfl, hw'⟩
  obtain rfl := hw'.symm
  go_wp2_with fail
  have h1 : PxAt (W.setCell ⟨b, 8352, none⟩ (.int .u8 x)) b (p.setR 0 x) := HP.out.set 8352 _ (fun j _ => Pic.cellR p 0 (by decide) x j)
  have F1 : Fr b W (W.setCell ⟨b, 8352, none⟩ (.int .u8 x)) := (Fr.refl b W).setCell
  generalize World.setCell W _ _ = w1 at h1 F1 ⊢
  have H1 : Hid _ := And.intro h1 F1
  clear h1 F1 HP HA k fz
  refine (HB.out _ H1.out.1).mono ?_
  rintro e w' ⟨rfl, hw'⟩
  obtain rfl := hw'.symm
  go_wp2_with fail
  go_end0
  exact ⟨rfl, H1.out⟩
set_option maxRecDepth 100000 in
theorem wreg0_any (x : Int) (W : World) (h : PxAt W b p) :
    Calls Try.prog 46 #[.pointer (some ⟨b, 0, none⟩), .int .i64 0, .int .u8 x] W fun e w' => e = .returned (.tuple #[]) ∧ PxAt w' b (p.wrL x) ∧ Fr b W w' := by
  unfold Pic.wrL
  cases on : p.has 128
  · rw [if_neg (by simp)]
    exact wreg0On_any x on W h
  · cases hx : (p.setR 0 x).has 128
    · rw [if_pos ⟨rfl, rfl⟩]
      exact wreg0Off_any x on hx W h
    · rw [if_neg (by simp)]
      have HS : Hid _ := lcdcOO_any x on hx W h
      clear h on hx
      go_enter Try.func46, Try.ntmps46
      go_wp2_with fail
      refine Calls.mono HS.out ?_
      rintro e w2 ⟨rfl, h2, F2⟩
      have H2 : Hid _ := And.intro h2 F2
      clear h2 F2
      go_wp2_with fail
      go_end0
      exact ⟨rfl, H2.out⟩
theorem wregN_any (n : Nat) (hn : n < 12) (x : Int) (W : World) (h : PxAt W b p) :
    Calls Try.prog 46 #[.pointer (some ⟨b, 0, none⟩), .int .i64 (n : Int), .int .u8 x] W fun e w' => e = .returned (.tuple #[]) ∧ PxAt w' b (p.wrR n x) ∧ Fr b W w' := by
  have : n = 0 ∨ n = 1 ∨ n = 4 ∨ n = 6 ∨ n = 5 ∨ (n < 12 ∧ n ≠ 0 ∧ n ≠ 1 ∧ n ≠ 4 ∧ n ≠ 5 ∧ n ≠ 6) := by omega
  unfold Pic.wrR
  rcases this with rfl | rfl | rfl | rfl | rfl | hn
  · rw [if_pos rfl]; exact wreg0_any x W h
  · rw [if_neg (by decide), if_pos rfl]; exact wreg1_any x W h
  · rw [if_neg (by decide), if_neg (by decide), if_pos (Or.inl rfl)]; exact wreg4_any x W h
  · rw [if_neg (by decide), if_neg (by decide), if_pos (Or.inr rfl)]; exact wreg6_any x W h
  · rw [if_neg (by decide), if_neg (by decide), if_neg (by decide)]; exact wreg5_any x W h
  · rw [if_neg (by omega), if_neg (by omega), if_neg (by omega)]; exact wregAny n hn x W h
set_option maxRecDepth 100000 in
theorem writeX_any (a x : Int) (hl : p.locked a = false) (hv : isV a = false) (ho : isO a = false) (hr : isR a = false) (W : World) (h : PxAt W b p) :
    Calls Try.prog 18 #[.pointer (some ⟨b, 0, none⟩), .int .i64 a, .int .i64 x] W fun e w' => e = .returned (.tuple #[]) ∧ w' = W := by
  have HL : Hid (∀ W, PxAt W b p → Calls Try.prog 42 #[.pointer (some ⟨b, 0, none⟩), .int .i64 a] W fun e w' => e = .returned (.bool false) ∧ w' = W) := fun W h => hl ▸ isLocked_any a W h
  have HV : Hid (∀ W, Calls Try.prog 43 #[.int .i64 a] W fun e w' => e = .returned (.bool false) ∧ w' = W) := fun W => by have := isVram_any a W; rw [hv] at this; exact this
  have HO : Hid (∀ W, Calls Try.prog 44 #[.int .i64 a] W fun e w' => e = .returned (.bool false) ∧ w' = W) := fun W => by have := isOam_any a W; rw [ho] at this; exact this
  have HR : Hid (∀ W, Calls Try.prog 45 #[.int .i64 a] W fun e w' => e = .returned (.bool false) ∧ w' = W) := fun W => by have := isRegister_any a W; rw [hr] at this; exact this
  have HP : Hid (PxAt W b p) := h
  clear h hl hv ho hr
  go_enter Try.func18, Try.ntmps18
  go_wp2_with fail
  refine (HL.out _ HP.out).mono ?_
  rintro e w' ⟨rfl, hw'⟩
  obtain rfl := hw'.symm
  go_wp2_with fail
  refine (HV.out _).mono ?_
  rintro e w' ⟨rfl, hw'⟩
  obtain rfl := hw'.symm
  go_wp2_with fail
  refine (HO.out _).mono ?_
  rintro e w' ⟨rfl, hw'⟩
  obtain rfl := hw'.symm
  go_wp2_with fail
  refine (HR.out _).mono ?_
  rintro e w' ⟨rfl, hw'⟩
  obtain rfl := hw'.symm
  go_wp2_with fail
  go_end0
  exact ⟨rfl, rfl⟩
theorem isV_b {a : Int} (h : isV a = true) : 32768 ≤ a ∧ a < 40960 := by unfold isV at h; simpa using h
theorem isO_b {a : Int} (h : isO a = true) : 65024 ≤ a ∧ a < 65184 := by unfold isO at h; simpa using h
theorem isR_b {a : Int} (h : isR a = true) : 65344 ≤ a ∧ a < 65356 := by unfold isR at h; simpa using h
theorem write_any (a x : Int) (W : World) (h : PxAt W b p) :
    Calls Try.prog 18 #[.pointer (some ⟨b, 0, none⟩), .int .i64 a, .int .i64 x] W fun e w' => e = .returned (.tuple #[]) ∧ PxAt w' b (p.wr a x) ∧ Fr b W w' := by
  unfold Pic.wr
  by_cases hl : p.locked a = true
  · rw [if_pos hl]
    exact (writeL_any a x hl W h).mono fun e w' ⟨h1, h2⟩ => ⟨h1, by rw [h2]; exact h, by rw [h2]; exact Fr.refl b W⟩
  · rw [if_neg hl]
    have hl : p.locked a = false := by simpa using hl
    by_cases hv : isV a = true
    · rw [if_pos hv]
      have := isV_b hv
      exact writeV_any (a - 32768).toNat (by omega) a x (by omega) hl W h
    · rw [if_neg hv]
      by_cases ho : isO a = true
      · rw [if_pos ho]
        have := isO_b ho
        exact writeO_any (a - 65024).toNat (by omega) a x (by omega) hl W h
      · rw [if_neg ho]
        by_cases hr : isR a = true
        · rw [if_pos hr]
          have := isR_b hr
          exact writeR_any (a - 65344).toNat (by omega) a x (by omega) W h (fun W hp => wregN_any _ (by omega) _ W hp)
        · rw [if_neg hr]
          exact (writeX_any a x hl (by simpa using hv) (by simpa using ho) (by simpa using hr) W h).mono fun e w' ⟨h1, h2⟩ => ⟨h1, by rw [h2]; exact h, by rw [h2]; exact Fr.refl b W⟩
theorem and120 : ∀ x : Int, 0 ≤ x → x ≤ 255 → bits .andNot .u8 (bits .and .u8 x 120) 120 = 0 ∧ 0 ≤ bits .and .u8 x 120 ∧ bits .and .u8 x 120 ≤ 255 := byteAll (by decide +kernel)
theorem Sane.setV (h : Sane p) (n : Nat) (x : Int) : Sane (p.setV n (cutB x)) :=
  ⟨h.inn.setV n _ (cutB_b x), h.c0, h.c9, h.c4, h.ly, h.st, h.dm, h.off, h.r0, h.rl, h.rm, h.ml, h.dz, h.d3, h.s3⟩
theorem Sane.setO (h : Sane p) (n : Nat) (x : Int) : Sane (p.setO n (cutB x)) :=
  ⟨h.inn.setO n _ (cutB_b x), h.c0, h.c9, h.c4, h.ly, h.st, h.dm, h.off, h.r0, h.rl, h.rm, h.ml, h.dz, h.d3, h.s3⟩
/-- a register that nothing else hangs on -/
theorem Sane.setR (h : Sane p) (n : Nat) (x : Int) (hx : 0 ≤ x ∧ x ≤ 255) (hn : n ≠ 4 ∧ n ≠ 6) (h1 : n = 1 → bits .andNot .u8 x 120 = 0) (h0 : n = 0 → (p.setR 0 x).has 128 = false → p.has 128 = false) : Sane (p.setR n x) := by
  have e4 : (p.setR n x).rg 4 = p.rg 4 := by show (if 4 = n then x else p.rg 4) = _; rw [if_neg (fun e => hn.1 e.symm)]
  have e6 : (p.setR n x).rg 6 = p.rg 6 := by show (if 6 = n then x else p.rg 6) = _; rw [if_neg (fun e => hn.2 e.symm)]
  have el : (p.setR n x).lines = p.lines := lines_of e4 rfl
  refine ⟨h.inn.setR n x hx, h.c0, h.c9, h.c4, by rw [e4]; exact h.ly, ?_, by rw [e6]; exact h.dm, fun o => ?_, h.r0, by rw [el]; exact h.rl, h.rm, by rw [e4]; exact h.ml, fun k hk hl => h.dz k hk (by rw [el] at hl; exact hl), h.d3, h.s3⟩
  · show bits .andNot .u8 (if 1 = n then x else p.rg 1) 120 = 0
    by_cases e : n = 1
    · rw [if_pos e.symm]; exact h1 e
    · rw [if_neg (fun a => e a.symm)]; exact h.st
  · rw [e4]
    refine h.off ?_
    by_cases e : n = 0
    · subst e
      exact h0 rfl o
    · have : (p.setR n x).has 128 = p.has 128 := by
        unfold Pic.has
        show (bits .and .u8 (if 0 = n then x else p.rg 0) 128 != 0) = _
        rw [if_neg (fun a => e a.symm)]
      rw [← this]
      exact o
theorem Sane.offed (h : Sane p) (x : Int) (hx : 0 ≤ x ∧ x ≤ 255) : Sane (p.off x) := by
  have i := (h.inn.setR 0 x hx).setR 4 0 (by decide)
  have el : (p.off x).lines = 0 := by
    unfold Pic.lines
    show (if 144 ≤ (0 : Int) then 0 else if 252 ≤ (0 : Int) then (0 : Int).toNat + 1 else (0 : Int).toNat) = 0
    decide
  have ez : ∀ k, k < 23040 → (p.off x).dr k = 0 := fun k hk => by
    show (if k < 23040 then (0 : Int) else _) = 0
    rw [if_pos hk]
  have es : ∀ k, k < 23040 → (p.off x).sh k = 0 := fun k hk => by
    show (if k < 23040 then (0 : Int) else _) = 0
    rw [if_pos hk]
  refine ⟨⟨i.vr, i.oa, i.rg⟩, show (0 : Int) ≤ 0 by decide, show (0 : Int) ≤ 452 by decide, show (0 : Int) % 4 = 0 by decide, show (0 : Int) ≤ 153 by decide, h.st, h.dm, fun _ => ⟨rfl, rfl, es⟩, show (0 : Int) ≤ 0 by decide, ?_, fun m => absurd (show (0 : Int) < 0 from m) (by decide), fun m => ?_, fun k hk _ => ez k hk, fun k hk => by rw [ez k hk]; decide, fun k hk => by rw [es k hk]; decide⟩
  · rw [el]
    show (0 : Int) ≤ ((0 : Nat) : Int)
    decide
  · have m2 : false = true := m
    cases m2
theorem Sane.wrL (h : Sane p) (x : Int) (hx : 0 ≤ x ∧ x ≤ 255) : Sane (p.wrL x) := by
  unfold Pic.wrL
  split
  · exact h.offed x hx
  · rename_i hc
    refine h.setR 0 x hx ⟨by decide, by decide⟩ (fun e => absurd e (by decide)) (fun _ o => ?_)
    cases on : p.has 128
    · rfl
    · exact absurd ⟨on, o⟩ hc
theorem Sane.wrR (h : Sane p) (n : Nat) (x : Int) (hx : 0 ≤ x ∧ x ≤ 255) : Sane (p.wrR n x) := by
  unfold Pic.wrR
  split
  · exact h.wrL x hx
  · rename_i n0
    split
    · have := and120 x hx.1 hx.2
      exact h.setR 1 _ this.2 ⟨by decide, by decide⟩ (fun _ => this.1) (fun e => absurd e (by decide))
    · rename_i n1
      split
      · exact h
      · rename_i n46
        exact h.setR n x hx ⟨fun e => n46 (Or.inl e), fun e => n46 (Or.inr e)⟩ (fun e => absurd e n1) (fun e => absurd e n0)
theorem Sane.wr (h : Sane p) (a x : Int) : Sane (p.wr a x) := by
  unfold Pic.wr
  split
  · exact h
  · split
    · exact h.setV _ x
    · split
      · exact h.setO _ x
      · split
        · exact h.wrR _ _ (cutB_b x)
        · exact h
theorem newPic_sane : Sane newPic := by
  have e4 : newPic.rg 4 = 0 := by decide
  have el : newPic.lines = 0 := by unfold Pic.lines; decide
  have i : newPic.In := by
    refine ⟨fun k => ?_, fun k => ?_, ?_⟩
    · exact (show (0 : Int) ≤ 0 ∧ (0 : Int) ≤ 255 by decide)
    · exact (show (0 : Int) ≤ 0 ∧ (0 : Int) ≤ 255 by decide)
    · have z : zeroPic.In := ⟨fun _ => (show (0 : Int) ≤ 0 ∧ (0 : Int) ≤ 255 by decide), fun _ => (show (0 : Int) ≤ 0 ∧ (0 : Int) ≤ 255 by decide), fun _ => (show (0 : Int) ≤ 0 ∧ (0 : Int) ≤ 255 by decide)⟩
      exact (((((((((((((z.setR 0 145 (by decide)).setR 1 0 (by decide)).setR 2 0 (by decide)).setR 3 0 (by decide)).setR 4 0 (by decide)).setR 5 0 (by decide)).setR 6 0 (by decide)).setR 7 252 (by decide)).setR 8 255 (by decide)).setR 9 255 (by decide)).setR 10 0 (by decide)).setR 11 0 (by decide)).rg)
  exact ⟨i, by decide, by decide, by decide, by decide, by decide, by decide, fun o => absurd o (by decide), by decide, by rw [el]; decide, fun m => absurd m (by decide), fun m => absurd m (by decide), fun k _ _ => rfl, fun k _ => (show (0 : Int) ≤ 0 ∧ (0 : Int) ≤ 3 by decide), fun k _ => (show (0 : Int) ≤ 0 ∧ (0 : Int) ≤ 3 by decide)⟩
end Go.Proofs.Ytmjfccdhjhkocaa
