/- A frame hangs on memory and registers alone. -/
import Derived.Test.YtnbhifbenfgeeaaPgE
namespace Go.Proofs.Ytnbhifbenfgeeaa
open Go.RowKit
set_option linter.unusedVariables false
variable {b : Nat} {p : Pic}
theorem found_congrG {p q : Pic} (hr : p.rg = q.rg) : ∀ j, (∀ i, i < j → p.spr i = q.spr i) → p.found j = q.found j := by
  intro j
  induction j with
  | zero => intro _; rfl
  | succ j ih =>
    intro h
    have hj := ih (fun i hi => h i (by omega))
    have hs := h j (by omega)
    have ho : p.onLine (q.spr j) = q.onLine (q.spr j) := by
      unfold Pic.onLine Pic.sprH Pic.has
      rw [hr]
    show (if (p.found j).length < 10 ∧ p.onLine (p.spr j) = true then p.found j ++ [p.spr j] else p.found j) = (if (q.found j).length < 10 ∧ q.onLine (q.spr j) = true then q.found j ++ [q.spr j] else q.found j)
    rw [hj, hs, ho]
theorem groundF_congrG {p q : Pic} (hv : p.vr = q.vr) (hr : p.rg = q.rg) (f : Nat → Int) : p.groundF f = q.groundF f := by
  funext k
  unfold Pic.groundF Pic.num Pic.lo Pic.hi Pic.tileN Pic.tileAt Pic.mapBy Pic.has
  rw [hv, hr]
def tickN (M : Nat) (p : Pic) : Nat → Pic
  | 0 => p
  | n + 1 => (tickN M p n).tickP (Pic.lineA M)
theorem Sane.ticks (h : Sane p) (M : Nat) : ∀ n, Sane (tickN M p n) := by
  intro n
  induction n with
  | zero => exact h
  | succ n ih => exact ih.tick M
theorem Tk.stepA {p0 q : Pic} {k : Nat} (h : Tk p0 k q) (on0 : p0.has 128 = true) (M : Nat) : Tk p0 (k + 1) (q.tickP (Pic.lineA M)) := by
  have on : q.has 128 = true := (h.has 128).trans on0
  unfold Pic.tickP
  rw [if_neg (by rw [on]; decide)]
  have hb := lnK_le k
  by_cases ht : atTurn (q.clk + 4)
  · rw [if_pos ht]
    unfold Pic.turnP
    by_cases e : q.clk + 4 = 456
    · rw [if_pos e]
      have ek : k % 114 = 113 := by have := h.clk; unfold ckK at this; omega
      have ec : ckK (k + 1) = 0 := by unfold ckK; omega
      unfold Pic.next
      have e4 : (q.setClk 456).rg 4 = (lnK k : Int) := h.ly
      rw [e4]
      by_cases e1 : (lnK k : Int) = 153
      · rw [if_pos e1]
        have el : lnK (k + 1) = 0 := by unfold lnK at *; omega
        exact ⟨h.vr, h.oa, fun j hj => by show (if j = 4 then 0 else q.rg j) = _; rw [if_neg hj]; exact h.rg j hj, by rw [el]; rfl, by rw [ec]; rfl⟩
      · rw [if_neg e1]
        have el : lnK (k + 1) = lnK k + 1 := by unfold lnK at *; omega
        have em : ((lnK k : Int) + 1) % 256 = (lnK (k + 1) : Int) := by omega
        rw [em]
        split
        · exact ⟨h.vr, h.oa, fun j hj => by show (if j = 4 then (lnK (k + 1) : Int) else q.rg j) = _; rw [if_neg hj]; exact h.rg j hj, rfl, by rw [ec]; rfl⟩
        · exact ⟨h.vr, h.oa, fun j hj => by show (if j = 4 then (lnK (k + 1) : Int) else q.rg j) = _; rw [if_neg hj]; exact h.rg j hj, rfl, by rw [ec]; rfl⟩
    · rw [if_neg e]
      have ek : k % 114 ≠ 113 := by have := h.clk; unfold ckK at this; omega
      have ec : q.clk + 4 = (ckK (k + 1) : Int) := by have := h.clk; unfold ckK at *; omega
      have el : lnK (k + 1) = lnK k := by unfold lnK; omega
      rw [ec]
      split
      · exact ⟨h.vr, h.oa, h.rg, by rw [el]; exact h.ly, rfl⟩
      · split
        · exact ⟨h.vr, h.oa, h.rg, by rw [el]; exact h.ly, rfl⟩
        · obtain ⟨a1, a2, a3, a4, _⟩ := lineA_keeps (q.setClk (ckK (k + 1) : Int)) M
          exact ⟨a1.trans h.vr, a2.trans h.oa, fun j hj => by rw [a3]; exact h.rg j hj, by rw [a3, el]; exact h.ly, a4⟩
  · rw [if_neg ht]
    have ek : k % 114 ≠ 113 := by have := h.clk; unfold atTurn at ht; unfold ckK at this; omega
    have ec : q.clk + 4 = (ckK (k + 1) : Int) := by have := h.clk; unfold ckK at *; omega
    have el : lnK (k + 1) = lnK k := by unfold lnK; omega
    rw [ec]
    exact ⟨h.vr, h.oa, h.rg, by rw [el]; exact h.ly, rfl⟩
theorem Tk.start (h4 : p.rg 4 = 0) (hc : p.clk = 0) : Tk p 0 p := ⟨rfl, rfl, fun _ _ => rfl, by rw [h4]; rfl, by rw [hc]; rfl⟩
theorem Tk.ticks (on : p.has 128 = true) (h4 : p.rg 4 = 0) (hc : p.clk = 0) (M : Nat) : ∀ n, Tk p n (tickN M p n) := by
  intro n
  induction n with
  | zero => exact Tk.start h4 hc
  | succ n ih => exact ih.stepA on M
/-- alike but for the frame that is shown -/
structure Alike (p q : Pic) : Prop where
  vr : p.vr = q.vr
  oa : p.oa = q.oa
  rg : p.rg = q.rg
  clk : p.clk = q.clk
  met : p.met = q.met
  rows : p.rows = q.rows
  dr : ∀ k, k < 23040 → p.dr k = q.dr k
theorem sprToA_congr {p q : Pic} (hv : p.vr = q.vr) (hr : p.rg = q.rg) (N : Nat → Int) (s : Spr) (st : Dn) : ∀ i, p.sprToA N s st i = q.sprToA N s st i := by
  intro i
  induction i with
  | zero => rfl
  | succ i ih =>
    show p.sprPtA N s (p.sprToA N s st i) i = q.sprPtA N s (q.sprToA N s st i) i
    rw [ih]
    unfold Pic.sprPtA Pic.sprA Pic.sprW Pic.sprH Pic.has Pic.sprC
    rw [hv, hr]
theorem sprAllA_congr {p q : Pic} (hv : p.vr = q.vr) (hr : p.rg = q.rg) (N : Nat → Int) : ∀ (l : List Spr) (st : Dn), p.sprAllA N l st = q.sprAllA N l st := by
  intro l
  induction l with
  | nil => intro st; rfl
  | cons s l ih =>
    intro st
    show p.sprAllA N l (p.sprToA N s st 8) = q.sprAllA N l (q.sprToA N s st 8)
    rw [ih, sprToA_congr hv hr]
theorem sorted_congr {p q : Pic} (ho : p.oa = q.oa) (hr : p.rg = q.rg) (M : Nat) : p.sorted M = q.sorted M := by
  unfold Pic.sorted
  rw [found_congrG hr M (fun i _ => by unfold Pic.spr; rw [ho])]
theorem windowG_congr {p q : Pic} (hv : p.vr = q.vr) (hr : p.rg = q.rg) (hw : p.rows = q.rows) (f : Nat → Int) : p.windowG f = q.windowG f := by
  funext k
  unfold Pic.windowG Pic.winO Pic.winC Pic.num Pic.lo Pic.hi Pic.tileN Pic.tileAt Pic.mapBy Pic.has
  rw [hv, hr, hw]
theorem ptsA_congr {p q : Pic} (hv : p.vr = q.vr) (ho : p.oa = q.oa) (hr : p.rg = q.rg) (hm : p.met = q.met) (hw : p.rows = q.rows) (M : Nat) : p.ptsA M = q.ptsA M := by
  have e1 : p.win = q.win := by unfold Pic.win Pic.has; rw [hr, hm]
  have e2 : p.has 2 = q.has 2 := by unfold Pic.has; rw [hr]
  have s1 : (p.setRows (p.rows + 1)).sorted M = (q.setRows (q.rows + 1)).sorted M := sorted_congr (p := p.setRows (p.rows + 1)) (q := q.setRows (q.rows + 1)) ho hr M
  unfold Pic.ptsA
  rw [e1, e2, s1, sorted_congr ho hr M, groundF_congrG hv hr, windowG_congr hv hr hw, hr]
  rw [sprAllA_congr hv hr, sprAllA_congr (p := p.setRows (p.rows + 1)) (q := q.setRows (q.rows + 1)) hv hr]
theorem Alike.line {p q : Pic} (h : Alike p q) (M : Nat) : Alike (p.lineA M) (q.lineA M) := by
  obtain ⟨a1, a2, a3, a4, a5, a6⟩ := lineA_keeps p M
  obtain ⟨b1, b2, b3, b4, b5, b6⟩ := lineA_keeps q M
  have e1 : p.win = q.win := by unfold Pic.win Pic.has; rw [h.rg, h.met]
  refine ⟨by rw [a1, b1, h.vr], by rw [a2, b2, h.oa], by rw [a3, b3, h.rg], by rw [a4, b4, h.clk], by rw [a5, b5, h.met], by rw [lineA_rows, lineA_rows, e1, h.rows], fun k hk => ?_⟩
  rw [lineA_dr, lineA_dr, ptsA_congr h.vr h.oa h.rg h.met h.rows M, h.rg, h.dr k hk]
theorem Alike.setClk {p q : Pic} (h : Alike p q) (c : Int) : Alike (p.setClk c) (q.setClk c) := ⟨h.vr, h.oa, h.rg, rfl, h.met, h.rows, h.dr⟩
theorem Alike.setR {p q : Pic} (h : Alike p q) (j : Nat) (x : Int) : Alike (p.setR j x) (q.setR j x) := ⟨h.vr, h.oa, by show (fun n => if n = j then x else p.rg n) = fun n => if n = j then x else q.rg n; rw [h.rg], h.clk, h.met, h.rows, h.dr⟩
theorem Alike.forget {p q : Pic} (h : Alike p q) : Alike p.forget q.forget := ⟨h.vr, h.oa, h.rg, h.clk, rfl, rfl, fun k hk => by show (if k < 23040 then (0 : Int) else _) = (if k < 23040 then (0 : Int) else _); rw [if_pos hk, if_pos hk]⟩
theorem Alike.next {p q : Pic} (h : Alike p q) : Alike p.next q.next := by
  unfold Pic.next
  rw [h.rg]
  split
  · exact (h.setClk 0).setR 4 0
  · split
    · have := ((h.setClk 0).setR 4 ((q.rg 4 + 1) % 256))
      exact Alike.forget ⟨this.vr, this.oa, this.rg, this.clk, this.met, this.rows, this.dr⟩
    · exact (h.setClk 0).setR 4 _
theorem Alike.tick {p q : Pic} (h : Alike p q) (M : Nat) : Alike (p.tickP (Pic.lineA M)) (q.tickP (Pic.lineA M)) := by
  have e1 : p.has 128 = q.has 128 := by unfold Pic.has; rw [h.rg]
  unfold Pic.tickP
  rw [e1, h.clk]
  split
  · exact h
  · split
    · unfold Pic.turnP
      rw [h.rg, h.met]
      split
      · exact (h.setClk 456).next
      · split
        · exact h.setClk _
        · split
          · exact ⟨h.vr, h.oa, h.rg, rfl, rfl, h.rows, h.dr⟩
          · exact (h.setClk _).line M
    · exact h.setClk _
theorem Alike.ticks {p q : Pic} (h : Alike p q) (M : Nat) : ∀ n, Alike (tickN M p n) (tickN M q n) := by
  intro n
  induction n with
  | zero => exact h
  | succ n ih => exact ih.tick M
/-- a picture at a frame's beginning -/
def cPic (V O R : Nat → Int) : Pic := ⟨V, O, R, 0, false, 0, fun _ => 0, fun _ => 0⟩
theorem Sane.begun (h : Sane p) (h4 : p.rg 4 = 0) (hc : p.clk = 0) : Alike p (cPic p.vr p.oa p.rg) := by
  have hm : p.met = false := by
    cases hm : p.met
    · rfl
    · have := (h.ml hm).2
      omega
  have hl : p.lines = 0 := by unfold Pic.lines; rw [h4, hc]; decide
  have hr : p.rows = 0 := by
    have := h.r0
    have := h.rl
    rw [hl] at this
    omega
  exact ⟨rfl, rfl, rfl, hc, hm, hr, fun k hk => h.dz k hk (by rw [hl]; omega)⟩
/-- the frame that memory and registers make -/
def frameF (M : Nat) (V O R : Nat → Int) (i : Nat) : Int := (tickN M (cPic V O R) 16415).dr i
theorem frame_last (h : Sane p) (on : p.has 128 = true) (h4 : p.rg 4 = 0) (hc : p.clk = 0) (M : Nat) {n : Nat} (hn : n = 16415) (i : Nat) (hi : i < 23040) : (tickN M p (n + 1)).sh i = (tickN M (cPic p.vr p.oa p.rg) n).dr i := by
  have t := Tk.ticks on h4 hc M n
  have al := (h.begun h4 hc).ticks M n
  show ((tickN M p n).tickP (Pic.lineA M)).sh i = _
  generalize tickN M p n = q at *
  have on2 : q.has 128 = true := (t.has 128).trans on
  have hc2 : q.clk = 452 := by rw [t.clk]; unfold ckK; omega
  have hly : q.rg 4 = 143 := by rw [t.ly]; unfold lnK; omega
  unfold Pic.tickP
  rw [if_neg (by rw [on2]; decide), if_pos (by rw [hc2]; exact Or.inr (Or.inr rfl))]
  unfold Pic.turnP
  rw [if_pos (by rw [hc2]; rfl)]
  unfold Pic.next
  have e4 : (q.setClk 456).rg 4 = 143 := hly
  rw [e4, if_neg (by decide), if_pos (by decide)]
  show (if i < 23040 then q.dr i else q.sh i) = _
  rw [if_pos hi]
  exact al.dr i hi
/-- a picture behind some ticks; all else as it was -/
structure Ts (M : Nat) (W0 : World) (b : Nat) (p : Pic) (n : Nat) (W : World) : Prop where
  px : PxAt W b (tickN M p n)
  fr : Fr b W0 W
theorem Ts.tick {M : Nat} (hM : M = 40) {W0 W : World} {n : Nat} (h : Sane p) (t : Ts M W0 b p n W) :
    Calls Try.prog 22 #[.pointer (some ⟨b, 0, none⟩)] W fun e w' => e = .returned (.int .i64 ((tickN M p n).tickA (Pic.lineA M))) ∧ Ts M W0 b p (n + 1) w' :=
  ((h.ticks M n).tickC hM W t.px).mono fun e w' ⟨h1, h2, h3⟩ => ⟨h1, h2, t.fr.trans h3⟩
set_option maxRecDepth 100000 in
set_option maxHeartbeats 1000000 in
theorem oneA_any {M : Nat} (hM : M = 40) {N : Nat} (hN : N = 16416) (h : Sane p) (on : p.has 128 = true) (h4 : p.rg 4 = 0) (hc : p.clk = 0) (W : World) (hp : PxAt W b p) : Calls Try.prog 28 #[.pointer (some ⟨b, 0, none⟩)] W fun e w' => (∃ g, e = .returned (.slice (some ⟨g, 0, none⟩) 23040 23040) ∧ W.heap.size ≤ g ∧ NmAt w' g 23040 (frameF M p.vr p.oa p.rg)) ∧ PxAt w' b (tickN M p N) ∧ Fr b W w' := by
  have H0 : Hid (Ts M W b p 0 W) := ⟨hp, Fr.refl b W⟩
  have HT : Hid (∀ n w, Ts M W b p n w → _) := fun n w (t : Ts M W b p n w) => t.tick hM h
  have HL : Hid (∀ i, i < 23040 → (tickN M p N).sh i = frameF M p.vr p.oa p.rg i) := fun i hi => by
    have := frame_last h on h4 hc M (n := N - 1) (by omega) i hi
    rw [show N - 1 + 1 = N by omega] at this
    unfold frameF
    rw [this, show N - 1 = 16415 by omega]
  have HN : Hid (N = 16416) := hN
  clear h on h4 hc hp hM hN
  generalize frameF M p.vr p.oa p.rg = F at *
  go_enter Try.func28, Try.ntmps28
  go_wp2_with fail
  go_loopw [3] (fun I wr => ∃ i : Nat, i ≤ 16416 ∧ I = .int .i64 i ∧ Hid (Ts M W b p i wr)) (fun I _ => 16416 - (intOf I).toNat)
  case atStart => exact ⟨0, by omega, rfl, H0⟩
  case round =>
    clear H0
    obtain ⟨i, hi, rfl, M0⟩ := hrel
    by_cases hlt : i < 16416
    · have d1 : decide ((i : Int) < 16416) = true := decide_eq_true (by omega)
      have e1 : (i : Int) < 16416 := by omega
      have HT1 : Hid _ := HT.out i wr M0.out
      clear HL HN
      go_wp2_with fail
      refine Calls.mono HT1.out ?_
      rintro e w4 ⟨rfl, h4⟩
      have H4 : Hid _ := h4
      clear h4 HT1 M0 HT
      go_wp2_with fail
      refine ⟨⟨i + 1, by omega, ?_, H4⟩, ?_⟩
      · first | rfl | (simp; done)
      · simp [intOf]
        omega
    · have d1 : decide ((i : Int) < 16416) = false := decide_eq_false (by omega)
      have M2 : Hid (Ts M W b p N wr) := by
        have e : N = i := by have := HN.out; omega
        show Ts M W b p N wr
        rw [e]
        exact M0.out
      have HF : Hid _ := frame_any wr M2.out.px
      clear M0 HT HN
      go_wp2_with fail
      refine Calls.mono HF.out ?_
      rintro e w5 ⟨rfl, h5, u5⟩
      have H5 : Hid _ := And.intro h5 u5
      clear h5 u5 HF
      go_wp2_with fail
      go_ret
      exact ⟨⟨_, rfl, M2.out.fr.size, H5.out.1.congr HL.out⟩, M2.out.px.up H5.out.2, M2.out.fr.trans (Fr.ofUp H5.out.2)⟩
end Go.Proofs.Ytnbhifbenfgeeaa
