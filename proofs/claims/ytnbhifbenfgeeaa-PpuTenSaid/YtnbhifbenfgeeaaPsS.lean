/- A frame whose lines have sprites, up to ten each, by memory and registers. -/
import Derived.Test.YtnbhifbenfgeeaaPsR
import Derived.Test.YtnbhifbenfgeeaaPsL
namespace Go.Proofs.Ytnbhifbenfgeeaa
open Go.RowKit
set_option linter.unusedVariables false
variable {b : Nat} {p : Pic}
/-- the picture as it stands at a line -/
def linePic (V O R : Nat → Int) (l : Nat) : Pic := ⟨V, O, fun j => if j = 4 then (l : Int) else regsTo R 0 j, 252, false, 0, fun _ => 0, fun _ => 0⟩
def Pic.pointsT (p : Pic) (M : Nat) : Nat → Int := (p.sprAll (p.groundF (fun _ => 0)) (p.sorted M) ⟨fun _ => false, fun k => colourI (p.rg 7) (p.groundF (fun _ => 0) k)⟩).D
theorem found_congr {p q : Pic} (hr : p.rg = q.rg) : ∀ j, (∀ i, i < j → p.spr i = q.spr i) → p.found j = q.found j := by
  intro j
  induction j with
  | zero => intro _; rfl
  | succ j ih =>
    intro h
    have hj := ih (fun i hi => h i (by omega))
    have hs := h j (by omega)
    have ho : p.onLine (q.spr j) = q.onLine (q.spr j) := by
      unfold Pic.onLine Pic.sprH Pic.has
      rw [hr]
    show (if (p.found j).length < 10 ∧ p.onLine (p.spr j) = true then p.found j ++ [p.spr j] else p.found j) = (if (q.found j).length < 10 ∧ q.onLine (q.spr j) = true then q.found j ++ [q.spr j] else q.found j)
    rw [hj, hs, ho]
theorem sprTo_congr {p q : Pic} (hv : p.vr = q.vr) (hr : p.rg = q.rg) (N : Nat → Int) (s : Spr) (st : Dn) : ∀ i, p.sprTo N s st i = q.sprTo N s st i := by
  intro i
  induction i with
  | zero => rfl
  | succ i ih =>
    show p.sprPt N s (p.sprTo N s st i) i = q.sprPt N s (q.sprTo N s st i) i
    rw [ih]
    unfold Pic.sprPt Pic.sprR Pic.sprC
    rw [hv, hr]
theorem sprAll_congr {p q : Pic} (hv : p.vr = q.vr) (hr : p.rg = q.rg) (N : Nat → Int) : ∀ (l : List Spr) (st : Dn), p.sprAll N l st = q.sprAll N l st := by
  intro l
  induction l with
  | nil => intro st; rfl
  | cons s l ih =>
    intro st
    show p.sprAll N l (p.sprTo N s st 8) = q.sprAll N l (q.sprTo N s st 8)
    rw [ih, sprTo_congr hv hr]
theorem groundF_congr {p q : Pic} (hv : p.vr = q.vr) (hr : p.rg = q.rg) (f : Nat → Int) : p.groundF f = q.groundF f := by
  funext k
  unfold Pic.groundF Pic.num Pic.lo Pic.hi Pic.tileN Pic.tileAt Pic.mapBy Pic.has
  rw [hv, hr]
theorem pointsT_congr {p q : Pic} {M : Nat} (hv : p.vr = q.vr) (hr : p.rg = q.rg) (hf : p.found M = q.found M) : p.pointsT M = q.pointsT M := by
  unfold Pic.pointsT Pic.sorted
  rw [sprAll_congr hv hr, groundF_congr hv hr, hf, hr]
theorem Tk.line {q z : Pic} {V O R : Nat → Int} {n : Nat} (h : SoP q V O R) (t : Tk q n z) (c : Int) : (z.setClk c).vr = (linePic V O R (lnK n)).vr ∧ (z.setClk c).oa = (linePic V O R (lnK n)).oa ∧ (z.setClk c).rg = (linePic V O R (lnK n)).rg := by
  refine ⟨t.vr.trans h.vr, t.oa.trans h.oa, ?_⟩
  funext j
  show z.rg j = if j = 4 then (lnK n : Int) else regsTo R 0 j
  by_cases e : j = 4
  · subst e
    rw [if_pos rfl]
    exact t.ly
  · rw [if_neg e, t.rg j e, h.rg]
/-- the points of a frame with low sprites and no window -/
def ptT (M : Nat) (V O R : Nat → Int) (l x : Nat) : Int := (linePic V O R l).pointsT M x
theorem linT {M : Nat} (hM : M = 40) {V O R : Nat → Int} (b : Nat) (q : Pic) (h : SoP q V O R) (h128 : q.has 128 = true) (h2 : q.has 2 = true) (h4 : q.has 4 = false) (h32 : q.has 32 = false) : Lin b q (fun z => z.lineT M) (ptT M V O R) := by
  refine ⟨h128, ?_, fun z => ⟨rfl, rfl, rfl, rfl⟩, ?_⟩
  · intro n z t hl
    have i := t.inn h.inn
    refine drawLineT_any (p := z.setClk 252) ⟨i.vr, i.oa, i.rg⟩ hl ?_ ((t.has 2).trans h2) ((t.has 4).trans h4) hM
    show (z.has 32 && z.met && decide (z.rg 11 ≤ 166)) = false
    rw [t.has 32, h32]
    rfl
  · intro n z t hn l x hx
    have hln : lnK n = n / 114 := by unfold lnK; omega
    have hly : z.rg 4 = (lnK n : Int) := t.ly
    obtain ⟨e1, e2, e3⟩ := Tk.line h t 252
    have hp : (z.setClk 252).pointsT M = (linePic V O R (lnK n)).pointsT M := pointsT_congr e1 e3 (found_congr e3 M (fun i _ => by unfold Pic.spr; rw [e2]))
    show (if 160 * (z.rg 4).toNat ≤ 160 * l + x ∧ 160 * l + x < 160 * (z.rg 4).toNat + 160 then (z.setClk 252).pointsT M (160 * l + x - 160 * (z.rg 4).toNat) else z.dr (160 * l + x)) = _
    rw [hly]
    by_cases el : l = lnK n
    · rw [if_pos el, if_pos (by omega)]
      have ex : 160 * l + x - 160 * ((lnK n : Nat) : Int).toNat = x := by omega
      rw [ex, hp, el]
      rfl
    · rw [if_neg el, if_neg (by omega)]
/-- none on the line -/
theorem found_none (q : Pic) : ∀ j, (∀ i, i < j → q.onLine (q.spr i) = false) → q.found j = [] := by
  intro j
  induction j with
  | zero => intro _; rfl
  | succ j ih =>
    intro h
    show (if (q.found j).length < 10 ∧ q.onLine (q.spr j) = true then q.found j ++ [q.spr j] else q.found j) = _
    rw [if_neg (fun a => by have := h j (by omega); rw [this] at a; cases a.2)]
    exact ih (fun i hi => h i (by omega))
theorem found_all (q : Pic) : ∀ j, j ≤ 10 → (∀ i, i < j → q.onLine (q.spr i) = true) → (q.found j).length = j := by
  intro j
  induction j with
  | zero => intro _ _; rfl
  | succ j ih =>
    intro hj h
    have := ih (by omega) (fun i hi => h i (by omega))
    show (if (q.found j).length < 10 ∧ q.onLine (q.spr j) = true then q.found j ++ [q.spr j] else q.found j).length = _
    rw [if_pos ⟨by omega, h j (by omega)⟩, List.length_append, this]
    rfl
/-- two tables of sprites of one row: whatever stands behind ten is not there -/
theorem ten_same {M : Nat} (hM : M = 40) {V R O O' : Nat → Int} {r : Int} (h8 : ∀ l, (linePic V O R l).sprH = 8) (same : ∀ k, k < 40 → O k = O' k) (hr : ∀ j, j < 10 → O (4 * j) = r)
    (hO : ∀ j, 10 ≤ j → j < 40 → O (4 * j) = r ∨ O (4 * j) = 0) (hO' : ∀ j, 10 ≤ j → j < 40 → O' (4 * j) = r ∨ O' (4 * j) = 0) (l x : Nat) : ptT M V O R l x = ptT M V O' R l x := by
  unfold ptT
  have key : (linePic V O R l).found M = (linePic V O' R l).found M := by
    have sp : ∀ i, i < 10 → (linePic V O R l).spr i = (linePic V O' R l).spr i := fun i hi => by
      show (⟨O (4 * i), O (4 * i + 1), O (4 * i + 2), O (4 * i + 3)⟩ : Spr) = ⟨O' (4 * i), O' (4 * i + 1), O' (4 * i + 2), O' (4 * i + 3)⟩
      rw [same _ (by omega), same _ (by omega), same _ (by omega), same _ (by omega)]
    have on : ∀ (Q : Nat → Int) (j : Nat), (linePic V Q R l).onLine ((linePic V Q R l).spr j) = (decide (0 ≤ (l : Int) + 16 - Q (4 * j)) && decide ((l : Int) + 16 - Q (4 * j) < 8)) := fun Q j => by
      have : (linePic V Q R l).sprH = 8 := h8 l
      unfold Pic.onLine
      rw [this]
      rfl
    by_cases hl : 0 ≤ (l : Int) + 16 - r ∧ (l : Int) + 16 - r < 8
    · obtain ⟨T, hT⟩ : ∃ T, T = 10 := ⟨_, rfl⟩
      have f : ∀ Q : Nat → Int, (∀ j, j < 10 → Q (4 * j) = r) → (linePic V Q R l).found M = (linePic V Q R l).found T := fun Q hQ => by
        have hf := found_all (linePic V Q R l) T (by omega) (fun i hi => by rw [on, hQ i (by omega), decide_eq_true hl.1, decide_eq_true hl.2]; rfl)
        have := Pic.found_full (linePic V Q R l) T (hf.trans hT) (M - T)
        rw [show T + (M - T) = M by omega] at this
        exact this
      rw [f O hr, f O' (fun j hj => (same _ (by omega)).symm.trans (hr j hj))]
      exact found_congr (p := linePic V O R l) (q := linePic V O' R l) rfl T (fun i hi => sp i (by omega))
    · have f : ∀ Q : Nat → Int, (∀ j, j < 40 → Q (4 * j) = r ∨ Q (4 * j) = 0) → (linePic V Q R l).found M = [] := fun Q hQ => by
        refine found_none _ M (fun i hi => ?_)
        rw [on]
        rcases hQ i (by omega) with e | e
        · rw [e]
          by_cases a : 0 ≤ (l : Int) + 16 - r
          · rw [decide_eq_false (show ¬ (l : Int) + 16 - r < 8 from fun c => hl ⟨a, c⟩), Bool.and_false]
          · rw [decide_eq_false a, Bool.false_and]
        · rw [e, decide_eq_false (show ¬ (l : Int) + 16 - 0 < 8 by omega), Bool.and_false]
      rw [f O (fun j hj => if h : j < 10 then Or.inl (hr j h) else hO j (by omega) hj), f O' (fun j hj => if h : j < 10 then Or.inl ((same _ (by omega)).symm.trans (hr j h)) else hO' j (by omega) hj)]
  have := pointsT_congr (M := M) (p := linePic V O R l) (q := linePic V O' R l) rfl rfl key
  rw [this]
end Go.Proofs.Ytnbhifbenfgeeaa
