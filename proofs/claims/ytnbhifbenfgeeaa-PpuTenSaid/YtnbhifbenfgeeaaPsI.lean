/- One sprite alone: its points. -/
import Derived.Test.YtnbhifbenfgeeaaPsH
namespace Go.Proofs.Ytnbhifbenfgeeaa
open Go.RowKit
set_option linter.unusedVariables false
variable {b : Nat} {p : Pic}
/-- the registers of a scene with sprites alone -/
def loneR (i : Nat) : Int := if i = 0 then 130 else if i = 8 then 228 else if i = 9 then 27 else 0
theorem loneR_i64 (i : Nat) : I64 (loneR i) := by
  unfold loneR I64
  split
  · decide
  · split
    · decide
    · split <;> decide
def oneF (r c k : Int) (i : Nat) : Int := if i = 0 then r else if i = 1 then c else if i = 2 then 1 else k
def sprV (r k : Int) (l : Nat) : Nat := (if bits .and .u8 k 64 = 0 then (l : Int) + 16 - r else 7 - ((l : Int) + 16 - r)).toNat
def sprB (k h : Int) : Int := if bits .and .u8 k 32 = 0 then 7 - h else h
def sprN (T : Nat → Int) (r c k : Int) (l : Nat) (h : Int) : Int := numberI (T (2 * sprV r k l)) (T (2 * sprV r k l + 1)) (sprB k h)
def sprQ (k : Int) : Int := if bits .and .u8 k 16 = 0 then 228 else 27
/-- the point x of the line l where one sprite is alone -/
def sprPoint (T : Nat → Int) (r c k : Int) (l x : Nat) : Int :=
  if (0 ≤ (l : Int) + 16 - r ∧ (l : Int) + 16 - r < 8) ∧ 0 ≤ (x : Int) + 8 - c ∧ (x : Int) + 8 - c < 8 ∧ sprN T r c k l ((x : Int) + 8 - c) ≠ 0 then colourI (sprQ k) (sprN T r c k l ((x : Int) + 8 - c)) else 0
theorem found_one (q : Pic) (h : ∀ j, 1 ≤ j → q.oa (4 * j) = 0) (hH : q.sprH = 8) (h4 : 0 ≤ q.rg 4) : ∀ j, q.found (j + 1) = q.found 1 := by
  intro j
  induction j with
  | zero => rfl
  | succ j ih =>
    show (if (q.found (j + 1)).length < 10 ∧ q.onLine (q.spr (j + 1)) = true then q.found (j + 1) ++ [q.spr (j + 1)] else q.found (j + 1)) = _
    rw [if_neg ?_]
    · exact ih
    · intro hh
      have := hh.2
      unfold Pic.onLine Pic.spr at this
      rw [h (j + 1) (by omega), hH] at this
      simp at this
      omega
theorem found_1 (q : Pic) : q.found 1 = if q.onLine (q.spr 0) = true then [q.spr 0] else [] := by
  show (if ([] : List Spr).length < 10 ∧ q.onLine (q.spr 0) = true then [] ++ [q.spr 0] else []) = _
  by_cases h : q.onLine (q.spr 0) = true
  · rw [if_pos h, if_pos ⟨by decide, h⟩]
    rfl
  · rw [if_neg h, if_neg (fun a => h a.2)]
def Pic.sprM (q : Pic) (s : Spr) (h : Int) : Int := numberI (q.vr ((s.tile * 16).toNat + 2 * q.sprR s)) (q.vr ((s.tile * 16).toNat + 2 * q.sprR s + 1)) (s.bit h)
theorem sprTo_D (q : Pic) (N : Nat → Int) (s : Spr) (st : Dn) (hN : ∀ k, N k = 0) (hT : ∀ k, st.T k = false) : ∀ i : Nat, (∀ x : Nat, (q.sprTo N s st i).T x = true → (x : Int) + 8 - s.col < i) ∧ ∀ x : Nat, x < 160 → (q.sprTo N s st i).D x = if 0 ≤ (x : Int) + 8 - s.col ∧ (x : Int) + 8 - s.col < i ∧ q.sprM s ((x : Int) + 8 - s.col) ≠ 0 then colourI (q.sprC s) (q.sprM s ((x : Int) + 8 - s.col)) else st.D x := by
  intro i
  induction i with
  | zero =>
    refine ⟨fun x hx => ?_, fun x hx => ?_⟩
    · have : st.T x = true := hx
      rw [hT x] at this
      cases this
    · rw [if_neg (by omega)]
      rfl
  | succ i ih =>
    obtain ⟨i1, i2⟩ := ih
    have e : q.sprTo N s st (i + 1) = (if s.col - 8 + (i : Int) < 0 ∨ 160 ≤ s.col - 8 + (i : Int) ∨ q.sprM s (i : Int) = 0 ∨ (q.sprTo N s st i).T (s.col - 8 + (i : Int)).toNat = true then q.sprTo N s st i
      else ⟨fun k => if k = (s.col - 8 + (i : Int)).toNat then true else (q.sprTo N s st i).T k, if bits .and .u8 s.flg 128 = 0 ∨ N (s.col - 8 + (i : Int)).toNat = 0 then (fun k => if k = (s.col - 8 + (i : Int)).toNat then colourI (q.sprC s) (q.sprM s (i : Int)) else (q.sprTo N s st i).D k) else (q.sprTo N s st i).D⟩) := rfl
    rw [e]
    by_cases h : s.col - 8 + (i : Int) < 0 ∨ 160 ≤ s.col - 8 + (i : Int) ∨ q.sprM s (i : Int) = 0 ∨ (q.sprTo N s st i).T (s.col - 8 + (i : Int)).toNat = true
    · rw [if_pos h]
      refine ⟨fun x hx => by have := i1 x hx; push_cast; omega, fun x hx => ?_⟩
      rw [i2 x hx]
      by_cases ex : (x : Int) + 8 - s.col = (i : Int)
      · have hz : q.sprM s (i : Int) = 0 := by
          rcases h with h | h | h | h
          · omega
          · omega
          · exact h
          · have := i1 _ h
            omega
        rw [ex, if_neg (by omega), if_neg (fun a => a.2.2 hz)]
      · have hc : (0 ≤ (x : Int) + 8 - s.col ∧ (x : Int) + 8 - s.col < ((i + 1 : Nat) : Int) ∧ q.sprM s ((x : Int) + 8 - s.col) ≠ 0) ↔ (0 ≤ (x : Int) + 8 - s.col ∧ (x : Int) + 8 - s.col < (i : Int) ∧ q.sprM s ((x : Int) + 8 - s.col) ≠ 0) := ⟨fun a => ⟨a.1, by omega, a.2.2⟩, fun a => ⟨a.1, by omega, a.2.2⟩⟩
        by_cases a : (0 ≤ (x : Int) + 8 - s.col ∧ (x : Int) + 8 - s.col < (i : Int) ∧ q.sprM s ((x : Int) + 8 - s.col) ≠ 0)
        · rw [if_pos a, if_pos (hc.2 a)]
        · rw [if_neg a, if_neg (fun z => a (hc.1 z))]
    · rw [if_neg h]
      have n1 : 0 ≤ s.col - 8 + (i : Int) := by by_cases a : s.col - 8 + (i : Int) < 0; exact absurd (Or.inl a) h; omega
      have n3 : q.sprM s (i : Int) ≠ 0 := fun a => h (Or.inr (Or.inr (Or.inl a)))
      rw [if_pos (Or.inr (hN _))]
      refine ⟨fun x hx => ?_, fun x hx => ?_⟩
      · have hx' : (if x = (s.col - 8 + (i : Int)).toNat then true else (q.sprTo N s st i).T x) = true := hx
        by_cases ex : x = (s.col - 8 + (i : Int)).toNat
        · omega
        · rw [if_neg ex] at hx'
          have := i1 x hx'
          push_cast
          omega
      · show (if x = (s.col - 8 + (i : Int)).toNat then colourI (q.sprC s) (q.sprM s (i : Int)) else (q.sprTo N s st i).D x) = _
        by_cases ex : x = (s.col - 8 + (i : Int)).toNat
        · have ee : (x : Int) + 8 - s.col = (i : Int) := by omega
          rw [if_pos ex, ee, if_pos ⟨by omega, by omega, n3⟩]
        · rw [if_neg ex, i2 x hx]
          have hc : (0 ≤ (x : Int) + 8 - s.col ∧ (x : Int) + 8 - s.col < ((i + 1 : Nat) : Int) ∧ q.sprM s ((x : Int) + 8 - s.col) ≠ 0) ↔ (0 ≤ (x : Int) + 8 - s.col ∧ (x : Int) + 8 - s.col < (i : Int) ∧ q.sprM s ((x : Int) + 8 - s.col) ≠ 0) := ⟨fun a => ⟨a.1, by omega, a.2.2⟩, fun a => ⟨a.1, by omega, a.2.2⟩⟩
          by_cases a : (0 ≤ (x : Int) + 8 - s.col ∧ (x : Int) + 8 - s.col < (i : Int) ∧ q.sprM s ((x : Int) + 8 - s.col) ≠ 0)
          · rw [if_pos a, if_pos (hc.2 a)]
          · rw [if_neg a, if_neg (fun z => a (hc.1 z))]
/-- memory that holds one tile -/
theorem putB_tile (V : Nat → Int) (P : Pce) (ha : P.at' = 16) (m : Nat) (hm : m < 16) : ∀ n, n ≤ 16 → putB V P n (16 + m) = if m < n then P.f m else V (16 + m) := by
  intro n
  induction n with
  | zero => intro _; rw [if_neg (by omega)]; rfl
  | succ n ih =>
    intro hn
    have es : spotI P.at' n = 32768 + (16 + (n : Int)) := by
      unfold spotI
      rw [ha, show pickI 16 8192 = 16 by decide]
      have : wrap64 (16 + (n : Int)) = 16 + (n : Int) := by unfold wrap64; omega
      rw [this, Int.tmod_eq_emod_of_nonneg (by omega), Int.emod_eq_of_lt (by omega) (by omega)]
    show (if 32768 + ((16 + m : Nat) : Int) = spotI P.at' n then P.f n else putB V P n (16 + m)) = _
    rw [es]
    by_cases e : m = n
    · subst e
      rw [if_pos (by push_cast; rfl), if_pos (by omega)]
    · rw [if_neg (by omega), ih (by omega)]
      by_cases e2 : m < n
      · rw [if_pos e2, if_pos (by omega)]
      · rw [if_neg e2, if_neg (by omega)]
/-- the scene of one sprite is drawn so -/
theorem lone_lin {M : Nat} (hM : M = 40) {V T : Nat → Int} {r c k : Int} (hr : 0 ≤ r ∧ r ≤ 255) (hV : ∀ m, m < 16 → V (16 + m) = T m) (b : Nat) (q : Pic) (h : SoP q V (oamTo (oneF r c k) 4 160) loneR) : Lin b q (fun z => z.lineS M) (sprPoint T r c k) := by
  have hrg : ∀ j, q.rg j = regsTo loneR 0 j := fun j => by rw [h.rg]
  have e0 : q.rg 0 = 130 := (hrg 0).trans (by decide)
  have e7 : q.rg 7 = 0 := (hrg 7).trans (by decide)
  have e8 : q.rg 8 = 228 := (hrg 8).trans (by decide)
  have e9 : q.rg 9 = 27 := (hrg 9).trans (by decide)
  have h128 : q.has 128 = true := by unfold Pic.has; rw [e0]; decide
  have h2 : q.has 2 = true := by unfold Pic.has; rw [e0]; decide
  have h4 : q.has 4 = false := by unfold Pic.has; rw [e0]; decide
  have h1 : q.has 1 = false := by unfold Pic.has; rw [e0]; decide
  have h32 : q.has 32 = false := by unfold Pic.has; rw [e0]; decide
  have hso : ∀ n z, Tk q n z → z.spr 0 = ⟨r, c, 1, k⟩ := fun n z t => by
    unfold Pic.spr
    rw [t.oa, h.oa]
    rfl
  have hoz : ∀ n z, Tk q n z → ∀ j, 1 ≤ j → z.oa (4 * j) = 0 := fun n z t j hj => by
    rw [t.oa, h.oa]
    unfold oamTo
    rw [if_neg (by omega)]
  have hH : ∀ n z, Tk q n z → z.sprH = 8 := fun n z t => by
    unfold Pic.sprH
    rw [t.has 4, h4]
    rfl
  have hF : ∀ n z cc, Tk q n z → (z.setClk cc).found M = if z.onLine (z.spr 0) = true then [z.spr 0] else [] := fun n z cc t => by
    have ht : Tk q n { z with clk := z.clk } := t
    have := found_one (z.setClk cc) (hoz n z t) (hH n z t) (by show 0 ≤ z.rg 4; rw [t.ly]; omega) 39
    rw [hM]
    exact this.trans (found_1 (z.setClk cc))
  refine ⟨h128, ?_, fun z => ⟨rfl, rfl, rfl, rfl⟩, ?_⟩
  · intro n z t hl
    have i := t.inn h.inn
    refine drawLineS_any (p := z.setClk 252) ⟨i.vr, i.oa, i.rg⟩ hl ?_ ((t.has 2).trans h2) ((t.has 4).trans h4) hM ?_
    · show (z.has 32 && z.met && decide (z.rg 11 ≤ 166)) = false
      rw [t.has 32, h32]
      rfl
    · rw [hF n z 252 t]
      split
      · exact Nat.le_refl 1
      · exact Nat.zero_le 1
  · intro n z t hn l x hx
    have hf := hF n z 252 t
    have hln : lnK n = n / 114 := by unfold lnK; omega
    have hly : z.rg 4 = (lnK n : Int) := t.ly
    have hG : ∀ j, (z.setClk 252).groundF (fun _ => 0) j = 0 := fun j => by
      show (if z.has 1 = true then _ else (0 : Int)) = 0
      rw [t.has 1, h1, if_neg (by decide)]
    have h7 : z.rg 7 = 0 := (t.rg 7 (by decide)).trans e7
    show (if 160 * (z.rg 4).toNat ≤ 160 * l + x ∧ 160 * l + x < 160 * (z.rg 4).toNat + 160 then ((z.setClk 252).sprAll ((z.setClk 252).groundF (fun _ => 0)) ((z.setClk 252).found M) ⟨fun _ => false, fun j => colourI (z.rg 7) ((z.setClk 252).groundF (fun _ => 0) j)⟩).D (160 * l + x - 160 * (z.rg 4).toNat) else z.dr (160 * l + x)) = _
    rw [hly]
    by_cases el : l = lnK n
    · rw [if_pos el, if_pos (by omega)]
      have ex : 160 * l + x - 160 * ((lnK n : Nat) : Int).toNat = x := by omega
      have hd0 : ∀ j, colourI (z.rg 7) ((z.setClk 252).groundF (fun _ => 0) j) = 0 := fun j => by
        rw [h7, hG]
        decide
      rw [ex, hf]
      generalize hgg : (z.setClk 252).groundF (fun _ => 0) = G at *
      have hon : z.onLine (z.spr 0) = (decide (0 ≤ (l : Int) + 16 - r) && decide ((l : Int) + 16 - r < 8)) := by
        unfold Pic.onLine
        rw [hso n z t, hH n z t, hly, ← el]
      by_cases ho : z.onLine (z.spr 0) = true
      · rw [if_pos ho]
        have ho2 : 0 ≤ (l : Int) + 16 - r ∧ (l : Int) + 16 - r < 8 := by
          rw [hon] at ho
          simpa using ho
        show ((z.setClk 252).sprTo G (z.spr 0) ⟨fun _ => false, fun j => colourI (z.rg 7) (G j)⟩ 8).D x = _
        rw [(sprTo_D (z.setClk 252) G (z.spr 0) ⟨fun _ => false, fun j => colourI (z.rg 7) (G j)⟩ hG (fun _ => rfl) 8).2 x hx, hso n z t]
        have eR : (z.setClk 252).sprR ⟨r, c, 1, k⟩ = sprV r k l := by
          show (if bits .and .u8 k 64 = 0 then z.rg 4 + 16 - r else 7 - (z.rg 4 + 16 - r)).toNat = _
          rw [hly, ← el]
          rfl
        have bV : sprV r k l < 8 := by unfold sprV; split <;> omega
        have eM : ∀ hh, (z.setClk 252).sprM ⟨r, c, 1, k⟩ hh = sprN T r c k l hh := fun hh => by
          unfold Pic.sprM sprN
          rw [eR]
          have ev : (z.setClk 252).vr = V := t.vr.trans h.vr
          rw [ev]
          have e1 : V (((⟨r, c, 1, k⟩ : Spr).tile * 16).toNat + 2 * sprV r k l) = T (2 * sprV r k l) := hV (2 * sprV r k l) (by omega)
          have e2 : V (((⟨r, c, 1, k⟩ : Spr).tile * 16).toNat + 2 * sprV r k l + 1) = T (2 * sprV r k l + 1) := hV (2 * sprV r k l + 1) (by omega)
          rw [e1, e2]
          rfl
        have eC : (z.setClk 252).sprC ⟨r, c, 1, k⟩ = sprQ k := by
          show (if bits .and .u8 k 16 = 0 then z.rg 8 else z.rg 9) = _
          rw [t.rg 8 (by decide), t.rg 9 (by decide), e8, e9]
          rfl
        rw [eC, eM]
        show (if 0 ≤ (x : Int) + 8 - c ∧ (x : Int) + 8 - c < ((8 : Nat) : Int) ∧ sprN T r c k l ((x : Int) + 8 - c) ≠ 0 then _ else colourI (z.rg 7) (G x)) = _
        rw [hd0 x]
        unfold sprPoint
        by_cases hc : 0 ≤ (x : Int) + 8 - c ∧ (x : Int) + 8 - c < 8 ∧ sprN T r c k l ((x : Int) + 8 - c) ≠ 0
        · rw [if_pos ⟨hc.1, by omega, hc.2.2⟩, if_pos ⟨ho2, hc⟩]
        · rw [if_neg (fun a => hc ⟨a.1, by omega, a.2.2⟩), if_neg (fun a => hc a.2)]
      · rw [if_neg ho]
        show colourI (z.rg 7) (G x) = _
        rw [hd0 x]
        unfold sprPoint
        rw [if_neg ?_]
        intro a
        apply ho
        rw [hon]
        simpa using a.1
    · rw [if_neg el, if_neg (by omega)]
end Go.Proofs.Ytnbhifbenfgeeaa
