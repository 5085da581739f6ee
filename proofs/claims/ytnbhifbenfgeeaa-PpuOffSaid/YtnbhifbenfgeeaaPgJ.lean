/- Ticks keep memory and registers; memory that is wiped. -/
import Derived.Test.YtnbhifbenfgeeaaPgI
namespace Go.Proofs.Ytnbhifbenfgeeaa
open Go.RowKit
set_option linter.unusedVariables false
variable {b : Nat} {p : Pic}
/-- the same memory and registers, but for LY -/
structure Kp (p q : Pic) : Prop where
  vr : q.vr = p.vr
  oa : q.oa = p.oa
  rg : ∀ j, j ≠ 4 → q.rg j = p.rg j
theorem Kp.refl (p : Pic) : Kp p p := ⟨rfl, rfl, fun _ _ => rfl⟩
theorem Kp.trans {p q r : Pic} (h : Kp p q) (k : Kp q r) : Kp p r := ⟨k.vr.trans h.vr, k.oa.trans h.oa, fun j hj => (k.rg j hj).trans (h.rg j hj)⟩
theorem Kp.has {p q : Pic} (h : Kp p q) (m : Int) : q.has m = p.has m := by unfold Pic.has; rw [h.rg 0 (by decide)]
theorem Kp.next (p : Pic) : Kp p p.next := by
  unfold Pic.next
  split
  · exact ⟨rfl, rfl, fun j hj => by show (if j = 4 then _ else p.rg j) = _; rw [if_neg hj]⟩
  · split
    · exact ⟨rfl, rfl, fun j hj => by show (if j = 4 then _ else p.rg j) = _; rw [if_neg hj]⟩
    · exact ⟨rfl, rfl, fun j hj => by show (if j = 4 then _ else p.rg j) = _; rw [if_neg hj]⟩
theorem Kp.tick (p : Pic) (M : Nat) : Kp p (p.tickP (Pic.lineA M)) := by
  unfold Pic.tickP
  split
  · exact Kp.refl p
  · split
    · unfold Pic.turnP
      split
      · have := Kp.next (p.setClk 456)
        exact ⟨this.vr, this.oa, this.rg⟩
      · split
        · exact ⟨rfl, rfl, fun _ _ => rfl⟩
        · split
          · exact ⟨rfl, rfl, fun _ _ => rfl⟩
          · obtain ⟨a1, a2, a3, _⟩ := lineA_keeps (p.setClk (p.clk + 4)) M
            exact ⟨a1, a2, fun j _ => by rw [a3]; rfl⟩
    · exact ⟨rfl, rfl, fun _ _ => rfl⟩
/-- a picture that has gone on from p0 -/
structure Lp (W0 : World) (b : Nat) (p0 : Pic) (W : World) : Prop where
  at' : ∃ q, PxAt W b q ∧ Sane q ∧ Kp p0 q
  fr : Fr b W0 W
theorem Lp.tick {W0 W : World} {p0 : Pic} {M : Nat} (hM : M = 40) (h : Lp W0 b p0 W) :
    Calls Try.prog 22 #[.pointer (some ⟨b, 0, none⟩)] W fun e w' => (∃ v, e = .returned (.int .i64 v)) ∧ Lp W0 b p0 w' := by
  obtain ⟨q, h1, h2, h3⟩ := h.at'
  exact (h2.tickC hM W h1).mono fun e w' ⟨a1, a2, a3⟩ => ⟨⟨_, a1⟩, ⟨_, a2, h2.tick M, h3.trans (Kp.tick q M)⟩, h.fr.trans a3⟩
theorem putB_far (V : Nat → Int) (P : Pce) (j : Nat) (hj : 8192 ≤ j) : ∀ k, putB V P k j = V j := by
  intro k
  induction k with
  | zero => rfl
  | succ k ih =>
    show (if 32768 + (j : Int) = spotI P.at' k then P.f k else putB V P k j) = V j
    have := spotI_hi P.at' k
    rw [if_neg (by omega), ih]
theorem putV_far (V : Nat → Int) (P : Nat → Pce) (j : Nat) (hj : 8192 ≤ j) : ∀ n, putV V P n j = V j := by
  intro n
  induction n with
  | zero => rfl
  | succ n ih =>
    show putB (putV V P n) (P n) (P n).len j = V j
    rw [putB_far _ _ j hj, ih]
/-- memory of which the first n bytes are 0 -/
def wiped (V : Nat → Int) (n : Nat) : Nat → Int := fun j => if j < n then 0 else V j
theorem wiped0 (V : Nat → Int) : V = wiped V 0 := by
  funext j
  unfold wiped
  rw [if_neg (by omega)]
theorem Sf.wipe {W0 W : World} {V O Q : Nat → Int} (hQ : Q 0 = 0) (n : Nat) (hn : n < 8192) (h : Sf W0 b (wiped V n) O Q W) :
    Calls Try.prog 18 #[.pointer (some ⟨b, 0, none⟩), .int .i64 (32768 + (n : Int)), .int .i64 0] W fun e w' => e = .returned (.tuple #[]) ∧ Sf W0 b (wiped V (n + 1)) O Q w' := by
  have e : (fun j : Nat => if 32768 + (j : Int) = 32768 + (n : Int) then (0 : Int) else wiped V n j) = wiped V (n + 1) := by
    funext j
    unfold wiped
    by_cases e : j = n
    · rw [if_pos (by omega), if_pos (by omega)]
    · rw [if_neg (by omega)]
      by_cases e2 : j < n
      · rw [if_pos e2, if_pos (by omega)]
      · rw [if_neg e2, if_neg (by omega)]
  have := h.write hQ (32768 + (n : Int)) (by omega) (by omega) 0 (by decide) (by decide)
  rw [e] at this
  exact this
/-- all of memory is wiped of a picture that came of a scene -/
theorem Sf.bl {W0 W : World} {t : Sce} {p0 q0 : Pic} (h0 : Scn t p0) (k : Kp p0 q0) (h : Sf W0 b (wiped q0.vr 8192) q0.oa (offR q0.rg) W) : ∃ q, PxAt W b q ∧ Sane q ∧ Bl q := by
  obtain ⟨q, h1, h2, h3, h4, h5, h6⟩ := h.at'
  refine ⟨q, h1, h2, ?_, fun j hj => ?_, fun j hj => ?_⟩
  · rw [h3]
    funext j
    unfold wiped
    by_cases e : j < 8192
    · rw [if_pos e]
    · rw [if_neg e, k.vr, h0.vr]
      exact putV_far _ _ j (by omega) _
  · rw [h4, k.oa, h0.oa]
    unfold Sce.O oamB
    rw [if_neg (by omega)]
  · rw [h5]
    unfold offR
    by_cases e : j = 4
    · omega
    · rw [if_neg e, if_neg (by omega), k.rg j e, h0.rg]
      unfold Sce.R regsB
      rw [if_neg (by omega)]
/-- a whole frame and the blank lines behind: at the beginning again -/
theorem Scn.round {s : Sce} {q : Pic} {M N : Nat} (hN : N = 17556) (h : Scn s q) : Scn s (tickN M q N) := by
  have t := Tk.ticks h.on h.r4 h.clk M N
  have e4 : (tickN M q N).rg 4 = 0 := by rw [t.ly]; unfold lnK; omega
  refine ⟨h.sane.ticks M N, t.vr.trans h.vr, t.oa.trans h.oa, ?_, by rw [t.clk]; unfold ckK; omega⟩
  funext j
  by_cases e : j = 4
  · subst e
    rw [e4, s.R_4]
  · rw [t.rg j e, h.rg]
end Go.Proofs.Ytnbhifbenfgeeaa
