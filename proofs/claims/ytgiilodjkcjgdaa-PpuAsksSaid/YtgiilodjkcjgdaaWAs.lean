/- PpuAsks: the walk. -/
import Derived.Test.YtgiilodjkcjgdaaKAs
namespace Go.Proofs.Ytgiilodjkcjgdaa
open Go.RowKit
set_option linter.unusedVariables false
variable {b : Nat} {p : Pic}
def asksPic (s y : Int) : Pic := (newPic.setR 5 y).setR 1 s
theorem asksPic_bare (s y : Int) (s0 : 0 ≤ s) (s1 : s ≤ 255) (h0 : 0 ≤ y) (h1 : y ≤ 255) : Bare (asksPic s y) := ⟨(newPic_in.setR 5 y ⟨h0, h1⟩).setR 1 s ⟨s0, s1⟩, by show newPic.has 128 = true; decide, by show newPic.has 32 = false; decide, by show newPic.has 2 = false; decide⟩
theorem asksPic_tk (s y : Int) : Tk (asksPic s y) 0 (asksPic s y) := ⟨rfl, rfl, fun _ _ => rfl, rfl, rfl⟩
def Oct (s : Int) : Prop := s = 0 ∨ s = 8 ∨ s = 16 ∨ s = 24 ∨ s = 32 ∨ s = 40 ∨ s = 48 ∨ s = 56 ∨ s = 64 ∨ s = 72 ∨ s = 80 ∨ s = 88 ∨ s = 96 ∨ s = 104 ∨ s = 112 ∨ s = 120
theorem oct_of (t : Int) (h0 : 0 ≤ t) (h1 : t < 16) : Oct (t * 8) := by unfold Oct; omega
theorem oct_and (s : Int) (h : Oct s) : bits .and .u8 (cutB s) 120 = s := by
  unfold Oct at h
  rcases h with h | h | h | h | h | h | h | h | h | h | h | h | h | h | h | h <;> rw [h] <;> decide
theorem oct_lets (s : Int) (h : Oct s) (m : Bool) (d : Nat) (hd : d < 4) :
    (bits .and .u8 s (if m = true then bits .or .u8 (if d = 0 then 8 else if d = 1 then 16 else if d = 2 then 32 else 0) 64 else (if d = 0 then 8 else if d = 1 then 16 else if d = 2 then 32 else 0)) != 0) =
    (if bits .and .i64 s 64 ≠ 0 ∧ m = true then true else if d = 1 then bits .and .i64 s 16 != 0 else if d = 2 then bits .and .i64 s 32 != 0 else if d = 3 then false else bits .and .i64 s 8 != 0) := by
  unfold Oct at h
  have hd' : d = 0 ∨ d = 1 ∨ d = 2 ∨ d = 3 := by omega
  rcases hd' with rfl | rfl | rfl | rfl <;> cases m <;> rcases h with h | h | h | h | h | h | h | h | h | h | h | h | h | h | h | h <;> rw [h] <;> decide
theorem asksPic_stl (s y : Int) (h : Oct s) (k : Nat) : (asksPic s y).stlK k = letsK s y k := by
  have em : (((asksPic s y).setR 4 (lnK k : Int)).setClk (ckK k : Int)).mode = modeK k := by
    unfold Pic.mode modeK
    rw [if_neg (by show ¬ (newPic.has 128 = false); decide)]
    show (if 144 ≤ (lnK k : Int) then _ else if (ckK k : Int) < 80 then _ else if (ckK k : Int) < 252 then _ else _) = _
    simp only [show (144 ≤ (lnK k : Int)) = (144 ≤ lnK k) from propext (by omega), show ((ckK k : Int) < 80) = (ckK k < 80) from propext (by omega), show ((ckK k : Int) < 252) = (ckK k < 252) from propext (by omega)]
  have ex : (((asksPic s y).setR 4 (lnK k : Int)).setClk (ckK k : Int)).matches = ((lnK k : Int) == y) := rfl
  have er : (((asksPic s y).setR 4 (lnK k : Int)).setClk (ckK k : Int)).rg 1 = s := rfl
  have eh : (((asksPic s y).setR 4 (lnK k : Int)).setClk (ckK k : Int)).has 128 = true := by show newPic.has 128 = true; decide
  unfold Pic.stlK Pic.stl Pic.causes Pic.cause
  rw [em, ex, er, eh, Bool.true_and]
  unfold letsK letsP modeK
  have l0 : (if bits .and .i64 s 64 ≠ 0 ∧ (lnK k : Int) = y then true else if 144 ≤ (lnK k : Int) then bits .and .i64 s 16 != 0 else if (ckK k : Int) < 80 then bits .and .i64 s 32 != 0 else if (ckK k : Int) < 252 then false else bits .and .i64 s 8 != 0) = (if bits .and .i64 s 64 ≠ 0 ∧ ((lnK k : Int) == y) = true then true else if 144 ≤ (lnK k : Int) then bits .and .i64 s 16 != 0 else if (ckK k : Int) < 80 then bits .and .i64 s 32 != 0 else if (ckK k : Int) < 252 then false else bits .and .i64 s 8 != 0) := by
    simp only [beq_iff_eq]
  rw [l0]
  generalize ((lnK k : Int) == y) = m
  by_cases m1 : 144 ≤ lnK k
  · simp only [if_pos m1, if_pos (show 144 ≤ (lnK k : Int) by omega)]
    exact oct_lets s h m 1 (by decide)
  · simp only [if_neg m1, if_neg (show ¬ 144 ≤ (lnK k : Int) by omega)]
    by_cases m2 : ckK k < 80
    · simp only [if_pos m2, if_pos (show (ckK k : Int) < 80 by omega)]
      exact oct_lets s h m 2 (by decide)
    · simp only [if_neg m2, if_neg (show ¬ (ckK k : Int) < 80 by omega)]
      by_cases m3 : ckK k < 252
      · simp only [if_pos m3, if_pos (show (ckK k : Int) < 252 by omega)]
        exact oct_lets s h m 3 (by decide)
      · simp only [if_neg m3, if_neg (show ¬ (ckK k : Int) < 252 by omega)]
        exact oct_lets s h m 0 (by decide)
theorem asksPic_stat (s y : Int) (h : Oct s) (k : Nat) (hl : lnK k = 0) (hc : ckK k = 0) : bits .and .i64 ((asksPic s y).statK k) 120 = s := by
  have em : (((asksPic s y).setR 4 (lnK k : Int)).setClk (ckK k : Int)).mode = 2 := by
    unfold Pic.mode
    rw [if_neg (by show ¬ (newPic.has 128 = false); decide)]
    show (if 144 ≤ (lnK k : Int) then _ else if (ckK k : Int) < 80 then _ else if (ckK k : Int) < 252 then _ else _) = _
    rw [hl, hc, if_neg (by decide), if_pos (by decide)]
  have er : (((asksPic s y).setR 4 (lnK k : Int)).setClk (ckK k : Int)).rg 1 = s := rfl
  unfold Pic.statK Pic.statB
  rw [em, er]
  unfold Oct at h
  split <;> rcases h with h | h | h | h | h | h | h | h | h | h | h | h | h | h | h | h <;> rw [h] <;> decide
end Go.Proofs.Ytgiilodjkcjgdaa
