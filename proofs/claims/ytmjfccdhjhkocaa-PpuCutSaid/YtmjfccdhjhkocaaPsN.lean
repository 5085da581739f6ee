/- Sprites in a row, two of them changed over. -/
import Derived.Test.YtmjfccdhjhkocaaPsM
namespace Go.Proofs.Ytmjfccdhjhkocaa
open Go.RowKit
set_option linter.unusedVariables false
variable {b : Nat} {p : Pic}
theorem LsAt.put {w : World} {g : Nat} {l : List Spr} (h : LsAt w g l) (i : Nat) (hi : i < l.length) (hl : l.length ≤ 10) (s : Spr) : LsAt (w.setCells g (0 + i * 4) [.int .u8 s.row, .int .u8 s.col, .int .u8 s.tile, .int .u8 s.flg]) g (l.set i s) := by
  obtain ⟨cs, ty, h1, h2, h3⟩ := h.row
  have g1 := heap_setCell_same w g (0 + i * 4) _ _ (.int .u8 s.row) h1
  have g2 := heap_setCell_same _ g (0 + i * 4 + 1) _ _ (.int .u8 s.col) g1
  have g3 := heap_setCell_same _ g (0 + i * 4 + 1 + 1) _ _ (.int .u8 s.tile) g2
  have g4 := heap_setCell_same _ g (0 + i * 4 + 1 + 1 + 1) _ _ (.int .u8 s.flg) g3
  refine ⟨_, ty, g4, by simp [h2], fun j t hj k hk => ?_⟩
  rw [Array.getElem?_setIfInBounds, Array.getElem?_setIfInBounds, Array.getElem?_setIfInBounds, Array.getElem?_setIfInBounds]
  simp only [Array.size_setIfInBounds, h2]
  have hjl : j < l.length := by
    have := (List.getElem?_eq_some_iff.1 hj).1
    simpa using this
  by_cases e : j = i
  · subst e
    have et : t = s := by
      rw [List.getElem?_set_self hi] at hj
      exact (Option.some.inj hj).symm
    subst et
    have hk' : k = 0 ∨ k = 1 ∨ k = 2 ∨ k = 3 := by omega
    rcases hk' with rfl | rfl | rfl | rfl
    · rw [if_neg (by omega), if_neg (by omega), if_neg (by omega), if_pos (by omega), if_pos (by omega)]; rfl
    · rw [if_neg (by omega), if_neg (by omega), if_pos (by omega), if_pos (by omega)]; rfl
    · rw [if_neg (by omega), if_pos (by omega), if_pos (by omega)]; rfl
    · rw [if_pos (by omega), if_pos (by omega)]; rfl
  · rw [if_neg (by omega), if_neg (by omega), if_neg (by omega), if_neg (by omega)]
    refine h3 j t ?_ k hk
    rw [List.getElem?_set_ne (fun a => e a.symm)] at hj
    exact hj
theorem LsAt.there {w : World} {g : Nat} {l : List Spr} (h : LsAt w g l) (i : Nat) (hi : i < 10) : w.there g (0 + i * 4) 4 := by
  intro j hj
  have := h.spare (0 + i * 4 + j) (by omega)
  exact this
/-- neighbours changed over -/
def swapL (l : List Spr) (j : Nat) (s t : Spr) : List Spr := (l.set (j + 1) t).set j s
theorem swapL_len (l : List Spr) (j : Nat) (s t : Spr) : (swapL l j s t).length = l.length := by unfold swapL; simp
/-- the one at j goes down to its place -/
def insTo : Nat → List Spr → List Spr
  | 0, l => l
  | j + 1, l => match l[j + 1]?, l[j]? with
    | some s, some t => if s.col < t.col then insTo j (swapL l j s t) else l
    | _, _ => l
theorem insTo_len : ∀ j l, (insTo j l).length = l.length := by
  intro j
  induction j with
  | zero => intro l; rfl
  | succ j ih =>
    intro l
    unfold insTo
    split
    · split
      · rw [ih, swapL_len]
      · rfl
    · rfl
def sortTo : Nat → List Spr → List Spr
  | 0, l => l
  | i + 1, l => insTo i (sortTo i l)
theorem sortTo_len : ∀ i l, (sortTo i l).length = l.length := by
  intro i
  induction i with
  | zero => intro l; rfl
  | succ i ih => intro l; show (insTo i (sortTo i l)).length = _; rw [insTo_len, ih]
end Go.Proofs.Ytmjfccdhjhkocaa
