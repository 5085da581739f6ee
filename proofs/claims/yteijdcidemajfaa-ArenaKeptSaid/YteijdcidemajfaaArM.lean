/- Arena: the plain pool. -/
import Derived.Test.YteijdcidemajfaaArD
namespace Go.Proofs.Yteijdcidemajfaa
open Go.RowKit
set_option linter.unusedVariables false
/-- a buffer that was taken; where its bytes lie, and what they are -/
structure Loan where
  buf : Nat
  cls : Nat
  size : Nat
  blk : Nat
  f : Nat → Int
structure Arn where
  quota : Int
  loans : List Loan
/-- a class: its buffers' size, its first number, how many, which are free -/
structure Cls where
  size : Nat
  start : Nat
  many : Nat
  free : List Nat
structure Pl where
  cls : List Cls
  ars : List (Option Arn)
def Loan.cells (l : Loan) : List Value := [.int .i64 (l.buf : Int), .int .i64 (l.cls : Int), .int .i64 (l.size : Int), .slice (some ⟨l.blk, 0, none⟩) l.size l.size]
def loanCells (ls : List Loan) : List Value := ls.flatMap Loan.cells
def nums (l : List Nat) : List Value := l.map (fun (n : Nat) => .int .i64 (n : Int))
theorem loanCells_len (ls : List Loan) : (loanCells ls).length = ls.length * 4 := by
  induction ls with
  | nil => rfl
  | cons l r ih =>
    show (l.cells ++ loanCells r).length = _
    rw [List.length_append, ih]
    simp [Loan.cells]
    omega
theorem loanCells_at : ∀ (ls : List Loan) (j r : Nat) (l : Loan), ls[j]? = some l → r < 4 → (loanCells ls)[j * 4 + r]? = l.cells[r]?
  | [], j, r, l, h, _ => by simp at h
  | x :: ls, 0, r, l, h, hr => by
    simp at h
    subst h
    show (x.cells ++ loanCells ls)[0 * 4 + r]? = _
    rw [Nat.zero_mul, Nat.zero_add, List.getElem?_append_left (by simp [Loan.cells]; omega)]
  | x :: ls, j + 1, r, l, h, hr => by
    show (x.cells ++ loanCells ls)[(j + 1) * 4 + r]? = _
    rw [List.getElem?_append_right (by simp [Loan.cells]; omega), show (j + 1) * 4 + r - x.cells.length = j * 4 + r by simp [Loan.cells]; omega]
    exact loanCells_at ls j r l (by simpa using h) hr
theorem loanCells_one (ls : List Loan) : ∀ u ∈ loanCells ls, u.oneCell' = true := by
  intro u hu
  obtain ⟨l, _, hl⟩ := List.mem_flatMap.1 hu
  simp [Loan.cells] at hl
  rcases hl with rfl | rfl | rfl | rfl <;> rfl
theorem loanCells_append (a b : List Loan) : loanCells (a ++ b) = loanCells a ++ loanCells b := by unfold loanCells; rw [List.flatMap_append]
theorem loanCells_take : ∀ (ls : List Loan) (i : Nat), (loanCells ls).take (i * 4) = loanCells (ls.take i)
  | [], i => by simp [loanCells]
  | x :: ls, 0 => by simp [loanCells]
  | x :: ls, i + 1 => by
    show (x.cells ++ loanCells ls).take ((i + 1) * 4) = x.cells ++ loanCells (ls.take i)
    rw [List.take_append, List.take_of_length_le (by simp [Loan.cells]; omega), show (i + 1) * 4 - x.cells.length = i * 4 by simp [Loan.cells]; omega, loanCells_take ls i]
theorem loanCells_drop : ∀ (ls : List Loan) (i : Nat), (loanCells ls).drop (i * 4) = loanCells (ls.drop i)
  | [], i => by simp [loanCells]
  | x :: ls, 0 => by simp [loanCells]
  | x :: ls, i + 1 => by
    show (x.cells ++ loanCells ls).drop ((i + 1) * 4) = loanCells (ls.drop i)
    rw [List.drop_append, List.drop_of_length_le (by simp [Loan.cells]; omega), show (i + 1) * 4 - x.cells.length = i * 4 by simp [Loan.cells]; omega, loanCells_drop ls i, List.nil_append]
theorem loanCells_erase (ls : List Loan) (i : Nat) : (loanCells ls).take (i * 4) ++ (loanCells ls).drop ((i + 1) * 4) = loanCells (ls.eraseIdx i) := by
  rw [loanCells_take, loanCells_drop, ← loanCells_append, List.eraseIdx_eq_take_drop_succ]
theorem nums_len (l : List Nat) : (nums l).length = l.length * 1 := by simp [nums]
theorem nums_at {l : List Nat} {j n : Nat} (h : l[j]? = some n) : (nums l)[j]? = some (.int .i64 (n : Int)) := by simp [nums, h]
theorem nums_one (l : List Nat) : ∀ u ∈ nums l, u.oneCell' = true := by
  intro u hu
  obtain ⟨n, _, rfl⟩ := List.mem_map.1 hu
  rfl
theorem nums_erase (l : List Nat) (i : Nat) : (nums l).take (i * 1) ++ (nums l).drop ((i + 1) * 1) = nums (l.eraseIdx i) := by
  rw [Nat.mul_one, Nat.mul_one, List.eraseIdx_eq_take_drop_succ]
  simp [nums]
theorem nums_insert (l : List Nat) (i n : Nat) : (nums l).take i ++ .int .i64 (n : Int) :: (nums l).drop i = nums (l.take i ++ n :: l.drop i) := by simp [nums]
theorem nums_append (l : List Nat) (n : Nat) : nums l ++ [.int .i64 (n : Int)] = nums (l ++ [n]) := by simp [nums]
/-- where the first one stands of which something holds -/
theorem findIdx_hit {α : Type} {p : α → Bool} {l : List α} {k : Nat} {x : α} (hk : l[k]? = some x) (hx : p x = true) (h : ∀ j y, j < k → l[j]? = some y → p y = false) : l.findIdx p = k := by
  have hkl := (List.getElem?_eq_some_iff.1 hk).1
  rw [List.findIdx_eq hkl]
  refine ⟨?_, fun j hj => h j _ hj (List.getElem?_eq_getElem (by omega))⟩
  rw [(List.getElem?_eq_some_iff.1 hk).2]
  exact hx
theorem findIdx_none {α : Type} {p : α → Bool} {l : List α} (h : ∀ (j : Nat) y, l[j]? = some y → p y = false) : l.findIdx p = l.length := by
  refine List.findIdx_eq_length_of_false fun x hx => ?_
  obtain ⟨j, hj⟩ := List.mem_iff_getElem?.1 hx
  exact h j x hj
def idxI (k n : Nat) : Int := if k < n then (k : Int) else -1
end Go.Proofs.Yteijdcidemajfaa
