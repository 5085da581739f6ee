/- Sprites are compared by their columns. -/
import Derived.Test.YtmjfccdhjhkocaaPsC
namespace Go.Proofs.Ytmjfccdhjhkocaa
open Go.RowKit
set_option linter.unusedVariables false
variable {b : Nat} {p : Pic}
def cmpI (x y : Int) : Int := if x < y then -1 else if y < x then 1 else 0
set_option maxRecDepth 100000 in
theorem isNaN_any (x : Int) (W : World) : Calls Try.prog 93 #[.int .u8 x] W fun e w' => e = .returned (.bool false) ∧ w' = W := by
  have d : (x != x) = false := by simp
  go_enter Try.func93, Try.ntmps93
  go_wp2_with fail
  go_ret
  exact ⟨by first | rfl | (simp; done), rfl⟩
set_option maxRecDepth 100000 in
theorem compare_any (x y : Int) (W : World) : Calls Try.prog 83 #[.int .u8 x, .int .u8 y] W fun e w' => e = .returned (.int .i64 (cmpI x y)) ∧ w' = W := by
  have HN : Hid (∀ x W, Calls Try.prog 93 #[.int .u8 x] W fun e w' => e = .returned (.bool false) ∧ w' = W) := isNaN_any
  unfold cmpI
  by_cases h1 : x < y
  · rw [if_pos h1]
    have d1 : decide (x < y) = true := decide_eq_true h1
    go_enter Try.func83, Try.ntmps83
    go_wp2_with fail
    refine (HN.out _ _).mono ?_
    rintro e w' ⟨rfl, hw'⟩
    obtain rfl := hw'.symm
    go_wp2_with fail
    refine (HN.out _ _).mono ?_
    rintro e w' ⟨rfl, hw'⟩
    obtain rfl := hw'.symm
    go_wp2_with fail
    go_ret
    exact ⟨rfl, rfl⟩
  · rw [if_neg h1]
    have d1 : decide (x < y) = false := decide_eq_false h1
    by_cases h2 : y < x
    · rw [if_pos h2]
      have d2 : decide (y < x) = true := decide_eq_true h2
      go_enter Try.func83, Try.ntmps83
      go_wp2_with fail
      refine (HN.out _ _).mono ?_
      rintro e w' ⟨rfl, hw'⟩
      obtain rfl := hw'.symm
      go_wp2_with fail
      refine (HN.out _ _).mono ?_
      rintro e w' ⟨rfl, hw'⟩
      obtain rfl := hw'.symm
      go_wp2_with fail
      go_ret
      exact ⟨rfl, rfl⟩
    · rw [if_neg h2]
      have d2 : decide (y < x) = false := decide_eq_false h2
      go_enter Try.func83, Try.ntmps83
      go_wp2_with fail
      refine (HN.out _ _).mono ?_
      rintro e w' ⟨rfl, hw'⟩
      obtain rfl := hw'.symm
      go_wp2_with fail
      refine (HN.out _ _).mono ?_
      rintro e w' ⟨rfl, hw'⟩
      obtain rfl := hw'.symm
      go_wp2_with fail
      go_ret
      exact ⟨rfl, rfl⟩
set_option maxRecDepth 100000 in
theorem cmpS_any (s t : Spr) (W : World) : Calls Try.prog 82 #[s.val, t.val] W fun e w' => e = .returned (.int .i64 (cmpI s.col t.col)) ∧ Up W w' := by
  have HC : Hid (∀ W, Calls Try.prog 83 #[.int .u8 s.col, .int .u8 t.col] W fun e w' => e = .returned (.int .i64 (cmpI s.col t.col)) ∧ w' = W) := fun W => compare_any _ _ W
  unfold Spr.val
  go_enter Try.func82, Try.ntmps82
  go_wp2_with fail
  have HU : Hid (Up W ((W.alloc (Obj.cells #[.int .u8 s.row, .int .u8 s.col, .int .u8 s.tile, .int .u8 s.flg] 100)).alloc (Obj.cells #[.int .u8 t.row, .int .u8 t.col, .int .u8 t.tile, .int .u8 t.flg] 100))) := ((Up.refl W).alloc _).alloc _
  generalize World.alloc (World.alloc W _) _ = w1 at HU ⊢
  refine (HC.out _).mono ?_
  rintro e w' ⟨rfl, hw'⟩
  obtain rfl := hw'.symm
  go_wp2_with fail
  go_ret
  exact ⟨rfl, HU.out⟩
end Go.Proofs.Ytmjfccdhjhkocaa
