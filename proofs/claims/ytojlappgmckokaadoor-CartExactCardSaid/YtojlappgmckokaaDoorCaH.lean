/- Cart: takesRom, fault. -/
import Derived.Test.YtojlappgmckokaaDoorCaG
namespace Go.Proofs.YtojlappgmckokaaDoor
open Go.Shelf Go.RowKit
set_option linter.unusedVariables false
variable {w w' W : World} {g n : Nat} {f : Nat → Int}
def takesB (R : Rw) (c n : Nat) : Bool := decide (c ≤ 6) && decide (2 * 2 ^ c ≤ R.banks) && decide (2 * 2 ^ c * 16384 = n)
set_option maxRecDepth 100000 in
set_option maxHeartbeats 1000000 in
theorem takes_any {R : Rw} {c : Nat} (hc : c ≤ 255) (hb : R.banks ≤ 128) (hn : n ≤ 9223372036854775807) : Calls Tryd.prog 60 #[.agg R.cells.toArray, .int .u8 (c : Int), .int .i64 (n : Int)] W fun e w' => e = .returned (.bool (takesB R c n)) ∧ Up W w' := by
  obtain ⟨kd, mp, bk, lo, hi', bt⟩ := R
  show Calls Tryd.prog _ #[.agg #[.int .u8 (kd : Int), .int .i64 (mp : Int), .int .i64 (bk : Int), .int .u8 (lo : Int), .int .u8 (hi' : Int), .bool bt], .int .u8 (c : Int), .int .i64 (n : Int)] W _
  have hb : bk ≤ 128 := hb
  have HK : Hid (c ≤ 6 → ∀ w, Calls Tryd.prog 35 #[.int .u8 (c : Int)] w fun e w' => e = .returned (.int .i64 ((2 * 2 ^ c : Nat) : Int)) ∧ w' = w) := fun h w => banksOf_any h
  by_cases h6 : c ≤ 6
  · have e6 : (c : Int) ≤ 6 := by omega
    have d6 : decide ((c : Int) ≤ 6) = true := decide_eq_true e6
    have HB : Hid (∀ w, Calls Tryd.prog 35 #[.int .u8 (c : Int)] w fun e w' => e = .returned (.int .i64 ((2 * 2 ^ c : Nat) : Int)) ∧ w' = w) := HK.out h6
    have hB : 2 * 2 ^ c ≤ 128 := by
      have : c = 0 ∨ c = 1 ∨ c = 2 ∨ c = 3 ∨ c = 4 ∨ c = 5 ∨ c = 6 := by omega
      rcases this with rfl | rfl | rfl | rfl | rfl | rfl | rfl <;> decide
    have et : takesB ⟨kd, mp, bk, lo, hi', bt⟩ c n = (decide (2 * 2 ^ c ≤ bk) && decide (2 * 2 ^ c * 16384 = n)) := by
      unfold takesB
      rw [decide_eq_true h6]
      rfl
    rw [et]
    clear et HK
    generalize 2 * 2 ^ c = B at *
    by_cases h1 : B ≤ bk
    · have e1 : (B : Int) ≤ (bk : Int) := by omega
      by_cases h2 : B * 16384 = n
      · have e2 : (B : Int) * 16384 = (n : Int) := by omega
        rw [decide_eq_true h1, decide_eq_true h2]
        go_enter Tryd.func60, Tryd.ntmps60
        go_wp2_with fail
        go_quiet ((go_at_call 35; exact Calls.quiet_of_same (HB.out _)))
        go_wp2_with fail
        go_ret
        exact ⟨by first | rfl | (simp; done), ((Up.refl W).alloc _).trans (Up.drewN _ _)⟩
      · have e2 : ¬ (B : Int) * 16384 = (n : Int) := by omega
        have d2 : ((B : Int) * 16384 == (n : Int)) = false := by simp [e2]
        rw [decide_eq_true h1, decide_eq_false h2]
        go_enter Tryd.func60, Tryd.ntmps60
        go_wp2_with fail
        go_quiet ((go_at_call 35; exact Calls.quiet_of_same (HB.out _)))
        go_wp2_with fail
        go_ret
        exact ⟨by first | rfl | (simp; done), ((Up.refl W).alloc _).trans (Up.drewN _ _)⟩
    · have e1 : ¬ (B : Int) ≤ (bk : Int) := by omega
      have d1 : decide ((B : Int) ≤ (bk : Int)) = false := decide_eq_false e1
      rw [decide_eq_false h1]
      go_enter Tryd.func60, Tryd.ntmps60
      go_wp2_with fail
      go_quiet ((go_at_call 35; exact Calls.quiet_of_same (HB.out _)))
      go_wp2_with fail
      go_ret
      exact ⟨by first | rfl | (simp; done), ((Up.refl W).alloc _).trans (Up.drewN _ _)⟩
  · have e6 : ¬ (c : Int) ≤ 6 := by omega
    have d6 : decide ((c : Int) ≤ 6) = false := decide_eq_false e6
    rw [takesB, decide_eq_false h6]
    go_enter Tryd.func60, Tryd.ntmps60
    go_wp2_with fail
    go_quiet (fail)
    go_wp2_with fail
    go_ret
    exact ⟨by first | rfl | (simp; done), ((Up.refl W).alloc _).trans (Up.drewN _ _)⟩
end Go.Proofs.YtojlappgmckokaaDoor
