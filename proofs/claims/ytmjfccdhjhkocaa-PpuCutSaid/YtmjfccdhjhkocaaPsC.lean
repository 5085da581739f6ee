/- One sprite, or none, sorted. -/
import Derived.Test.YtmjfccdhjhkocaaPsB2
namespace Go.Proofs.Ytmjfccdhjhkocaa
open Go.RowKit
set_option linter.unusedVariables false
variable {b : Nat} {p : Pic}
set_option maxRecDepth 100000 in
theorem insertion_any (g : Nat) (n : Nat) (hn : n ≤ 1) (F : Value) (W : World) : Calls Try.prog 94 #[.slice (some ⟨g, 0, none⟩) n 10, .int .i64 0, .int .i64 (n : Int), F] W fun e w' => e = .returned (.tuple #[]) ∧ w' = W := by
  have d : decide ((1 : Int) < (n : Int)) = false := decide_eq_false (by omega)
  go_enter Try.func94, Try.ntmps94
  go_wp2_with fail
  go_loopw [8] (fun I wr => I = .int .i64 1 ∧ wr = W) (fun _ _ => 0)
  case atStart => exact ⟨rfl, rfl⟩
  case round =>
    obtain ⟨rfl, rfl⟩ := hrel
    go_wp2_with fail
    go_end0
    exact ⟨rfl, rfl⟩
set_option maxRecDepth 100000 in
theorem stable_any (g : Nat) (n : Nat) (hn : n ≤ 1) (F : Value) (W : World) : Calls Try.prog 92 #[.slice (some ⟨g, 0, none⟩) n 10, .int .i64 (n : Int), F] W fun e w' => e = .returned (.tuple #[]) ∧ Up W w' := by
  have HI : Hid _ := insertion_any g n hn F
  have d1 : decide ((20 : Int) ≤ (n : Int)) = false := decide_eq_false (by omega)
  have d2 : decide ((20 : Int) < (n : Int)) = false := decide_eq_false (by omega)
  go_enter Try.func92, Try.ntmps92
  go_wp2_with fail
  go_loopw [7, 8] (fun A B wr => A = .int .i64 0 ∧ B = .int .i64 20 ∧ wr = W) (fun _ _ _ => 0)
  case atStart => exact ⟨rfl, rfl, rfl⟩
  case round =>
    obtain ⟨rfl, rfl, rfl⟩ := hrel
    go_wp2_with fail
    refine (HI.out _).mono ?_
    rintro e w' ⟨rfl, hw'⟩
    obtain rfl := hw'.symm
    go_wp2_with fail
    obtain ⟨wo, rfl⟩ : ∃ wo : World, wo = wr := ⟨_, rfl⟩
    go_loopw [6] (fun A wr => A = .int .i64 20 ∧ wr = wo) (fun _ _ => 0)
    case atStart => exact ⟨rfl, rfl⟩
    case round =>
      obtain ⟨rfl, rfl⟩ := hrel
      go_wp2_with fail
      go_end0
      exact ⟨rfl, Up.refl _⟩
set_option maxRecDepth 100000 in
theorem sort_any (g : Nat) (n : Nat) (hn : n ≤ 1) (F : Value) (W : World) : Calls Try.prog 81 #[.slice (some ⟨g, 0, none⟩) n 10, F] W fun e w' => e = .returned (.tuple #[]) ∧ Up W w' := by
  have HI : Hid _ := stable_any g n hn F
  go_enter Try.func81, Try.ntmps81
  go_wp2_with fail
  refine (HI.out _).mono ?_
  rintro e w2 ⟨rfl, u2⟩
  have H2 : Hid _ := u2
  clear u2
  go_wp2_with fail
  go_end0
  exact ⟨rfl, H2.out⟩
end Go.Proofs.Ytmjfccdhjhkocaa
