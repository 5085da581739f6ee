/- Cart: where no RAM is seen. -/
import Derived.Test.YtojlappgmckokaaDoorCaZ
namespace Go.Proofs.YtojlappgmckokaaDoor
open Go.Shelf Go.RowKit
set_option linter.unusedVariables false
set_option linter.unusedSimpArgs false
variable {w w' W : World} {b : Nat}
set_option maxRecDepth 100000 in
set_option maxHeartbeats 1000000 in
theorem ramPlace_out {cb rc n : Nat} {ra : Option Addr} {A : Int} (k7 : W.cell? ⟨cb, 7, none⟩ = some (.slice ra n rc)) (hA : A < 40960 ∨ 49152 ≤ A ∨ n = 0) : Calls Tryd.prog 41 #[.pointer (some ⟨cb, 0, none⟩), .int .i64 A] W fun e w' => e = .returned (.tuple #[.int .i64 0, .bool false]) ∧ w' = W := by
  by_cases h1 : A < 40960
  · clear hA
    go_enter Tryd.func41, Tryd.ntmps41
    go_wp2_with fail
    first | go_ret | go_ret2
    exact ⟨by first | rfl | (simp; done), rfl⟩
  · by_cases h2 : 49152 ≤ A
    · clear hA
      go_enter Tryd.func41, Tryd.ntmps41
      go_wp2_with fail
      first | go_ret | go_ret2
      exact ⟨by first | rfl | (simp; done), rfl⟩
    · obtain rfl : n = 0 := by omega
      clear hA
      go_enter Tryd.func41, Tryd.ntmps41
      go_wp2_with fail
      first | go_ret | go_ret2
      exact ⟨by first | rfl | (simp; done), rfl⟩
set_option maxRecDepth 100000 in
set_option maxHeartbeats 1000000 in
theorem read_neg {cb : Nat} {A : Int} (hA : A < 0) : Calls Tryd.prog 17 #[.pointer (some ⟨cb, 0, none⟩), .int .i64 A] W fun e w' => e = .returned (.int .u8 255) ∧ Up W w' := by
  go_enter Tryd.func17, Tryd.ntmps17
  go_wp2_with fail
  first | go_ret | go_ret2
  exact ⟨by first | rfl | (simp; done), Up.refl _⟩
set_option maxRecDepth 100000 in
set_option maxHeartbeats 1000000 in
theorem read_none {cb : Nat} {A pl : Int} (hA : 32768 ≤ A) (HRP : Hid (∀ w, Up W w → Calls Tryd.prog 41 #[.pointer (some ⟨cb, 0, none⟩), .int .i64 A] w fun e w' => e = .returned (.tuple #[.int .i64 pl, .bool false]) ∧ Up w w')) : Calls Tryd.prog 17 #[.pointer (some ⟨cb, 0, none⟩), .int .i64 A] W fun e w' => e = .returned (.int .u8 255) ∧ Up W w' := by
  have e1 : ¬ A < 0 := by omega
  have e2 : ¬ A < 16384 := by omega
  have e3 : ¬ A < 32768 := by omega
  clear hA
  go_enter Tryd.func17, Tryd.ntmps17
  go_wp2_with fail
  refine (HRP.out _ (by first | exact Up.refl _ | exact Up.drewN _ _ | exact (Up.refl _).drew)).mono ?_
  rintro e w5 ⟨rfl, u5⟩
  have HU5 : Hid (Up W w5) := by first | exact u5 | exact (Up.drewN _ _).trans u5 | exact ((Up.refl _).drew).trans u5
  clear u5
  go_wp2_with fail
  first | go_ret | go_ret2
  exact ⟨by first | rfl | (simp; done), HU5.out⟩
set_option maxRecDepth 100000 in
set_option maxHeartbeats 1000000 in
theorem write_none {cb : Nat} {A pl x : Int} (hA : A < 0 ∨ 32768 ≤ A) (HRP : Hid (∀ w, Up W w → Calls Tryd.prog 41 #[.pointer (some ⟨cb, 0, none⟩), .int .i64 A] w fun e w' => e = .returned (.tuple #[.int .i64 pl, .bool false]) ∧ Up w w')) : Calls Tryd.prog 18 #[.pointer (some ⟨cb, 0, none⟩), .int .i64 A, .int .u8 x] W fun e w' => e = .returned (.tuple #[]) ∧ Up W w' := by
  by_cases h0 : A < 0
  · have e1 : ¬ (0 : Int) ≤ A := by omega
    clear hA h0
    go_enter Tryd.func18, Tryd.ntmps18
    go_wp2_with fail
    refine (HRP.out _ (by first | exact Up.refl _ | exact Up.drewN _ _ | exact (Up.refl _).drew)).mono ?_
    rintro e w5 ⟨rfl, u5⟩
    have HU5 : Hid (Up W w5) := by first | exact u5 | exact (Up.drewN _ _).trans u5 | exact ((Up.refl _).drew).trans u5
    clear u5
    go_wp2_with fail
    go_end0
    exact ⟨rfl, HU5.out⟩
  · have e1 : (0 : Int) ≤ A := by omega
    have e2 : ¬ A < 32768 := by omega
    clear hA h0
    go_enter Tryd.func18, Tryd.ntmps18
    go_wp2_with fail
    refine (HRP.out _ (by first | exact Up.refl _ | exact Up.drewN _ _ | exact (Up.refl _).drew)).mono ?_
    rintro e w5 ⟨rfl, u5⟩
    have HU5 : Hid (Up W w5) := by first | exact u5 | exact (Up.drewN _ _).trans u5 | exact ((Up.refl _).drew).trans u5
    clear u5
    go_wp2_with fail
    go_end0
    exact ⟨rfl, HU5.out⟩
end Go.Proofs.YtojlappgmckokaaDoor
