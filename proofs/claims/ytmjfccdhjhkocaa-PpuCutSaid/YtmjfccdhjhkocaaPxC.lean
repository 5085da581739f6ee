/- The picture's small calls: what is where, which mode, what is locked. -/
import Derived.Test.YtmjfccdhjhkocaaPxB
namespace Go.Proofs.Ytmjfccdhjhkocaa
open Go.RowKit
set_option linter.unusedVariables false
variable {b : Nat} {p : Pic}
theorem PxAt.reg {W : World} (h : PxAt W b p) (i : Nat) (hi : i < 12) : W.cell? ⟨b, 8352 + i, none⟩ = some (.int .u8 (p.rg i)) := by
  rw [h.cell _ (by omega)]
  unfold Pic.cell
  rw [if_neg (by omega), if_neg (by omega), if_pos (by omega), show 8352 + i - 8352 = i by omega]
theorem PxAt.clk {W : World} (h : PxAt W b p) : W.cell? ⟨b, 8364, none⟩ = some (.int .i64 p.clk) := by
  rw [h.cell _ (by omega)]
  rfl
theorem PxAt.vram {W : World} (h : PxAt W b p) (i : Nat) (hi : i < 8192) : W.cell? ⟨b, i, none⟩ = some (.int .u8 (p.vr i)) := by
  rw [h.cell _ (by omega)]
  unfold Pic.cell
  rw [if_pos hi]
theorem PxAt.oam {W : World} (h : PxAt W b p) (i : Nat) (hi : i < 160) : W.cell? ⟨b, 8192 + i, none⟩ = some (.int .u8 (p.oa i)) := by
  rw [h.cell _ (by omega)]
  unfold Pic.cell
  rw [if_neg (by omega), if_pos (by omega), show 8192 + i - 8192 = i by omega]
def isV (a : Int) : Bool := decide (32768 ≤ a) && decide (a < 40960)
def isO (a : Int) : Bool := decide (65024 ≤ a) && decide (a < 65184)
def isR (a : Int) : Bool := decide (65344 ≤ a) && decide (a < 65356)
theorem isVram_any (a : Int) (W : World) : Calls Try.prog 43 #[.int .i64 a] W fun e w' => e = .returned (.bool (isV a)) ∧ w' = W := by
  unfold isV
  go_enter Try.func43, Try.ntmps43
  go_wp2
  all_goals
    go_ret
    exact ⟨by first | rfl | exact retB (by first | (simp [*]; done) | (simp [*]; omega)), rfl⟩
theorem isOam_any (a : Int) (W : World) : Calls Try.prog 44 #[.int .i64 a] W fun e w' => e = .returned (.bool (isO a)) ∧ w' = W := by
  unfold isO
  go_enter Try.func44, Try.ntmps44
  go_wp2
  all_goals
    go_ret
    exact ⟨by first | rfl | exact retB (by first | (simp [*]; done) | (simp [*]; omega)), rfl⟩
theorem isRegister_any (a : Int) (W : World) : Calls Try.prog 45 #[.int .i64 a] W fun e w' => e = .returned (.bool (isR a)) ∧ w' = W := by
  unfold isR
  go_enter Try.func45, Try.ntmps45
  go_wp2
  all_goals
    go_ret
    exact ⟨by first | rfl | exact retB (by first | (simp [*]; done) | (simp [*]; omega)), rfl⟩
def Pic.has (p : Pic) (m : Int) : Bool := bits .and .u8 (p.rg 0) m != 0
theorem has_any (m : Int) (W : World) (h : PxAt W b p) : Calls Try.prog 48 #[.pointer (some ⟨b, 0, none⟩), .int .u8 m] W fun e w' => e = .returned (.bool (p.has m)) ∧ w' = W := by
  have k0 : W.cell? ⟨b, 8352, none⟩ = some (.int .u8 (p.rg 0)) := h.reg 0 (by decide)
  unfold Pic.has
  clear h
  go_enter Try.func48, Try.ntmps48
  go_wp2
  go_ret
  exact ⟨rfl, rfl⟩
def Pic.mode (p : Pic) : Int := if p.has 128 = false then 0 else if 144 ≤ p.rg 4 then 1 else if p.clk < 80 then 2 else if p.clk < 252 then 3 else 0
set_option maxRecDepth 100000 in
theorem mode_any (W : World) (h : PxAt W b p) : Calls Try.prog 59 #[.pointer (some ⟨b, 0, none⟩)] W fun e w' => e = .returned (.int .i64 p.mode) ∧ w' = W := by
  have k4 : W.cell? ⟨b, 8356, none⟩ = some (.int .u8 (p.rg 4)) := h.reg 4 (by decide)
  have kc := h.clk
  have HA : Hid (∀ W, PxAt W b p → Calls Try.prog 48 #[.pointer (some ⟨b, 0, none⟩), .int .u8 128] W fun e w' => e = .returned (.bool (p.has 128)) ∧ w' = W) := fun W h => has_any 128 W h
  have H : Hid (PxAt W b p) := h
  clear h
  unfold Pic.mode
  generalize p.has 128 = B at *
  cases B
  · rw [if_pos rfl]
    go_enter Try.func59, Try.ntmps59
    go_wp2_with fail
    refine (HA.out _ H.out).mono ?_
    rintro e w' ⟨rfl, hw'⟩
    obtain rfl := hw'.symm
    go_wp2_with fail
    go_ret
    exact ⟨rfl, rfl⟩
  · rw [if_neg (by decide)]
    by_cases h1 : 144 ≤ p.rg 4
    · have d1 : decide (144 ≤ p.rg 4) = true := decide_eq_true h1
      rw [if_pos h1]
      clear h1
      go_enter Try.func59, Try.ntmps59
      go_wp2_with fail
      refine (HA.out _ H.out).mono ?_
      rintro e w' ⟨rfl, hw'⟩
      obtain rfl := hw'.symm
      go_wp2_with fail
      go_ret
      exact ⟨rfl, rfl⟩
    · have d1 : decide (144 ≤ p.rg 4) = false := decide_eq_false h1
      rw [if_neg h1]
      clear h1
      by_cases h2 : p.clk < 80
      · have d2 : decide (p.clk < 80) = true := decide_eq_true h2
        rw [if_pos h2]
        clear h2
        go_enter Try.func59, Try.ntmps59
        go_wp2_with fail
        refine (HA.out _ H.out).mono ?_
        rintro e w' ⟨rfl, hw'⟩
        obtain rfl := hw'.symm
        go_wp2_with fail
        go_ret
        exact ⟨rfl, rfl⟩
      · have d2 : decide (p.clk < 80) = false := decide_eq_false h2
        rw [if_neg h2]
        clear h2
        by_cases h3 : p.clk < 252
        · have d3 : decide (p.clk < 252) = true := decide_eq_true h3
          rw [if_pos h3]
          clear h3
          go_enter Try.func59, Try.ntmps59
          go_wp2_with fail
          refine (HA.out _ H.out).mono ?_
          rintro e w' ⟨rfl, hw'⟩
          obtain rfl := hw'.symm
          go_wp2_with fail
          go_ret
          exact ⟨rfl, rfl⟩
        · have d3 : decide (p.clk < 252) = false := decide_eq_false h3
          rw [if_neg h3]
          clear h3
          go_enter Try.func59, Try.ntmps59
          go_wp2_with fail
          refine (HA.out _ H.out).mono ?_
          rintro e w' ⟨rfl, hw'⟩
          obtain rfl := hw'.symm
          go_wp2_with fail
          go_ret
          exact ⟨rfl, rfl⟩
theorem Pic.mode_b (p : Pic) : p.mode = 0 ∨ p.mode = 1 ∨ p.mode = 2 ∨ p.mode = 3 := by
  unfold Pic.mode
  repeat' split
  all_goals simp
def Pic.locked (p : Pic) (a : Int) : Bool := if p.mode = 2 then isO a else if p.mode = 3 then isO a || isV a else false
set_option maxRecDepth 100000 in
theorem isLocked_any (a : Int) (W : World) (h : PxAt W b p) : Calls Try.prog 42 #[.pointer (some ⟨b, 0, none⟩), .int .i64 a] W fun e w' => e = .returned (.bool (p.locked a)) ∧ w' = W := by
  have HM : Hid (∀ W, PxAt W b p → Calls Try.prog 59 #[.pointer (some ⟨b, 0, none⟩)] W fun e w' => e = .returned (.int .i64 p.mode) ∧ w' = W) := fun W h => mode_any W h
  have HO : Hid (∀ W, Calls Try.prog 44 #[.int .i64 a] W fun e w' => e = .returned (.bool (isO a)) ∧ w' = W) := fun W => isOam_any a W
  have HV : Hid (∀ W, Calls Try.prog 43 #[.int .i64 a] W fun e w' => e = .returned (.bool (isV a)) ∧ w' = W) := fun W => isVram_any a W
  have H : Hid (PxAt W b p) := h
  clear h
  have mb := p.mode_b
  unfold Pic.locked
  generalize p.mode = M at *
  generalize isO a = O at *
  generalize isV a = V at *
  rcases mb with rfl | rfl | rfl | rfl
  · go_enter Try.func42, Try.ntmps42
    go_wp2_with fail
    refine (HM.out _ H.out).mono ?_
    rintro e w' ⟨rfl, hw'⟩
    obtain rfl := hw'.symm
    go_wp2_with fail
    go_ret
    exact ⟨rfl, rfl⟩
  · go_enter Try.func42, Try.ntmps42
    go_wp2_with fail
    refine (HM.out _ H.out).mono ?_
    rintro e w' ⟨rfl, hw'⟩
    obtain rfl := hw'.symm
    go_wp2_with fail
    go_ret
    exact ⟨rfl, rfl⟩
  · go_enter Try.func42, Try.ntmps42
    go_wp2_with fail
    refine (HM.out _ H.out).mono ?_
    rintro e w' ⟨rfl, hw'⟩
    obtain rfl := hw'.symm
    go_wp2_with fail
    refine (HO.out _).mono ?_
    rintro e w' ⟨rfl, hw'⟩
    obtain rfl := hw'.symm
    go_wp2_with fail
    go_ret
    exact ⟨rfl, rfl⟩
  · cases O
    · go_enter Try.func42, Try.ntmps42
      go_wp2_with fail
      refine (HM.out _ H.out).mono ?_
      rintro e w' ⟨rfl, hw'⟩
      obtain rfl := hw'.symm
      go_wp2_with fail
      refine (HO.out _).mono ?_
      rintro e w' ⟨rfl, hw'⟩
      obtain rfl := hw'.symm
      go_wp2_with fail
      refine (HV.out _).mono ?_
      rintro e w' ⟨rfl, hw'⟩
      obtain rfl := hw'.symm
      go_wp2_with fail
      go_ret
      exact ⟨by first | rfl | exact retB (by simp), rfl⟩
    · go_enter Try.func42, Try.ntmps42
      go_wp2_with fail
      refine (HM.out _ H.out).mono ?_
      rintro e w' ⟨rfl, hw'⟩
      obtain rfl := hw'.symm
      go_wp2_with fail
      refine (HO.out _).mono ?_
      rintro e w' ⟨rfl, hw'⟩
      obtain rfl := hw'.symm
      go_wp2_with fail
      go_ret
      exact ⟨by first | rfl | exact retB (by simp), rfl⟩
end Go.Proofs.Ytmjfccdhjhkocaa
