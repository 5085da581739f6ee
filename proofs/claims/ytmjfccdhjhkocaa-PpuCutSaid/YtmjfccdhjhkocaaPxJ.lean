/- The STAT line, the window, what STAT reads. -/
import Derived.Test.YtmjfccdhjhkocaaPxI
namespace Go.Proofs.Ytmjfccdhjhkocaa
open Go.RowKit
set_option linter.unusedVariables false
variable {b : Nat} {p : Pic}
def Pic.stl (p : Pic) : Bool := p.has 128 && (bits .and .u8 (p.rg 1) p.causes != 0)
set_option maxRecDepth 100000 in
theorem statLine_any (W : World) (h : PxAt W b p) : Calls Try.prog 49 #[.pointer (some ⟨b, 0, none⟩)] W fun e w' => e = .returned (.bool p.stl) ∧ ∃ n, w' = W.drewN n := by
  have k1 : W.cell? ⟨b, 8353, none⟩ = some (.int .u8 (p.rg 1)) := h.reg 1 (by decide)
  have HA : Hid (∀ W, PxAt W b p → Calls Try.prog 48 #[.pointer (some ⟨b, 0, none⟩), .int .u8 128] W fun e w' => e = .returned (.bool (p.has 128)) ∧ w' = W) := fun W h => has_any 128 W h
  have HC : Hid (∀ W, PxAt W b p → Calls Try.prog 62 #[.pointer (some ⟨b, 0, none⟩)] W fun e w' => e = .returned (.int .u8 p.causes) ∧ ∃ n, w' = W.drewN n) := fun W h => causes_any W h
  have H : Hid (PxAt W b p) := h
  clear h
  unfold Pic.stl
  generalize p.has 128 = B at *
  generalize p.causes = C at *
  generalize p.rg 1 = R at *
  cases B <;>
  · go_enter Try.func49, Try.ntmps49
    go_wp2_with fail
    go_quiet (first | (go_at_call 48; exact Calls.quiet_of_same (HA.out _ (H.out.drewN _))) | (go_at_call 62; exact Calls.quiet_of (HC.out _ (H.out.drewN _))))
    go_wp2_with fail
    go_ret
    exact ⟨by first | rfl | exact retB (by simp), _, rfl⟩
def Pic.win (p : Pic) : Bool := p.has 32 && p.met && decide (p.rg 11 ≤ 166)
set_option maxRecDepth 100000 in
theorem windowThere_any (W : World) (h : PxAt W b p) : Calls Try.prog 71 #[.pointer (some ⟨b, 0, none⟩)] W fun e w' => e = .returned (.bool p.win) ∧ w' = W := by
  have k1 : W.cell? ⟨b, 8363, none⟩ = some (.int .u8 (p.rg 11)) := h.reg 11 (by decide)
  have km := h.metC
  have HA : Hid (∀ W, PxAt W b p → Calls Try.prog 48 #[.pointer (some ⟨b, 0, none⟩), .int .u8 32] W fun e w' => e = .returned (.bool (p.has 32)) ∧ w' = W) := fun W h => has_any 32 W h
  have H : Hid (PxAt W b p) := h
  clear h
  unfold Pic.win
  generalize p.has 32 = B at *
  generalize p.met = M at *
  cases B <;> cases M <;>
  · go_enter Try.func71, Try.ntmps71
    go_wp2_with fail
    refine (HA.out _ H.out).mono ?_
    rintro e w' ⟨rfl, hw'⟩
    obtain rfl := hw'.symm
    go_wp2_with fail
    go_ret
    exact ⟨by first | rfl | exact retB (by simp), rfl⟩
set_option maxRecDepth 100000 in
theorem line_any (i : p.In) (W : World) (h : PxAt W b p) : Calls Try.prog 23 #[.pointer (some ⟨b, 0, none⟩)] W fun e w' => e = .returned (.tuple #[.int .i64 (p.rg 4), .int .i64 p.clk]) ∧ ∃ n, w' = W.drewN n := by
  have k4 : W.cell? ⟨b, 8356, none⟩ = some (.int .u8 (p.rg 4)) := h.reg 4 (by decide)
  have kc := h.clk
  have r0 := (i.rg 4).1
  have r1 := (i.rg 4).2
  clear h i
  go_enter Try.func23, Try.ntmps23
  go_wp2_with fail
  go_quiet (fail)
  go_wp2_with fail
  go_ret2
  exact ⟨by first | rfl | (simp; done), _, rfl⟩
def Pic.statB (p : Pic) : Int := if p.matches = true then bits .or .u8 (bits .or .u8 (bits .or .u8 128 (p.rg 1)) p.mode) 4 else bits .or .u8 (bits .or .u8 128 (p.rg 1)) p.mode
set_option maxRecDepth 100000 in
theorem readStat_any (W : World) (h : PxAt W b p) : Calls Try.prog 61 #[.pointer (some ⟨b, 0, none⟩)] W fun e w' => e = .returned (.int .u8 p.statB) ∧ ∃ n, w' = W.drewN n := by
  have k1 : W.cell? ⟨b, 8353, none⟩ = some (.int .u8 (p.rg 1)) := h.reg 1 (by decide)
  have HM : Hid (∀ W, PxAt W b p → Calls Try.prog 59 #[.pointer (some ⟨b, 0, none⟩)] W fun e w' => e = .returned (.int .i64 p.mode) ∧ w' = W) := fun W h => mode_any W h
  have HX : Hid (∀ W, PxAt W b p → Calls Try.prog 69 #[.pointer (some ⟨b, 0, none⟩)] W fun e w' => e = .returned (.bool p.matches) ∧ ∃ n, w' = W.drewN n) := fun W h => matches_any W h
  have H : Hid (PxAt W b p) := h
  clear h
  have m0 : 0 ≤ p.mode ∧ p.mode ≤ 3 := by rcases p.mode_b with e | e | e | e <;> omega
  obtain ⟨m1, m2⟩ := m0
  unfold Pic.statB
  generalize p.mode = M at *
  generalize p.matches = X at *
  cases X <;>
  · go_enter Try.func61, Try.ntmps61
    go_wp2_with fail
    go_quiet (first | (go_at_call 59; exact Calls.quiet_of_same (HM.out _ (H.out.drewN _))))
    go_wp2_with fail
    refine (HX.out _ (H.out.drewN _)).mono ?_
    rintro e w' ⟨rfl, n, rfl⟩
    go_wp2_with fail
    go_ret
    exact ⟨by first | rfl | exact ret1 (by simp), _, rfl⟩
end Go.Proofs.Ytmjfccdhjhkocaa
