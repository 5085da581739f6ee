/- May a state be? -/
import Derived.Test.YteomldlmdpphaaaDoorPpE
namespace Go.Proofs.YteomldlmdpphaaaDoor
open Go.RowKit
set_option linter.unusedVariables false
variable {b : Nat} {p : Po}
/-- numbers that bytes may say -/
structure Po.In (p : Po) : Prop where
  al : 0 ≤ p.al ∧ p.al ≤ 255
  tr : 0 ≤ p.tr ∧ p.tr ≤ 65535
def mayB (p : Po) : Bool := !((bits .andNot .u8 p.ro 48 != 0) || (bits .andNot .u8 p.li 129 != 0) || (bits .andNot .u8 p.ct 7 != 0) || (bits .andNot .u8 p.rq 31 != 0)) && !(decide (4 < p.al) || decide (4096 < p.tr)) && (if p.tr == 0 then (p.li != 129) && (p.se == 0) else p.li == 129)
set_option maxRecDepth 100000 in
set_option maxHeartbeats 2000000 in
theorem mayBe_any (o : p.In) (v : Value) (W : World) (h : PoAt W b p v) :
    Calls Tryd.prog 45 #[.pointer (some ⟨b, 0, none⟩)] W fun e w' => e = .returned (.bool (mayB p)) ∧ Up W w' := by
  obtain ⟨k0, k1, k2, k3, k4, k5, k6, k7, k8, k9, k10, k11, k12⟩ := h.all
  have a0 := o.al.1
  have a1 := o.al.2
  have t0 := o.tr.1
  have t1 := o.tr.2
  clear h o
  unfold mayB
  generalize e1 : (bits .andNot .u8 p.ro 48 != 0) = B1
  generalize e2 : (bits .andNot .u8 p.li 129 != 0) = B2
  generalize e3 : (bits .andNot .u8 p.ct 7 != 0) = B3
  generalize e4 : (bits .andNot .u8 p.rq 31 != 0) = B4
  generalize e5 : decide (4 < p.al) = B5
  generalize e6 : decide (4096 < p.tr) = B6
  generalize e7 : (p.tr == 0) = B7
  go_enter Tryd.func45, Tryd.ntmps45
  go_wp2_with fail
  all_goals
    go_ret
    exact ⟨by first | rfl | exact retB (by simp_all), Up.refl _⟩
def zB (x : Nat → Int) : Bool := (x 0 == 0) && (x 1 == 0) && (x 2 == 0) && (x 3 == 0) && (x 4 == 0)
theorem zB_no (x : Nat → Int) (n : Nat) (hn : n < 5) (h : x n ≠ 0) : zB x = false := by
  have : n = 0 ∨ n = 1 ∨ n = 2 ∨ n = 3 ∨ n = 4 := by omega
  unfold zB
  rcases this with rfl | rfl | rfl | rfl | rfl <;> simp [h]
theorem zB_yes (x : Nat → Int) (h : ∀ j, j < 5 → x j = 0) : zB x = true := by
  unfold zB
  simp [h 0 (by decide), h 1 (by decide), h 2 (by decide), h 3 (by decide), h 4 (by decide)]
set_option maxRecDepth 100000 in
theorem zeros_any (g o cap : Nat) (x : Nat → Int) (W : World) (hx : ∀ j, j < 5 → W.cell? ⟨g, o + j, none⟩ = some (.int .u8 (x j))) (hc : 5 ≤ cap) (hm : cap ≤ 9223372036854775807) :
    Calls Tryd.prog 46 #[.slice (some ⟨g, o, none⟩) 5 cap] W fun e w' => e = .returned (.bool (zB x)) ∧ Up W w' := by
  have HX : Hid _ := hx
  clear hx
  go_enter Tryd.func46, Tryd.ntmps46
  go_wp2_with fail
  go_loopw [7] (fun I wr => ∃ n : Nat, n ≤ 5 ∧ I = .int .i64 n ∧ wr = W ∧ Hid (∀ j, j < n → x j = 0)) (fun I _ => 5 - (intOf I).toNat)
  case atStart => exact ⟨0, by omega, rfl, rfl, fun j hj => by omega⟩
  case round =>
    obtain ⟨n, hn, rfl, hw, HZ⟩ := hrel
    subst hw
    by_cases hl : n < 5
    · have d1 : decide ((n : Int) < 5) = true := decide_eq_true (by omega)
      have e1 : (n : Int) < 5 := by omega
      have k := HX.out n hl
      by_cases h0 : x n = 0
      · have HZ2 : Hid (∀ j, j < n + 1 → x j = 0) := fun j hj => by
          by_cases e : j = n
          · rw [e]; exact h0
          · exact HZ.out j (by omega)
        have eb : (x n != 0) = false := by rw [h0]; rfl
        clear h0
        go_wp2_with fail
        refine ⟨⟨n + 1, by omega, rfl, by first | rfl | trivial, HZ2⟩, ?_⟩
        simp [intOf]
        omega
      · have eb : (x n != 0) = true := by simp; exact h0
        have HN : Hid _ := zB_no x n hl h0
        clear h0
        go_wp2_with fail
        go_ret
        exact ⟨by rw [HN.out]; rfl, Up.refl _⟩
    · have d1 : decide ((n : Int) < 5) = false := decide_eq_false (by omega)
      have hne : n = 5 := by omega
      subst hne
      have HY : Hid _ := zB_yes x HZ.out
      go_wp2_with fail
      go_ret
      exact ⟨by rw [HY.out]; rfl, Up.refl _⟩
end Go.Proofs.YteomldlmdpphaaaDoor
