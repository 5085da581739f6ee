/- Sched: the law's own question who is ready. -/
import Derived.Test.YtakciepfckdpfaaScQ
namespace Go.Proofs.Ytakciepfckdpfaa
open Go.RowKit
set_option linter.unusedVariables false
set_option linter.unusedSimpArgs false
variable {w w' W : World}
def kdF (f : Nat → Nat → Int) (i : Nat) : Nat := (pickI (f i 0) 8).toNat
def tdF (f : Nat → Nat → Int) (n : Nat) (i : Nat) : Nat := (pickI (f i 1) (n : Int)).toNat
theorem pick_kd {aa : Option Addr} {ab ao len cap : Nat} {f : Nat → Nat → Int} (D : Act2s W aa ab ao len cap f) (i : Nat) : kdF f i < 8 ∧ ∀ w, Calls Try.prog 9 #[.int .i64 (f i 0), .int .i64 8] w fun e w' => e = .returned (.int .i64 (kdF f i : Int)) ∧ w' = w := by
  have h1 := pickI_lo (f i 0) 8 (by decide)
  have h2 := pickI_hi (f i 0) 8 (by decide)
  have e : (kdF f i : Int) = pickI (f i 0) 8 := by unfold kdF; omega
  refine ⟨by unfold kdF; omega, fun w => ?_⟩
  rw [e]
  exact pick_any _ 8 w (D.i64 i 0) (by decide) (by decide)
theorem pick_td {aa : Option Addr} {ab ao len cap n : Nat} {f : Nat → Nat → Int} (D : Act2s W aa ab ao len cap f) (h : 0 < n) (h9 : n ≤ 1000) (i : Nat) : tdF f n i < n ∧ ∀ w, Calls Try.prog 9 #[.int .i64 (f i 1), .int .i64 (n : Int)] w fun e w' => e = .returned (.int .i64 (tdF f n i : Int)) ∧ w' = w := by
  have h1 := pickI_lo (f i 1) (n : Int) (by omega)
  have h2 := pickI_hi (f i 1) (n : Int) (by omega)
  have e : (tdF f n i : Int) = pickI (f i 1) (n : Int) := by unfold tdF; omega
  refine ⟨by unfold tdF; omega, fun w => ?_⟩
  rw [e]
  exact pick_any _ _ w (D.i64 i 1) (by omega) (by omega)
theorem dec6 (c : Nat) : decide (c = 6) = ((c : Int) == 6) := by
  by_cases e : c = 6
  · simp [e]
  · have : ¬ (c : Int) = 6 := by omega
    simp [e, this]
set_option maxRecDepth 100000 in
set_option maxHeartbeats 1000000 in
theorem readyL_any {aa : Option Addr} {ab ao len cap n me L j : Nat} {f : Nat → Nat → Int} (D : Act2s W aa ab ao len cap f) (h : 0 < n) (h9 : n ≤ 1000) (u : Up W w) (hL : L ≤ len) :
    Calls Try.prog 15 #[.slice aa L cap, .int .i64 (j : Int), .int .i64 (n : Int), .int .i64 (me : Int)] w fun e w' => e = .returned (.bool (rdF (kdF f) (tdF f n) me L (j : Int))) ∧ w' = w := by
  have l1 := D.lc
  have l2 : cap ≤ 9223372036854775807 := by have := D.cm; unfold maxLen at this; omega
  have HC : Hid (∀ i, i < L → aa = some ⟨ab, ao, none⟩ ∧ w.cell? ⟨ab, ao + i * 2, none⟩ = some (.int .i64 (f i 0)) ∧ w.cell? ⟨ab, ao + i * 2 + 1, none⟩ = some (.int .i64 (f i 1))) := fun i hi => ⟨D.ad (by omega), cell_up u (D.cell i (by omega) 0 (by decide)), cell_up u (D.cell i (by omega) 1 (by decide))⟩
  have HP : Hid (∀ i, kdF f i < 8 ∧ ∀ w, Calls Try.prog 9 #[.int .i64 (f i 0), .int .i64 8] w fun e w' => e = .returned (.int .i64 (kdF f i : Int)) ∧ w' = w) := pick_kd D
  have HQ : Hid (∀ i, tdF f n i < n ∧ ∀ w, Calls Try.prog 9 #[.int .i64 (f i 1), .int .i64 (n : Int)] w fun e w' => e = .returned (.int .i64 (tdF f n i : Int)) ∧ w' = w) := pick_td D h h9
  clear D u
  generalize kdF f = kd at *
  generalize tdF f n = td at *
  go_enter Try.func15, Try.ntmps15
  go_wp2_with fail
  go_loop [9, 10] (fun Y I => ∃ i : Nat, i ≤ L ∧ I = .int .i64 (i : Int) ∧ Y = .bool (rdF kd td me i (j : Int))) (fun _ I => L - (intOf I).toNat)
  case atStart => exact ⟨0, by omega, rfl, rfl⟩
  case round =>
    obtain ⟨i, hi, rfl, rfl⟩ := hrel
    by_cases hlt : i < L
    · have d1 : (i : Int) < (L : Int) := by omega
      obtain ⟨rfl, k0, k1⟩ := HC.out i hlt
      obtain ⟨c8, p1⟩ := HP.out i
      obtain ⟨tn, p2⟩ := HQ.out i
      have P1 : Hid _ := p1
      have P2 : Hid _ := p2
      have HR : Hid (rdF kd td me (i + 1) (j : Int) = if 6 ≤ kd i ∧ (td i : Int) = (j : Int) ∧ td i ≠ me then decide (kd i = 6) else rdF kd td me i (j : Int)) := rfl
      clear HC HP HQ p1 p2
      generalize rdF kd td me i (j : Int) = y at *
      generalize hzz : rdF kd td me (i + 1) (j : Int) = z at HR
      have HZ0 : Hid (rdF kd td me (i + 1) (j : Int) = z) := hzz
      clear hzz
      generalize kd i = c at *
      generalize td i = t at *
      go_wp2_with fail
      refine (P1.out _).mono ?_
      rintro e w' ⟨rfl, hw⟩
      obtain rfl := hw.symm
      clear hw
      go_wp2_with fail
      refine (P2.out _).mono ?_
      rintro e w' ⟨rfl, hw⟩
      obtain rfl := hw.symm
      clear hw P1 P2
      by_cases h6 : 6 ≤ c
      · have b1 : (6 : Int) ≤ (c : Int) := by omega
        by_cases htj : t = j
        · have b2 : ((t : Int) == (j : Int)) = true := by simp [htj]
          by_cases htm : t = me
          · have b3 : ((t : Int) == (me : Int)) = true := by simp [htm]
            have HZ : Hid (z = y) := by show z = y; rw [HR.out, if_neg (fun h => h.2.2 htm)]
            clear HR htj htm
            go_wp2_with fail
            refine ⟨⟨i + 1, by omega, by first | rfl | (simp; done), by rw [HZ0.out, HZ.out]⟩, ?_⟩
            simp [intOf]
            omega
          · have b3 : ((t : Int) == (me : Int)) = false := by simp; omega
            have HZ : Hid (z = ((c : Int) == 6)) := by show z = _; rw [HR.out, if_pos ⟨h6, by omega, htm⟩]; exact dec6 c
            clear HR htj htm
            go_wp2_with fail
            refine ⟨⟨i + 1, by omega, by first | rfl | (simp; done), by rw [HZ0.out, HZ.out]⟩, ?_⟩
            simp [intOf]
            omega
        · have b2 : ((t : Int) == (j : Int)) = false := by simp; omega
          have HZ : Hid (z = y) := by show z = y; rw [HR.out, if_neg (fun h => htj (by omega))]
          clear HR htj
          go_wp2_with fail
          refine ⟨⟨i + 1, by omega, by first | rfl | (simp; done), by rw [HZ0.out, HZ.out]⟩, ?_⟩
          simp [intOf]
          omega
      · have b1 : ¬ (6 : Int) ≤ (c : Int) := by omega
        have HZ : Hid (z = y) := by show z = y; rw [HR.out, if_neg (fun h => h6 h.1)]
        clear HR
        go_wp2_with fail
        refine ⟨⟨i + 1, by omega, by first | rfl | (simp; done), by rw [HZ0.out, HZ.out]⟩, ?_⟩
        simp [intOf]
        omega
    · have d1 : ¬ (i : Int) < (L : Int) := by omega
      obtain rfl : L = i := by omega
      go_wp2_with fail
      go_ret
      exact ⟨by first | rfl | (simp; done), rfl⟩
end Go.Proofs.Ytakciepfckdpfaa
