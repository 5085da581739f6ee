/- PortsKeys: the walk, rows 2. -/
import Derived.Test.YteomldlmdpphaaaDoorKk
namespace Go.Proofs.YteomldlmdpphaaaDoor
open Go.RowKit
set_option linter.unusedVariables false
set_option linter.unusedSimpArgs false
set_option maxRecDepth 100000 in
set_option maxHeartbeats 4000000 in
theorem keys_walk2 {W : World} (hL : LaidP W) {aa : Option Addr} {ab ao len cap : Nat} {f : Nat → Nat → Int} (hA : Acts W aa ab ao len cap f) (r : Int) (hr : I64 r) (a : Int) (ha : I64 a) (c : Int) (hc : I64 c) (hR : pickI r 4 = 2) :
    Calls Tryd.prog 4 #[.slice aa len cap, .int .i64 r, .int .i64 a, .int .i64 c] W fun e w' => e = .returned (.bool true) ∧ Up W w' := by
  have HM : Hid _ := made_any hL hA
  have HR : Hid (∀ W, Calls Tryd.prog 14 #[.int .i64 r, .int .i64 4] W fun e w' => e = .returned (.int .i64 (pickI r 4)) ∧ w' = W) := fun W => pick_any r 4 W hr (by decide) (by decide)
  have HA : Hid (∀ W, Calls Tryd.prog 14 #[.int .i64 a, .int .i64 256] W fun e w' => e = .returned (.int .i64 (pickI a 256)) ∧ w' = W) := fun W => pick_any a 256 W ha (by decide) (by decide)
  have HC : Hid (∀ W, Calls Tryd.prog 14 #[.int .i64 c, .int .i64 256] W fun e w' => e = .returned (.int .i64 (pickI c 256)) ∧ w' = W) := fun W => pick_any c 256 W hc (by decide) (by decide)
  have r0 := pickI_lo r 4 (by decide)
  have r1 := pickI_hi r 4 (by decide)
  have a0 := pickI_lo a 256 (by decide)
  have a1 := pickI_hi a 256 (by decide)
  have c0 := pickI_lo c 256 (by decide)
  have c1 := pickI_hi c 256 (by decide)
  rw [hR] at HR
  clear hR r0 r1
  have r0 : (0 : Int) ≤ 2 := by decide
  have r1 : (2 : Int) < 4 := by decide
  generalize pickI a 256 = A at *
  generalize pickI c 256 = C at *
  generalize madeP len f = S at *
  obtain ⟨q, us⟩ := S
  dsimp only at *
  clear hL hA hr ha hc
  generalize hN : W.heap.size = N at *
  go_enter Tryd.func4, Tryd.ntmps4
  go_wp2_with fail
  refine Calls.mono HM.out ?_
  rintro e w1 ⟨rfl, h1⟩
  have o := h1.ok
  have P1 : Hid _ := h1
  clear h1 HM
  go_wp2_with fail
  refine (HR.out _).mono ?_
  rintro e w' ⟨rfl, hw'⟩
  obtain rfl := hw'.symm
  go_wp2_with fail
  refine (HA.out _).mono ?_
  rintro e w' ⟨rfl, hw'⟩
  obtain rfl := hw'.symm
  go_wp2_with fail
  refine (HC.out _).mono ?_
  rintro e w' ⟨rfl, hw'⟩
  obtain rfl := hw'.symm
  clear HR HA HC
  go_wp2_with fail
  refine (P1.out.write 0 (32) (by decide) (by decide) (by omega) (by omega)).mono ?_
  rintro e w2 ⟨rfl, h2⟩
  have P2 : Hid _ := h2
  clear h2 P1
  go_wp2_with fail
  refine (P2.out.press A a0 (by omega)).mono ?_
  rintro e w3 ⟨rfl, h3⟩
  generalize hQ2 : Po.keysThen _ _ = Q2 at h3
  have P3 : Hid _ := h3
  clear h3 P2
  go_wp2_with fail
  refine (P3.out.read 0 (by decide) (by decide)).mono ?_
  rintro e w4 ⟨rfl, h4⟩
  have P4 : Hid _ := h4
  clear h4 P3
  go_wp2_with fail
  refine (P4.out.take 4 (by decide) (by decide)).mono ?_
  rintro e w5 ⟨rfl, h5⟩
  generalize hQ3 : Po.take _ _ = Q3 at h5
  have P5 : Hid _ := h5
  clear h5 P4
  go_wp2_with fail
  refine (P5.out.press C c0 (by omega)).mono ?_
  rintro e w6 ⟨rfl, h6⟩
  generalize hQ4 : Po.keysThen _ _ = Q4 at h6
  have P6 : Hid _ := h6
  clear h6 P5
  obtain ⟨hx, hy, hz⟩ := keys_plain q o 2 A C r0 r1 a0 (by omega) c0 (by omega) Q2 Q3 Q4 hQ2 hQ3 hQ4
  clear hQ2 hQ3 hQ4
  have kA : 0 ≤ kf 32 A ∧ kf 32 A ≤ 15 := kf_b _ A a0 (by omega)
  have kC : 0 ≤ kf 32 C ∧ kf 32 C ≤ 15 := kf_b _ C c0 (by omega)
  replace hx : Q2.rd 0 = 192 + 32 + kf 32 A := hx
  replace hy : Q4.rd 0 = 192 + 32 + kf 32 C := hy
  replace hz : (bits .and .i64 Q4.rq 16 != 0) = (bits .andNot .u8 (kf 32 A) (kf 32 C) != 0) := hz
  have b16 : (bits .and .i64 32 16 == 0) = true := by decide
  have b32 : (bits .and .i64 32 32 == 0) = false := by decide
  have x0 : 0 ≤ Q2.rd 0 := by omega
  have x1 : Q2.rd 0 ≤ 255 := by omega
  have y0 : 0 ≤ Q4.rd 0 := by omega
  have y1 : Q4.rd 0 ≤ 255 := by omega
  have HY : Hid _ := hy
  clear hy
  have HX : Hid _ := hx
  clear hx
  have HZ : Hid _ := hz
  clear hz kA kC
  generalize Q2.rd 0 = X at HX x0 x1 ⊢
  go_wp2_with fail
  refine (P6.out.read 0 (by decide) (by decide)).mono ?_
  rintro e w7 ⟨rfl, h7⟩
  have P7 : Hid _ := h7
  clear h7 P6
  generalize Q4.rd 0 = Y at HY y0 y1 ⊢
  go_wp2_with fail
  generalize hkA : kf (32) A = ka at *
  generalize hkC : kf (32) C = kc at *
  have HKA : Hid _ := hkA
  have HKC : Hid _ := hkC
  clear hkA hkC o
  go_loopw [21, 22] (fun F I wr => ∃ (n : Nat), n ≤ 4 ∧ I = .int .i64 n ∧ F = .bool (fellB 2 ka kc n) ∧ Hid (Pb W [] N Q4 us wr)) (fun _ I _ => 4 - (intOf I).toNat)
  case atStart => exact ⟨0, by omega, rfl, rfl, P7⟩
  case round =>
    obtain ⟨n, hn, rfl, rfl, HP⟩ := hrel
    by_cases hl : n < 4
    · have d1 : decide ((n : Int) < 4) = true := decide_eq_true (by omega)
      have HF : Hid (fellB 2 ka kc (n + 1) = (fellB 2 ka kc n || (downB 2 kc n && !downB 2 ka n))) := rfl
      have gx : (bits .and .i64 (X / 2 ^ n) 1 == 0) = downB 2 ka n := by rw [HX.out]; rfl
      have gy : (bits .and .i64 (Y / 2 ^ n) 1 == 0) = downB 2 kc n := by rw [HY.out]; rfl
      generalize fellB 2 ka kc n = t at HF ⊢
      have ex : downB 2 ka n = bt A n := by rw [← HKA.out]; exact down2 n hl A a0 (by omega)
      have ey : downB 2 kc n = bt C n := by rw [← HKC.out]; exact down2 n hl C c0 (by omega)
      rw [ex] at gx HF
      rw [ey] at gy HF
      clear ex ey HKA HKC HX HY HZ
      unfold bt at gx gy HF
      generalize elA : (bits .and .i64 (A / 2 ^ n) 1 == 1) = lA at gx gy HF
      generalize elC : (bits .and .i64 (C / 2 ^ n) 1 == 1) = lC at gx gy HF
      cases lA <;> cases lC <;> cases t
      all_goals
        try simp only [Bool.or_false, Bool.or_true, Bool.false_or, Bool.true_or, Bool.and_true, Bool.and_false, Bool.false_and, Bool.true_and, Bool.not_true, Bool.not_false, Bool.or_self, Bool.and_self] at gx gy HF
        go_wp2_with fail
        refine ⟨⟨n + 1, by omega, rfl, by rw [HF.out], HP⟩, ?_⟩
        simp [intOf]
        omega
    · have hne : n = 4 := by omega
      subst hne
      have gx : (bits .and .i64 X 240 == 224) = true := by rw [HX.out]; exact and240r 2 ka r0 r1 (HKA.out ▸ (kf_b _ A a0 (by omega)).1) (HKA.out ▸ (kf_b _ A a0 (by omega)).2)
      have gy : (bits .and .i64 Y 240 == 224) = true := by rw [HY.out]; exact and240r 2 kc r0 r1 (HKC.out ▸ (kf_b _ C c0 (by omega)).1) (HKC.out ▸ (kf_b _ C c0 (by omega)).2)
      have gf : fellB 2 ka kc 4 = (bits .andNot .u8 ka kc != 0) := fell4 2 ka kc r0 r1 (HKA.out ▸ (kf_b _ A a0 (by omega)).1) (HKA.out ▸ (kf_b _ A a0 (by omega)).2) (HKC.out ▸ (kf_b _ C c0 (by omega)).1) (HKC.out ▸ (kf_b _ C c0 (by omega)).2)
      have gz : (bits .and .i64 Q4.rq 16 != 0) = fellB 2 ka kc 4 := HZ.out.trans gf.symm
      clear HKA HKC HX HY HZ gf
      generalize fellB 2 ka kc 4 = t at gz ⊢
      go_wp2_with fail
      refine (HP.out.reqs).mono ?_
      rintro e w' ⟨rfl, hw'⟩
      obtain rfl := hw'.symm
      go_wp2_with fail
      go_ret
      exact ⟨by first | rfl | exact retB (by simp), HP.out.up⟩
end Go.Proofs.YteomldlmdpphaaaDoor
