/- PortsTimed: the walk, drive 2. -/
import Derived.Test.YteomldlmdpphaaaDoorKtn
import Derived.Test.YteomldlmdpphaaaDoorPpR
namespace Go.Proofs.YteomldlmdpphaaaDoor
open Go.RowKit
set_option linter.unusedVariables false
set_option maxRecDepth 100000 in
set_option maxHeartbeats 4000000 in
theorem timed_walk2 {W : World} (hL : LaidP W) {aa : Option Addr} {ab ao len cap : Nat} {f : Nat → Nat → Int} (hA : Acts W aa ab ao len cap f) (r : Int) (hr : I64 r) (a : Int) (ha : I64 a) (c : Int) (hc : I64 c) (hR : pickI r 4 = 2) :
    Calls Tryd.prog 3 #[.slice aa len cap, .int .i64 r, .int .i64 a, .int .i64 c] W fun e w' => e = .returned (.bool true) ∧ Up W w' := by
  have HM : Hid _ := made_any hL hA
  have HR : Hid (∀ W, Calls Tryd.prog 14 #[.int .i64 r, .int .i64 4] W fun e w' => e = .returned (.int .i64 2) ∧ w' = W) := fun W => by have := pick_any r 4 W hr (by decide) (by decide); rw [hR] at this; exact this
  have HA : Hid (∀ W, Calls Tryd.prog 14 #[.int .i64 a, .int .i64 256] W fun e w' => e = .returned (.int .i64 (pickI a 256)) ∧ w' = W) := fun W => pick_any a 256 W ha (by decide) (by decide)
  have HC : Hid (∀ W, Calls Tryd.prog 14 #[.int .i64 c, .int .i64 4] W fun e w' => e = .returned (.int .i64 (pickI c 4)) ∧ w' = W) := fun W => pick_any c 4 W hc (by decide) (by decide)
  have a0 := pickI_lo a 256 (by decide)
  have a1 := pickI_hi a 256 (by decide)
  have c0 := pickI_lo c 4 (by decide)
  have c1 := pickI_hi c 4 (by decide)
  generalize pickI a 256 = A at *
  generalize pickI c 4 = C at *
  generalize madeP len f = S at *
  obtain ⟨q, us⟩ := S
  dsimp only at *
  clear hL hA hr ha hc hR
  generalize hN : W.heap.size = N at *
  go_enter Tryd.func3, Tryd.ntmps3
  go_wp2_with fail
  refine Calls.mono HM.out ?_
  rintro e w1 ⟨rfl, h1⟩
  have o := h1.ok
  have P1 : Hid _ := h1
  clear h1 HM
  have T6 : ((((((q.wr 6 0).wr 3 0).wr 4 255).wr 5 A).wr 6 6).take 2).Tm 6 A 0 255 0 false := setup_tm q o 2 A (by decide) (by decide)
  go_wp2_with fail
  refine (HR.out _).mono ?_
  rintro e w' ⟨rfl, hw'⟩
  obtain rfl := hw'.symm
  go_wp2_with fail
  refine (HA.out _).mono ?_
  rintro e w' ⟨rfl, hw'⟩
  obtain rfl := hw'.symm
  go_wp2_with fail
  refine ((P1.out.more ((Up.refl w1).alloc _)).write 6 0 (by decide) (by decide) (by decide) (by decide)).mono ?_
  rintro e w2 ⟨rfl, h2⟩
  have P2 : Hid _ := h2
  clear h2 P1
  go_wp2_with fail
  refine (P2.out.write 3 0 (by decide) (by decide) (by decide) (by decide)).mono ?_
  rintro e w3 ⟨rfl, h3⟩
  have P3 : Hid _ := h3
  clear h3 P2
  go_wp2_with fail
  refine (P3.out.write 4 255 (by decide) (by decide) (by decide) (by decide)).mono ?_
  rintro e w4 ⟨rfl, h4⟩
  have P4 : Hid _ := h4
  clear h4 P3
  go_wp2_with fail
  refine (P4.out.write 5 A (by decide) (by decide) a0 (by omega)).mono ?_
  rintro e w5 ⟨rfl, h5⟩
  have P5 : Hid _ := h5
  clear h5 P4
  go_wp2_with fail
  refine (P5.out.write 6 6 (by decide) (by decide) (by decide) (by decide)).mono ?_
  rintro e w6 ⟨rfl, h6⟩
  have P6 : Hid _ := h6
  clear h6 P5
  go_wp2_with fail
  refine (P6.out.take 2 (by decide) (by decide)).mono ?_
  rintro e w7 ⟨rfl, h7⟩
  have P7 : Hid _ := h7
  clear h7 P6
  go_wp2_with fail
  have o7 := P7.out.ok
  have hz := P7.out.len
  generalize ((((((q.wr 6 0).wr 3 0).wr 4 255).wr 5 A).wr 6 6).take 2) = q7 at *
  have T7 : q7.Tm 6 A 0 255 0 false := T6
  clear T6 o
  have F1 := first_tm T7 o7 (by decide) us hz
  have O1 := run_okc o7 us hz 67
  change (q7.run us 67).1.Tm 6 A 67 0 1 false at F1
  have F2 := F1.ring O1.1 (by decide) (by decide) (q7.run us 67).2
  have O2 := run_okc O1.1 (q7.run us 67).2 O1.2 1
  clear o7 hz T7
  refine (P7.out.step 67 (by decide) (by decide)).mono ?_
  rintro e w8 ⟨rfl, h8⟩
  have P8 : Hid _ := h8
  clear h8 P7
  generalize q7.run us 67 = S8 at *
  obtain ⟨q8, us8⟩ := S8
  dsimp only at *
  have g8 : (bits .and .i64 q8.rq 4 != 0) = false := F1.t4
  clear F1 O1
  go_wp2_with fail
  refine (P8.out.reqs).mono ?_
  rintro e w' ⟨rfl, hw'⟩
  obtain rfl := hw'.symm
  go_wp2_with fail
  refine (P8.out.step 1 (by decide) (by decide)).mono ?_
  rintro e w9 ⟨rfl, h9⟩
  have P9 : Hid _ := h9
  clear h9 P8 g8
  generalize q8.run us8 1 = S9 at *
  obtain ⟨q9, us9⟩ := S9
  dsimp only at *
  have g9 : (bits .and .i64 q9.rq 4 == 0) = false := eq0_of_ne F2.t4
  have t9 : q9.rd 4 = A := F2.ti
  have hAA : (A != A) = false := by simp
  go_wp2_with fail
  refine (P9.out.read 4 (by decide) (by decide)).mono ?_
  rintro e w10 ⟨rfl, h10⟩
  rw [t9]
  have P10 : Hid _ := h10
  clear h10 P9 t9
  go_wp2_with fail
  refine (P10.out.reqs).mono ?_
  rintro e w' ⟨rfl, hw'⟩
  obtain rfl := hw'.symm
  have F9 : Hid (q9.Tm 6 A ((67 + 1) % 65536) A 0 true ∧ q9.Ok ∧ us9.length ≤ 256) := ⟨F2, O2⟩
  clear F2 O2
  go_wp2_with fail
  have P12 : Hid _ := P10.out
  clear P10 g9 hAA HR HA
  have D : 2 * drv 6 = 64 := by decide
  go_loopw [20, 22] (fun T I wr => ∃ (n : Nat) (q : Po) (zs : List Int) (cl : Int), (n : Int) ≤ 1 + C ∧ I = .int .i64 n ∧ T = .int .i64 cl ∧ cl = 68 + (n : Int) * ((256 - A) * 64) ∧ cl % 64 = 4 ∧ 0 ≤ cl ∧ cl ≤ 68 + 262144 * (n : Int) ∧ Hid (q.Tm 6 A (cl % 65536) A 0 true) ∧ Hid (Pb W [] N q zs wr)) (fun _ I _ => 4 - (intOf I).toNat)
  case atStart => exact ⟨0, q9, us9, 68, by omega, rfl, rfl, by simp, by decide, by decide, by decide, F9.out.1, P12⟩
  case round =>
    clear F9 P12
    obtain ⟨n, q, zs, cl, hn, rfl, rfl, hcl, hmod, cl0, cl1, HT, HP⟩ := hrel
    by_cases hl : (n : Int) < 1 + C
    · have d1 : decide ((n : Int) < 1 + C) = true := decide_eq_true hl
      have oq := HP.out.ok
      have lz := HP.out.len
      have Tt : (q.take 2).Tm 6 A (cl % 65536) A 0 false := ⟨HT.out.ct, HT.out.ag, HT.out.co, HT.out.ti, HT.out.al, (t4_facts q.rq oq.rq.1 (by have := oq.rq.2; omega)).2.2⟩
      have ot := oq.take 2
      have HTk : Hid _ := HP.out.take 2 (by decide) (by decide)
      generalize q.take 2 = r at *
      have R1 := period_tm Tt ot (by decide) zs lz (by omega) (by omega) a0 (by omega) (by rw [D]; omega) ((256 - A) * 64) (by rw [D])
      have K1 := run_okc ot zs lz ((256 - A) * 64 - 1)
      have R2 := R1.ring K1.1 (by decide) (by rw [D]; omega) (r.run zs ((256 - A) * 64 - 1)).2
      have K2 := run_okc K1.1 (r.run zs ((256 - A) * 64 - 1)).2 K1.2 1
      have ec : ((cl % 65536 + (256 - A) * 64 - 1) % 65536 + 1) % 65536 = (cl + (256 - A) * 64) % 65536 := by omega
      rw [ec] at R2
      have R1t := R1.t4
      clear R1 Tt HT HP ec oq
      have HcN : Hid (cl + (256 - A) * 64 = 68 + ((n + 1 : Nat) : Int) * ((256 - A) * 64)) := by
        show _ = _
        rw [show ((n + 1 : Nat) : Int) = (n : Int) + 1 by omega, Int.add_mul]
        omega
      clear hcl
      go_wp2_with fail
      refine (HC.out _).mono ?_
      rintro e w' ⟨rfl, hw'⟩
      obtain rfl := hw'.symm
      go_wp2_with fail
      refine Calls.mono HTk.out ?_
      rintro e v1 ⟨rfl, k1⟩
      have Q1 : Hid _ := k1
      clear k1 HTk
      go_wp2_with fail
      refine (Q1.out.step ((256 - A) * 64 - 1) (by omega) (by omega)).mono ?_
      rintro e v2 ⟨rfl, k2⟩
      have Q2 : Hid _ := k2
      clear k2 Q1
      generalize r.run zs ((256 - A) * 64 - 1) = S1 at *
      obtain ⟨r1, zs1⟩ := S1
      dsimp only at *
      have g1 : (bits .and .i64 r1.rq 4 != 0) = false := R1t
      clear R1t
      go_wp2_with fail
      refine (Q2.out.reqs).mono ?_
      rintro e w' ⟨rfl, hw'⟩
      obtain rfl := hw'.symm
      go_wp2_with fail
      refine (Q2.out.step 1 (by decide) (by decide)).mono ?_
      rintro e v3 ⟨rfl, k3⟩
      have Q3 : Hid _ := k3
      clear k3 Q2
      generalize r1.run zs1 1 = S2 at *
      obtain ⟨r2, zs2⟩ := S2
      dsimp only at *
      have g2 : (bits .and .i64 r2.rq 4 == 0) = false := eq0_of_ne R2.t4
      have HR2 : Hid _ := R2
      clear R2 K1 K2
      go_wp2_with fail
      refine (Q3.out.reqs).mono ?_
      rintro e w' ⟨rfl, hw'⟩
      obtain rfl := hw'.symm
      go_wp2_with fail
      refine ⟨⟨n + 1, r2, zs2, cl + (256 - A) * 64, by omega, rfl, rfl, HcN.out, by omega, by omega, by omega, HR2, Q3⟩, ?_⟩
      simp [intOf]
      omega
    · have d1 : decide ((n : Int) < 1 + C) = false := decide_eq_false hl
      have rd3 : q.rd 3 = cl % 65536 / 256 := by show q.co / 256 = _; rw [HT.out.co]
      have rd3' : Hid (cl % 65536 / 256 = cl / 256 % 256) := by show _ = _; omega
      clear HT hcl
      go_wp2_with fail
      refine (HC.out _).mono ?_
      rintro e w' ⟨rfl, hw'⟩
      obtain rfl := hw'.symm
      go_wp2_with fail
      refine (HP.out.read 3 (by decide) (by decide)).mono ?_
      rintro e v1 ⟨rfl, k1⟩
      rw [rd3, rd3'.out]
      have Q1 : Hid _ := k1
      clear k1 HP rd3
      go_wp2_with fail
      go_ret
      exact ⟨by first | rfl | exact retB (by simp), Q1.out.up⟩
end Go.Proofs.YteomldlmdpphaaaDoor
