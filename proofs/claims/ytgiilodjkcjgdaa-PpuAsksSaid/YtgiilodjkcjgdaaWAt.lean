/- PpuAsks: the walk. -/
import Derived.Test.YtgiilodjkcjgdaaWAs
namespace Go.Proofs.Ytgiilodjkcjgdaa
open Go.RowKit
set_option linter.unusedVariables false
variable {b : Nat} {p : Pic}
set_option maxRecDepth 100000 in
set_option maxHeartbeats 4000000 in
theorem asks_walk {W : World} {s0 y0 f0 : Int} (hs : I64 s0) (hy : I64 y0) (hf : I64 f0) :
    Calls Try.prog 5 #[.int .i64 s0, .int .i64 y0, .int .i64 f0] W fun e w' => e = .returned (.bool true) ∧ Up W w' := by
  have HN : Hid _ := newP_any W
  have HPs : Hid (∀ W, Calls Try.prog 17 #[.int .i64 s0, .int .i64 16] W fun e w' => e = .returned (.int .i64 (pickI s0 16)) ∧ w' = W) := fun W => pick_any s0 16 W hs (by decide) (by decide)
  have s1 := pickI_lo s0 16 (by decide)
  have s2 := pickI_hi s0 16 (by decide)
  have HPy : Hid (∀ W, Calls Try.prog 17 #[.int .i64 y0, .int .i64 256] W fun e w' => e = .returned (.int .i64 (pickI y0 256)) ∧ w' = W) := fun W => pick_any y0 256 W hy (by decide) (by decide)
  have y1 := pickI_lo y0 256 (by decide)
  have y2 := pickI_hi y0 256 (by decide)
  have HPf : Hid (∀ W, Calls Try.prog 17 #[.int .i64 f0, .int .i64 2] W fun e w' => e = .returned (.int .i64 (pickI f0 2)) ∧ w' = W) := fun W => pick_any f0 2 W hf (by decide) (by decide)
  have f1 := pickI_lo f0 2 (by decide)
  have f2 := pickI_hi f0 2 (by decide)
  generalize pickI y0 256 = y at *
  generalize pickI s0 16 = t at *
  generalize pickI f0 2 = F at *
  have hO := oct_of t s1 s2
  have HO : Hid (Oct (t * 8)) := hO
  have HB : Hid (Bare (asksPic (t * 8) y)) := asksPic_bare (t * 8) y (by omega) (by omega) y1 (by omega)
  have HW1 : Hid (∀ W g, PxAt W g (newPic.setR 5 y) → Calls Try.prog 16 #[.pointer (some ⟨g, 0, none⟩), .int .i64 65345, .int .i64 (t * 8)] W fun e w' => e = .returned (.tuple #[]) ∧ PxAt w' g (asksPic (t * 8) y) ∧ Fr g W w') := fun W g h => writeR_any (q := asksPic (t * 8) y) 1 (by decide) 65345 (t * 8) rfl W h (fun W h => by have := wreg1_any (cutB (t * 8)) W h; rw [oct_and _ HO.out] at this; exact this)
  clear hs hy hf hO
  generalize hg : W.heap.size = g at HN
  have HQ : Hid (W.heap.size ≤ g) := Nat.le_of_eq hg
  obtain ⟨N, hN⟩ : ∃ N : Nat, N = 17556 := ⟨_, rfl⟩
  have HNN : Hid (N = 17556) := hN
  clear hN
  go_enter Try.func5, Try.ntmps5
  go_wp2_with fail
  refine Calls.mono HN.out ?_
  rintro e w1 ⟨rfl, h1, u1⟩
  have H1 : Hid _ := And.intro h1 u1
  clear h1 u1 HN hg
  go_wp2_with fail
  refine (HPs.out _).mono ?_
  rintro e w' ⟨rfl, hw'⟩
  obtain rfl := hw'.symm
  go_wp2_with fail
  refine (HPy.out _).mono ?_
  rintro e w' ⟨rfl, hw'⟩
  obtain rfl := hw'.symm
  go_wp2_with fail
  have HW : Hid _ := writeR_any (q := newPic.setR 5 y) 5 (by decide) 65349 y rfl w1 H1.out.1 (fun W h => by rw [cutB_same y1 (by omega)]; exact wreg5_any y W h)
  refine Calls.mono HW.out ?_
  rintro e w2 ⟨rfl, h2, F2⟩
  have H2 : Hid (PxAt w2 g (newPic.setR 5 y) ∧ Up W w2) := ⟨h2, Fr.up H1.out.2 HQ.out F2⟩
  clear h2 F2 HW H1
  go_wp2_with fail
  refine (HW1.out _ _ H2.out.1).mono ?_
  rintro e w3 ⟨rfl, h3, F3⟩
  have H3 : Hid (Tb W g (asksPic (t * 8) y) 0 w3) := ⟨⟨_, asksPic_tk _ y, h3⟩, Fr.up H2.out.2 HQ.out F3, HQ.out⟩
  clear h3 F3 H2 HW1
  go_wp2_with fail
  clear HPs HPy
  go_loopw [10] (fun I wr => ∃ (i : Nat), i ≤ 17556 ∧ I = .int .i64 i ∧ Hid (Tb W g (asksPic (t * 8) y) i wr)) (fun I _ => 17556 - (intOf I).toNat)
  case atStart => exact ⟨0, by omega, rfl, H3⟩
  case round =>
    clear H3
    obtain ⟨i, hi, rfl, M0⟩ := hrel
    by_cases hlt : i < 17556
    · have d1 : decide ((i : Int) < 17556) = true := decide_eq_true (by omega)
      have e1 : (i : Int) < 17556 := by omega
      have HT : Hid _ := M0.out.tick HB.out
      go_wp2_with fail
      refine Calls.mono HT.out ?_
      rintro e w4 ⟨rfl, h4⟩
      have H4 : Hid _ := h4
      clear h4 HT
      go_wp2_with fail
      refine ⟨⟨i + 1, by omega, ?_, H4⟩, ?_⟩
      · first | rfl | (simp; done)
      · simp [intOf]
        omega
    · have d1 : decide ((i : Int) < 17556) = false := decide_eq_false (by omega)
      have ei : i = N := by have := HNN.out; omega
      have M1 : Hid (Tb W g (asksPic (t * 8) y) (N + 0) wr) := by show Tb _ _ _ _ _; rw [← ei]; exact M0.out
      clear M0 ei
      have hF : F = 0 ∨ F = 1 := by omega
      rcases hF with rfl | rfl
      · go_wp2_with fail
        refine (HPf.out _).mono ?_
        rintro e w' ⟨rfl, hw'⟩
        obtain rfl := hw'.symm
        clear HPf
        go_wp2_with fail
        obtain ⟨wo, rfl⟩ : ∃ wo : World, wo = wr := ⟨_, rfl⟩
        go_loopw [12, 13, 14] (fun A C I wr => ∃ (m a c : Nat), m ≤ 17556 ∧ I = .int .i64 m ∧ A = .int .i64 a ∧ C = .int .i64 c ∧ Hid (a = edgeU (t * 8) y m ∧ c = (m + 1140) / 17556) ∧ Hid (Tb W g (asksPic (t * 8) y) (N + m) wr)) (fun _ _ I _ => 17556 - (intOf I).toNat)
        case atStart => exact ⟨0, 0, 0, by omega, rfl, rfl, rfl, ⟨rfl, rfl⟩, M1⟩
        case round =>
          clear M1
          obtain ⟨m, a, c, hm, rfl, rfl, rfl, hA, M0⟩ := hrel
          by_cases hlm : m < 17556
          · have d1 : decide ((m : Int) < 17556) = true := decide_eq_true (by omega)
            have e1 : (m : Int) < 17556 := by omega
            have a0 : (a : Int) ≤ 17556 := by have := edgeU_le (t * 8) y m; have := hA.out.1; omega
            have c0 : (c : Int) ≤ 3 := by have := hA.out.2; omega
            have HT : Hid _ := M0.out.tick HB.out
            obtain ⟨v, hv⟩ : ∃ v, v = (blankK (N + m + 1) + (if (asksPic (t * 8) y).stlK (N + m) = false ∧ (asksPic (t * 8) y).stlK (N + m + 1) = true then 2 else 0)) := ⟨_, rfl⟩
            rw [← hv] at HT
            have eb : blankK (N + m + 1) = blankK (m + 1) := by have := HNN.out; unfold blankK; rw [show (N + m + 1 + 1140) % 17556 = (m + 1 + 1140) % 17556 by omega]
            have el : letsK (t * 8) y (N + m) = letsK (t * 8) y m := by rw [Nat.add_comm N m]; exact letsK_ring _ _ HNN.out m
            have em : letsK (t * 8) y (N + m + 1) = letsK (t * 8) y (m + 1) := by rw [show N + m + 1 = m + 1 + N by omega]; exact letsK_ring _ _ HNN.out (m + 1)
            rw [eb, asksPic_stl _ _ HO.out, asksPic_stl _ _ HO.out, el, em] at hv
            have hb : bits .and .i64 v 1 = blankK (m + 1) := by
              rw [hv]
              unfold blankK
              split <;> split <;> decide
            have hd : v / 2 = (edgeI (t * 8) y m : Int) := by
              rw [hv]
              unfold blankK edgeI
              split <;> split <;> decide
            have v0 : 0 ≤ v ∧ v ≤ 3 := by
              rw [hv]
              unfold blankK
              split <;> split <;> decide
            obtain ⟨v1, v2⟩ := v0
            have HA2 : Hid ((c : Int) + blankK (m + 1) = (((m + 1 + 1140) / 17556 : Nat) : Int)) := by
              have := hA.out.2
              show _ = _
              unfold blankK
              split <;> omega
            have HA3 : Hid ((a : Int) + (edgeI (t * 8) y m : Int) = ((edgeU (t * 8) y (m + 1) : Nat) : Int)) := by
              show _ = _
              rw [hA.out.1]
              exact (Int.natCast_add _ _).symm
            have hb2 : 0 ≤ blankK (m + 1) ∧ blankK (m + 1) ≤ 1 := by unfold blankK; split <;> decide
            have he2 : 0 ≤ (edgeI (t * 8) y m : Int) ∧ (edgeI (t * 8) y m : Int) ≤ 1 := by unfold edgeI; split <;> decide
            obtain ⟨b1, b2⟩ := hb2
            obtain ⟨i1, i2⟩ := he2
            generalize blankK (m + 1) = B1 at *
            generalize (edgeI (t * 8) y m : Int) = E1 at *
            clear hv eb el em
            go_wp2_with fail
            refine Calls.mono HT.out ?_
            rintro e w5 ⟨rfl, h5⟩
            have H5 : Hid _ := h5
            clear h5 HT
            go_wp2_with fail
            refine ⟨⟨m + 1, edgeU (t * 8) y (m + 1), (m + 1 + 1140) / 17556, by omega, ?_, ?_, ?_, ⟨rfl, rfl⟩, H5⟩, ?_⟩
            · first | rfl | (simp; done)
            · rw [← HA3.out]
            · rw [← HA2.out]
            · simp [intOf]
              omega
          · have d1 : decide ((m : Int) < 17556) = false := decide_eq_false (by omega)
            have em : m = N := by have := HNN.out; omega
            have HE : Hid (∀ W, Calls Try.prog 22 #[.int .i64 (t * 8), .int .i64 y] W fun e w' => e = .returned (.int .i64 (edgeU (t * 8) y N : Nat)) ∧ w' = W) := fun W => edges_any (t * 8) y HNN.out W
            have HRs : Hid _ := M0.out.readStat HB.out
            have hS : (bits .and .i64 ((asksPic (t * 8) y).statK (N + m)) 120 == t * 8) = true := beq_iff_eq.2 (asksPic_stat _ y HO.out _ (by have := HNN.out; unfold lnK; omega) (by have := HNN.out; unfold ckK; omega))
            have ha : ((a : Int) == (edgeU (t * 8) y N : Int)) = true := beq_iff_eq.2 (by rw [hA.out.1, em])
            have hE : (edgeU (t * 8) y N : Int) ≤ 17556 := by have := edgeU_le (t * 8) y N; have := HNN.out; omega
            have hc : c = 1 := by have := hA.out.2; have := HNN.out; omega
            subst hc
            have HUp : Hid (∀ n, Up W (wr.drewN n)) := fun n => (M0.out.drewN n).up
            generalize (asksPic (t * 8) y).statK (N + m) = S at *
            generalize edgeU (t * 8) y N = E at *
            clear em M0 hA
            go_wp2_with fail
            refine (HE.out _).mono ?_
            rintro e w' ⟨rfl, hw'⟩
            obtain rfl := hw'.symm
            go_wp2_with fail
            refine Calls.mono HRs.out ?_
            rintro e w' ⟨rfl, m4, rfl⟩
            go_wp2_with fail
            go_ret
            exact ⟨rfl, HUp.out _⟩
      · go_wp2_with fail
        refine (HPf.out _).mono ?_
        rintro e w' ⟨rfl, hw'⟩
        obtain rfl := hw'.symm
        clear HPf
        go_wp2_with fail
        obtain ⟨wo, rfl⟩ : ∃ wo : World, wo = wr := ⟨_, rfl⟩
        go_loopw [12, 13, 14] (fun A C I wr => ∃ (m a c : Nat), m ≤ 35112 ∧ I = .int .i64 m ∧ A = .int .i64 a ∧ C = .int .i64 c ∧ Hid (a = edgeU (t * 8) y m ∧ c = (m + 1140) / 17556) ∧ Hid (Tb W g (asksPic (t * 8) y) (N + m) wr)) (fun _ _ I _ => 35112 - (intOf I).toNat)
        case atStart => exact ⟨0, 0, 0, by omega, rfl, rfl, rfl, ⟨rfl, rfl⟩, M1⟩
        case round =>
          clear M1
          obtain ⟨m, a, c, hm, rfl, rfl, rfl, hA, M0⟩ := hrel
          by_cases hlm : m < 35112
          · have d1 : decide ((m : Int) < 35112) = true := decide_eq_true (by omega)
            have e1 : (m : Int) < 35112 := by omega
            have a0 : (a : Int) ≤ 35112 := by have := edgeU_le (t * 8) y m; have := hA.out.1; omega
            have c0 : (c : Int) ≤ 3 := by have := hA.out.2; omega
            have HT : Hid _ := M0.out.tick HB.out
            obtain ⟨v, hv⟩ : ∃ v, v = (blankK (N + m + 1) + (if (asksPic (t * 8) y).stlK (N + m) = false ∧ (asksPic (t * 8) y).stlK (N + m + 1) = true then 2 else 0)) := ⟨_, rfl⟩
            rw [← hv] at HT
            have eb : blankK (N + m + 1) = blankK (m + 1) := by have := HNN.out; unfold blankK; rw [show (N + m + 1 + 1140) % 17556 = (m + 1 + 1140) % 17556 by omega]
            have el : letsK (t * 8) y (N + m) = letsK (t * 8) y m := by rw [Nat.add_comm N m]; exact letsK_ring _ _ HNN.out m
            have em : letsK (t * 8) y (N + m + 1) = letsK (t * 8) y (m + 1) := by rw [show N + m + 1 = m + 1 + N by omega]; exact letsK_ring _ _ HNN.out (m + 1)
            rw [eb, asksPic_stl _ _ HO.out, asksPic_stl _ _ HO.out, el, em] at hv
            have hb : bits .and .i64 v 1 = blankK (m + 1) := by
              rw [hv]
              unfold blankK
              split <;> split <;> decide
            have hd : v / 2 = (edgeI (t * 8) y m : Int) := by
              rw [hv]
              unfold blankK edgeI
              split <;> split <;> decide
            have v0 : 0 ≤ v ∧ v ≤ 3 := by
              rw [hv]
              unfold blankK
              split <;> split <;> decide
            obtain ⟨v1, v2⟩ := v0
            have HA2 : Hid ((c : Int) + blankK (m + 1) = (((m + 1 + 1140) / 17556 : Nat) : Int)) := by
              have := hA.out.2
              show _ = _
              unfold blankK
              split <;> omega
            have HA3 : Hid ((a : Int) + (edgeI (t * 8) y m : Int) = ((edgeU (t * 8) y (m + 1) : Nat) : Int)) := by
              show _ = _
              rw [hA.out.1]
              exact (Int.natCast_add _ _).symm
            have hb2 : 0 ≤ blankK (m + 1) ∧ blankK (m + 1) ≤ 1 := by unfold blankK; split <;> decide
            have he2 : 0 ≤ (edgeI (t * 8) y m : Int) ∧ (edgeI (t * 8) y m : Int) ≤ 1 := by unfold edgeI; split <;> decide
            obtain ⟨b1, b2⟩ := hb2
            obtain ⟨i1, i2⟩ := he2
            generalize blankK (m + 1) = B1 at *
            generalize (edgeI (t * 8) y m : Int) = E1 at *
            clear hv eb el em
            go_wp2_with fail
            refine Calls.mono HT.out ?_
            rintro e w5 ⟨rfl, h5⟩
            have H5 : Hid _ := h5
            clear h5 HT
            go_wp2_with fail
            refine ⟨⟨m + 1, edgeU (t * 8) y (m + 1), (m + 1 + 1140) / 17556, by omega, ?_, ?_, ?_, ⟨rfl, rfl⟩, H5⟩, ?_⟩
            · first | rfl | (simp; done)
            · rw [← HA3.out]
            · rw [← HA2.out]
            · simp [intOf]
              omega
          · have d1 : decide ((m : Int) < 35112) = false := decide_eq_false (by omega)
            have em : m = N + N := by have := HNN.out; omega
            have HE : Hid (∀ W, Calls Try.prog 22 #[.int .i64 (t * 8), .int .i64 y] W fun e w' => e = .returned (.int .i64 (edgeU (t * 8) y N : Nat)) ∧ w' = W) := fun W => edges_any (t * 8) y HNN.out W
            have HRs : Hid _ := M0.out.readStat HB.out
            have hS : (bits .and .i64 ((asksPic (t * 8) y).statK (N + m)) 120 == t * 8) = true := beq_iff_eq.2 (asksPic_stat _ y HO.out _ (by have := HNN.out; unfold lnK; omega) (by have := HNN.out; unfold ckK; omega))
            have ha : ((a : Int) == 2 * (edgeU (t * 8) y N : Int)) = true := beq_iff_eq.2 (by rw [hA.out.1, em]; rw [edgeU_ring _ _ HNN.out N]; omega)
            have hE : (edgeU (t * 8) y N : Int) ≤ 17556 := by have := edgeU_le (t * 8) y N; have := HNN.out; omega
            have hc : c = 2 := by have := hA.out.2; have := HNN.out; omega
            subst hc
            have HUp : Hid (∀ n, Up W (wr.drewN n)) := fun n => (M0.out.drewN n).up
            generalize (asksPic (t * 8) y).statK (N + m) = S at *
            generalize edgeU (t * 8) y N = E at *
            clear em M0 hA
            go_wp2_with fail
            refine (HE.out _).mono ?_
            rintro e w' ⟨rfl, hw'⟩
            obtain rfl := hw'.symm
            go_wp2_with fail
            refine Calls.mono HRs.out ?_
            rintro e w' ⟨rfl, m4, rfl⟩
            go_wp2_with fail
            go_ret
            exact ⟨rfl, HUp.out _⟩
end Go.Proofs.Ytgiilodjkcjgdaa
