/- PpuTimes: the walk. -/
import Derived.Test.YtgiilodjkcjgdaaPxT
import Derived.Test.YtgiilodjkcjgdaaPxM
namespace Go.Proofs.Ytgiilodjkcjgdaa
open Go.RowKit
set_option linter.unusedVariables false
variable {b : Nat} {p : Pic}
/-- a picture k ticks behind p0, all that was there as it was -/
structure Tb (W0 : World) (b : Nat) (p0 : Pic) (k : Nat) (W : World) : Prop where
  at' : ∃ q, Tk p0 k q ∧ PxAt W b q
  up : Up W0 W
  nb : W0.heap.size ≤ b
theorem Tb.tick {W0 W : World} {p0 : Pic} {k : Nat} (h : Tb W0 b p0 k W) (B : Bare p0) :
    Calls Try.prog 20 #[.pointer (some ⟨b, 0, none⟩)] W fun e w' => e = .returned (.int .i64 (blankK (k + 1) + (if p0.stlK k = false ∧ p0.stlK (k + 1) = true then 2 else 0))) ∧ Tb W0 b p0 (k + 1) w' := by
  obtain ⟨q, hq, hp⟩ := h.at'
  exact (hq.tick B W hp).mono fun e w' ⟨h1, ⟨q', h2, h3⟩, h4⟩ => ⟨h1, ⟨q', h2, h3⟩, Fr.up h.up h.nb h4, h.nb⟩
theorem Tb.drewN {W0 W : World} {p0 : Pic} {k : Nat} (h : Tb W0 b p0 k W) (n : Nat) : Tb W0 b p0 k (W.drewN n) := by
  obtain ⟨q, hq, hp⟩ := h.at'
  exact ⟨⟨q, hq, hp.drewN n⟩, h.up.trans (Up.drewN W n), h.nb⟩
theorem Tb.line {W0 W : World} {p0 : Pic} {k : Nat} (h : Tb W0 b p0 k W) (B : Bare p0) :
    Calls Try.prog 21 #[.pointer (some ⟨b, 0, none⟩)] W fun e w' => e = .returned (.tuple #[.int .i64 (lnK k : Int), .int .i64 (ckK k : Int)]) ∧ ∃ n, w' = W.drewN n := by
  obtain ⟨q, hq, hp⟩ := h.at'
  have := line_any (hq.inn B.inn) W hp
  rw [hq.ly, hq.clk] at this
  exact this
theorem Tb.readLy {W0 W : World} {p0 : Pic} {k : Nat} (h : Tb W0 b p0 k W) (B : Bare p0) :
    Calls Try.prog 18 #[.pointer (some ⟨b, 0, none⟩), .int .i64 65348] W fun e w' => e = .returned (.int .i64 (lnK k : Int)) ∧ w' = W := by
  obtain ⟨q, hq, hp⟩ := h.at'
  have i := hq.inn B.inn
  have := readR_any 4 (by decide) 65348 (q.rg 4) rfl (i.rg 4).1 (i.rg 4).2 W hp (fun W hp => rreg4_any W hp)
  rw [hq.ly] at this
  exact this
/-- what STAT reads k ticks behind p0 -/
def Pic.statK (p0 : Pic) (k : Nat) : Int := ((p0.setR 4 (lnK k : Int)).setClk (ckK k : Int)).statB
theorem Tk.statB {p0 q : Pic} {k : Nat} (h : Tk p0 k q) : q.statB = p0.statK k := by
  have r : ∀ j, ((p0.setR 4 (lnK k : Int)).setClk (ckK k : Int)).rg j = q.rg j := fun j => by
    show (if j = 4 then (lnK k : Int) else p0.rg j) = q.rg j
    by_cases e : j = 4
    · subst e
      rw [if_pos rfl, h.ly]
    · rw [if_neg e, h.rg j e]
  have c : ((p0.setR 4 (lnK k : Int)).setClk (ckK k : Int)).clk = q.clk := h.clk.symm
  unfold Pic.statK Pic.statB Pic.mode Pic.matches Pic.has
  rw [c, r 0, r 1, r 4, r 5]
theorem Tb.readStat {W0 W : World} {p0 : Pic} {k : Nat} (h : Tb W0 b p0 k W) (B : Bare p0) :
    Calls Try.prog 18 #[.pointer (some ⟨b, 0, none⟩), .int .i64 65345] W fun e w' => e = .returned (.int .i64 (p0.statK k)) ∧ ∃ n, w' = W.drewN n := by
  obtain ⟨q, hq, hp⟩ := h.at'
  have := readStatR_any (hq.inn B.inn) W hp
  rw [hq.statB] at this
  exact this
theorem cutB_same {y : Int} (h0 : 0 ≤ y) (h1 : y ≤ 255) : cutB y = y := by unfold cutB; simp [IntKind.wrap, IntKind.bits, IntKind.signed]; omega
def timesPic (y : Int) : Pic := newPic.setR 5 y
theorem timesPic_bare (y : Int) (h0 : 0 ≤ y) (h1 : y ≤ 255) : Bare (timesPic y) := ⟨newPic_in.setR 5 y ⟨h0, h1⟩, by show newPic.has 128 = true; decide, by show newPic.has 32 = false; decide, by show newPic.has 2 = false; decide⟩
theorem timesPic_tk (y : Int) : Tk (timesPic y) 0 (timesPic y) := ⟨rfl, rfl, fun _ _ => rfl, rfl, rfl⟩
/-- the mode at a line and clock -/
def modeK (k : Nat) : Int := if 144 ≤ lnK k then 1 else if ckK k < 80 then 2 else if ckK k < 252 then 3 else 0
theorem timesPic_stat (y : Int) (k : Nat) : (timesPic y).statK k = if (lnK k : Int) = y then 128 + modeK k + 4 else 128 + modeK k := by
  have em : (((timesPic y).setR 4 (lnK k : Int)).setClk (ckK k : Int)).mode = modeK k := by
    unfold Pic.mode modeK
    rw [if_neg (by show ¬ (newPic.has 128 = false); decide)]
    show (if 144 ≤ (lnK k : Int) then _ else if (ckK k : Int) < 80 then _ else if (ckK k : Int) < 252 then _ else _) = _
    simp only [show (144 ≤ (lnK k : Int)) = (144 ≤ lnK k) from propext (by omega), show ((ckK k : Int) < 80) = (ckK k < 80) from propext (by omega), show ((ckK k : Int) < 252) = (ckK k < 252) from propext (by omega)]
  have ex : (((timesPic y).setR 4 (lnK k : Int)).setClk (ckK k : Int)).matches = ((lnK k : Int) == y) := rfl
  have er : (((timesPic y).setR 4 (lnK k : Int)).setClk (ckK k : Int)).rg 1 = 0 := rfl
  unfold Pic.statK Pic.statB
  rw [em, ex, er]
  have hm : modeK k = 0 ∨ modeK k = 1 ∨ modeK k = 2 ∨ modeK k = 3 := by unfold modeK; split; decide; split; decide; split <;> decide
  by_cases e : (lnK k : Int) = y
  · rw [if_pos e, if_pos (beq_iff_eq.2 e)]
    rcases hm with h | h | h | h <;> rw [h] <;> decide
  · rw [if_neg e, if_neg (by rw [beq_eq_false_iff_ne.2 e]; decide)]
    rcases hm with h | h | h | h <;> rw [h] <;> decide
set_option maxRecDepth 100000 in
set_option maxHeartbeats 4000000 in
theorem times_walk {W : World} {n y0 : Int} (hn : I64 n) (hy : I64 y0) :
    Calls Try.prog 4 #[.int .i64 n, .int .i64 y0] W fun e w' => e = .returned (.bool true) ∧ Up W w' := by
  have HN : Hid _ := newP_any W
  have HPy : Hid (∀ W, Calls Try.prog 17 #[.int .i64 y0, .int .i64 256] W fun e w' => e = .returned (.int .i64 (pickI y0 256)) ∧ w' = W) := fun W => pick_any y0 256 W hy (by decide) (by decide)
  have y1 := pickI_lo y0 256 (by decide)
  have y2 := pickI_hi y0 256 (by decide)
  have HPn : Hid (∀ W, Calls Try.prog 17 #[.int .i64 n, .int .i64 40000] W fun e w' => e = .returned (.int .i64 (pickI n 40000)) ∧ w' = W) := fun W => pick_any n 40000 W hn (by decide) (by decide)
  have n1 := pickI_lo n 40000 (by decide)
  have n2 := pickI_hi n 40000 (by decide)
  generalize pickI y0 256 = y at *
  generalize pickI n 40000 = K at *
  obtain ⟨k, rfl⟩ := Int.eq_ofNat_of_zero_le n1
  have HB : Hid _ := timesPic_bare y y1 (by omega)
  clear hn hy n1
  have HQ : Hid (W.heap.size ≤ W.heap.size) := Nat.le_refl _
  generalize hg : W.heap.size = g at HN
  have HQ : Hid (W.heap.size ≤ g) := Nat.le_of_eq hg
  go_enter Try.func4, Try.ntmps4
  go_wp2_with fail
  refine Calls.mono HN.out ?_
  rintro e w1 ⟨rfl, h1, u1⟩
  have H1 : Hid _ := And.intro h1 u1
  clear h1 u1 HN hg
  go_wp2_with fail
  refine (HPy.out _).mono ?_
  rintro e w' ⟨rfl, hw'⟩
  obtain rfl := hw'.symm
  go_wp2_with fail
  have HW : Hid _ := writeR_any (q := timesPic y) 5 (by decide) 65349 y rfl w1 H1.out.1 (fun W h => by rw [cutB_same y1 (by omega)]; exact wreg5_any y W h)
  refine Calls.mono HW.out ?_
  rintro e w2 ⟨rfl, h2, F2⟩
  have H2 : Hid (Tb W g (timesPic y) 0 w2) := ⟨⟨_, timesPic_tk y, h2⟩, Fr.up H1.out.2 HQ.out F2, HQ.out⟩
  clear h2 F2 HW H1
  go_wp2_with fail
  refine (HPn.out _).mono ?_
  rintro e w' ⟨rfl, hw'⟩
  obtain rfl := hw'.symm
  go_wp2_with fail
  clear HPn HPy
  go_loopw [8, 9] (fun A I wr => ∃ (i a : Nat), i ≤ k ∧ I = .int .i64 i ∧ A = .int .i64 a ∧ Hid (a = (i + 1140) / 17556) ∧ Hid (Tb W g (timesPic y) i wr)) (fun _ I _ => k - (intOf I).toNat)
  case atStart => exact ⟨0, 0, by omega, rfl, rfl, rfl, H2⟩
  case round =>
    clear H2
    obtain ⟨i, a, hi, rfl, rfl, hA, M0⟩ := hrel
    by_cases hlt : i < k
    · have d1 : decide ((i : Int) < (k : Int)) = true := decide_eq_true (by omega)
      have e1 : (i : Int) < (k : Int) := by omega
      have a0 : (a : Int) ≤ 3 := by have := hA.out; omega
      have HT : Hid _ := M0.out.tick HB.out
      obtain ⟨v, hv⟩ : ∃ v, v = (blankK (i + 1) + (if (timesPic y).stlK i = false ∧ (timesPic y).stlK (i + 1) = true then 2 else 0)) := ⟨_, rfl⟩
      rw [← hv] at HT
      have hb : bits .and .i64 v 1 = blankK (i + 1) := by
        rw [hv]
        unfold blankK
        split <;> split <;> decide
      have hb2 : blankK (i + 1) = 0 ∨ blankK (i + 1) = 1 := by unfold blankK; split; exact Or.inr rfl; exact Or.inl rfl
      have HA2 : Hid ((a : Int) + blankK (i + 1) = (((i + 1 + 1140) / 17556 : Nat) : Int)) := by
        have := hA.out
        show _ = _
        unfold blankK
        split <;> omega
      generalize blankK (i + 1) = B1 at *
      clear hv
      go_wp2_with fail
      refine Calls.mono HT.out ?_
      rintro e w3 ⟨rfl, h3⟩
      have H3 : Hid _ := h3
      clear h3
      go_wp2_with fail
      refine ⟨⟨i + 1, (i + 1 + 1140) / 17556, by omega, ?_, ?_, rfl, H3⟩, ?_⟩
      · first | rfl | (simp; done)
      · first | rw [← HA2.out] | (simp; done)
      · simp [intOf]
        omega
    · have d1 : decide ((i : Int) < (k : Int)) = false := decide_eq_false (by omega)
      have hik : k = i := by omega
      have HLi : Hid _ := M0.out.line HB.out
      have eL : (lnK i : Int) = (i : Int) / 114 % 154 := by unfold lnK; omega
      have eC : (ckK i : Int) = (i : Int) % 114 * 4 := by unfold ckK; omega
      have HRl : Hid (∀ n, Calls Try.prog 18 #[.pointer (some ⟨g, 0, none⟩), .int .i64 65348] (wr.drewN n) fun e w' => e = .returned (.int .i64 (lnK i : Int)) ∧ w' = wr.drewN n) := fun n => (M0.out.drewN n).readLy HB.out
      have HRs : Hid (∀ n, Calls Try.prog 18 #[.pointer (some ⟨g, 0, none⟩), .int .i64 65345] (wr.drewN n) fun e w' => e = .returned (.int .i64 ((timesPic y).statK i)) ∧ ∃ m, w' = (wr.drewN n).drewN m) := fun n => (M0.out.drewN n).readStat HB.out
      rw [timesPic_stat] at HRs
      unfold modeK at HRs
      rw [eL] at HLi HRl HRs
      rw [eC] at HLi
      have HA3 : Hid ((a : Int) = ((i : Int) + 1140) / 17556) := by have := hA.out; show _ = _; omega
      have HUp : Hid (∀ n, Up W (wr.drewN n)) := fun n => (M0.out.drewN n).up
      clear M0 eL eC hlt hi
      subst hik
      have hq : ((a : Int) == ((k : Int) + 1140) / 17556) = true := beq_iff_eq.2 HA3.out
      have l0 : 0 ≤ (k : Int) / 114 % 154 := by omega
      have l1 : (k : Int) / 114 % 154 < 154 := by omega
      have c0 : 0 ≤ (k : Int) % 114 * 4 := by omega
      have c1 : (k : Int) % 114 * 4 < 456 := by omega
      by_cases m1 : 144 ≤ (k : Int) / 114 % 154
      · have dm : decide (144 ≤ (k : Int) / 114 % 154) = true := decide_eq_true m1
        rw [if_pos (show 144 ≤ lnK k by unfold lnK; omega)] at HRs
        by_cases ey : (k : Int) / 114 % 154 = y
        · have dy : ((k : Int) / 114 % 154 == y) = true := beq_iff_eq.2 ey
          rw [if_pos ey] at HRs
          clear ey
          go_wp2_with fail
          refine Calls.mono HLi.out ?_
          rintro e w3 ⟨rfl, m3, rfl⟩
          go_wp2_with fail
          refine (HRl.out m3).mono ?_
          rintro e w' ⟨rfl, hw'⟩
          obtain rfl := hw'.symm
          go_wp2_with fail
          refine (HRs.out m3).mono ?_
          rintro e w' ⟨rfl, m4, rfl⟩
          go_wp2_with fail
          go_ret
          exact ⟨rfl, HUp.out _⟩
        · have dy : ((k : Int) / 114 % 154 == y) = false := beq_eq_false_iff_ne.2 ey
          rw [if_neg ey] at HRs
          clear ey
          go_wp2_with fail
          refine Calls.mono HLi.out ?_
          rintro e w3 ⟨rfl, m3, rfl⟩
          go_wp2_with fail
          refine (HRl.out m3).mono ?_
          rintro e w' ⟨rfl, hw'⟩
          obtain rfl := hw'.symm
          go_wp2_with fail
          refine (HRs.out m3).mono ?_
          rintro e w' ⟨rfl, m4, rfl⟩
          go_wp2_with fail
          go_ret
          exact ⟨rfl, HUp.out _⟩
      · have dm : decide (144 ≤ (k : Int) / 114 % 154) = false := decide_eq_false m1
        rw [if_neg (show ¬ 144 ≤ lnK k by unfold lnK; omega)] at HRs
        by_cases m2 : (k : Int) % 114 * 4 < 80
        · have dn : decide ((k : Int) % 114 * 4 < 80) = true := decide_eq_true m2
          rw [if_pos (show ckK k < 80 by unfold ckK; omega)] at HRs
          by_cases ey : (k : Int) / 114 % 154 = y
          · have dy : ((k : Int) / 114 % 154 == y) = true := beq_iff_eq.2 ey
            rw [if_pos ey] at HRs
            clear ey
            go_wp2_with fail
            refine Calls.mono HLi.out ?_
            rintro e w3 ⟨rfl, m3, rfl⟩
            go_wp2_with fail
            refine (HRl.out m3).mono ?_
            rintro e w' ⟨rfl, hw'⟩
            obtain rfl := hw'.symm
            go_wp2_with fail
            refine (HRs.out m3).mono ?_
            rintro e w' ⟨rfl, m4, rfl⟩
            go_wp2_with fail
            go_ret
            exact ⟨rfl, HUp.out _⟩
          · have dy : ((k : Int) / 114 % 154 == y) = false := beq_eq_false_iff_ne.2 ey
            rw [if_neg ey] at HRs
            clear ey
            go_wp2_with fail
            refine Calls.mono HLi.out ?_
            rintro e w3 ⟨rfl, m3, rfl⟩
            go_wp2_with fail
            refine (HRl.out m3).mono ?_
            rintro e w' ⟨rfl, hw'⟩
            obtain rfl := hw'.symm
            go_wp2_with fail
            refine (HRs.out m3).mono ?_
            rintro e w' ⟨rfl, m4, rfl⟩
            go_wp2_with fail
            go_ret
            exact ⟨rfl, HUp.out _⟩
        · have dn : decide ((k : Int) % 114 * 4 < 80) = false := decide_eq_false m2
          rw [if_neg (show ¬ ckK k < 80 by unfold ckK; omega)] at HRs
          by_cases m3 : (k : Int) % 114 * 4 < 252
          · have do3 : decide ((k : Int) % 114 * 4 < 252) = true := decide_eq_true m3
            rw [if_pos (show ckK k < 252 by unfold ckK; omega)] at HRs
            by_cases ey : (k : Int) / 114 % 154 = y
            · have dy : ((k : Int) / 114 % 154 == y) = true := beq_iff_eq.2 ey
              rw [if_pos ey] at HRs
              clear ey
              go_wp2_with fail
              refine Calls.mono HLi.out ?_
              rintro e w3 ⟨rfl, m3, rfl⟩
              go_wp2_with fail
              refine (HRl.out m3).mono ?_
              rintro e w' ⟨rfl, hw'⟩
              obtain rfl := hw'.symm
              go_wp2_with fail
              refine (HRs.out m3).mono ?_
              rintro e w' ⟨rfl, m4, rfl⟩
              go_wp2_with fail
              go_ret
              exact ⟨rfl, HUp.out _⟩
            · have dy : ((k : Int) / 114 % 154 == y) = false := beq_eq_false_iff_ne.2 ey
              rw [if_neg ey] at HRs
              clear ey
              go_wp2_with fail
              refine Calls.mono HLi.out ?_
              rintro e w3 ⟨rfl, m3, rfl⟩
              go_wp2_with fail
              refine (HRl.out m3).mono ?_
              rintro e w' ⟨rfl, hw'⟩
              obtain rfl := hw'.symm
              go_wp2_with fail
              refine (HRs.out m3).mono ?_
              rintro e w' ⟨rfl, m4, rfl⟩
              go_wp2_with fail
              go_ret
              exact ⟨rfl, HUp.out _⟩
          · have do3 : decide ((k : Int) % 114 * 4 < 252) = false := decide_eq_false m3
            rw [if_neg (show ¬ ckK k < 252 by unfold ckK; omega)] at HRs
            by_cases ey : (k : Int) / 114 % 154 = y
            · have dy : ((k : Int) / 114 % 154 == y) = true := beq_iff_eq.2 ey
              rw [if_pos ey] at HRs
              clear ey
              go_wp2_with fail
              refine Calls.mono HLi.out ?_
              rintro e w3 ⟨rfl, m3, rfl⟩
              go_wp2_with fail
              refine (HRl.out m3).mono ?_
              rintro e w' ⟨rfl, hw'⟩
              obtain rfl := hw'.symm
              go_wp2_with fail
              refine (HRs.out m3).mono ?_
              rintro e w' ⟨rfl, m4, rfl⟩
              go_wp2_with fail
              go_ret
              exact ⟨rfl, HUp.out _⟩
            · have dy : ((k : Int) / 114 % 154 == y) = false := beq_eq_false_iff_ne.2 ey
              rw [if_neg ey] at HRs
              clear ey
              go_wp2_with fail
              refine Calls.mono HLi.out ?_
              rintro e w3 ⟨rfl, m3, rfl⟩
              go_wp2_with fail
              refine (HRl.out m3).mono ?_
              rintro e w' ⟨rfl, hw'⟩
              obtain rfl := hw'.symm
              go_wp2_with fail
              refine (HRs.out m3).mono ?_
              rintro e w' ⟨rfl, m4, rfl⟩
              go_wp2_with fail
              go_ret
              exact ⟨rfl, HUp.out _⟩
end Go.Proofs.Ytgiilodjkcjgdaa
