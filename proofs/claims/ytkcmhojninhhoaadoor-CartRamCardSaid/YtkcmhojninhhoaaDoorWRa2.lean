/- CartRam: the walk, type 6, 1 bank(s). -/
import Derived.Test.YtkcmhojninhhoaaDoorCbC
import Derived.Deep.DeepCutAuto
namespace Go.Proofs.YtkcmhojninhhoaaDoor
open Go.Shelf Go.RowKit
set_option linter.unusedVariables false
set_option linter.unusedSimpArgs false
variable {W : World}
set_option maxRecDepth 100000 in
set_option maxHeartbeats 2000000 in
theorem ramW_2 {wh cd at' sh : Int} {va : Option Addr} {vb vo vn vc : Nat} {vf : Nat → Int} (hT : Tb W) (hY : Tys W) (i1 : I64 wh) (i2 : I64 cd) (i3 : I64 at') (i4 : I64 sh) (hV : Ints W va vb vo vn vc vf) (hw : pickI wh 5 = 2) :
    Calls Tryd.prog 6 #[.int .i64 wh, .int .i64 cd, .slice va vn vc, .int .i64 at', .int .i64 sh] W fun e w' => e = .returned (.bool true) ∧ Up W w' := by
  have HP : Hid (∀ (c n : Int) w, I64 c → 0 < n → n ≤ 1099511627776 → Calls Tryd.prog 14 #[.int .i64 c, .int .i64 n] w fun e w' => e = .returned (.int .i64 (pickI c n)) ∧ w' = w) := fun c n w h1 h2 h3 => pick_any c n w h1 h2 h3
  have HI : Hid (I64 wh ∧ I64 cd ∧ I64 at' ∧ I64 sh) := ⟨i1, i2, i3, i4⟩
  have HTb : Hid (Tb W) := hT
  have HV : Hid (Ints W va vb vo vn vc vf) := hV
  have vlc := hV.lc
  have vcm : vc ≤ 9223372036854775807 := by have := hV.cm; unfold maxLen at this; omega
  obtain ⟨tb, tof, tc, t1, t2, t3, t4⟩ := hY
  have kt : W.cell? ⟨tb, tof + 7, none⟩ = some (.int .i64 6) := t4 7 6 rfl
  have HPw : Hid (∀ w, Calls Tryd.prog 14 #[.int .i64 wh, .int .i64 5] w fun e w' => e = .returned (.int .i64 2) ∧ w' = w) := fun w => by
    rw [← hw]
    exact pick_any wh 5 w i1 (by decide) (by decide)
  clear hT i1 i2 i3 i4 t4 hw hV
  go_enter Tryd.func6, Tryd.ntmps6
  go_wp2_with fail
  go_quiet ((go_at_call 14; exact Calls.quiet_of_same (HPw.out _)))
  have HU0 : Hid (Up W (W.drewN nq)) := Up.drewN _ _
  clear kt t1 t2 t3 HPw
  generalize World.drewN W nq = W0 at HU0 ⊢
  obtain ⟨N, hN⟩ : ∃ N : Nat, N = 32768 := ⟨_, rfl⟩
  have HN : Hid (N = 32768) := hN
  have HRo : Hid (∀ w, Calls Tryd.prog 12 #[.agg #[.int .i64 6, .int .i64 0, .int .i64 0, .int .i64 0, .int .i64 0, .slice none 0 0, .slice none 0 0, .bool false]] w fun e w' => ∃ g, e = .returned (.slice (some ⟨g, 0, none⟩) N N) ∧ w.heap.size ≤ g ∧ By w' g N (romF ((6 : Nat) : Int) ((0 : Nat) : Int) ((0 : Nat) : Int) 0) ∧ Up w w') := fun w => rom_any (W := w) (c := 0) (ty := 6) (rc := 0) (rm := 0) (sd := 0) (by rw [HN.out]) ⟨by decide, by decide⟩ ⟨by decide, by decide⟩ ⟨by decide, by decide⟩ ⟨by decide, by decide⟩ (by decide)
  have HNw : Hid (∀ w g, Tb w → By w g N (romF ((6 : Nat) : Int) ((0 : Nat) : Int) ((0 : Nat) : Int) 0) → Calls Tryd.prog 15 #[.slice (some ⟨g, 0, none⟩) N N, .slice none 0 0] w fun e w' => ∃ A m, e = .returned (.tuple #[.pointer (some ⟨A.cb, 0, none⟩), .int .i64 0]) ∧ TitleIs (romF ((6 : Nat) : Int) ((0 : Nat) : Int) ((0 : Nat) : Int) 0) m ∧ Bn w A (ctNew (romF ((6 : Nat) : Int) ((0 : Nat) : Int) ((0 : Nat) : Int) 0) N m ⟨6, 2, 16, 0, 0, true⟩ 0 0) w') := fun w g ht hb' => new_box (R0 := ⟨6, 2, 16, 0, 0, true⟩) ht hb' (by rw [HN.out]) (by simp [rowsT]) rfl (by decide) (by decide) (by decide) (by decide) (by decide) (by decide)
  obtain ⟨F, hF⟩ : ∃ F, F = romF ((6 : Nat) : Int) ((0 : Nat) : Int) ((0 : Nat) : Int) 0 := ⟨_, rfl⟩
  rw [← hF] at HRo HNw
  clear hF hN
  go_wp2_with fail
  refine (HRo.out _).mono ?_
  rintro e w1 ⟨g, rfl, hg, hB, u1⟩
  have HU1 : Hid (Up W w1) := HU0.out.trans (((Up.refl W0)).trans u1)
  have HB1 : Hid (By w1 g N F) := hB
  clear hg hB u1 HU0 HRo
  go_wp2_with fail
  refine (HNw.out _ _ (HTb.out.up HU1.out) HB1.out).mono ?_
  rintro e w2 ⟨A, m, rfl, ht, hbn⟩
  have HB2 : Hid (Bn w1 A (ctNew F N m ⟨6, 2, 16, 0, 0, true⟩ 0 0) w2) := hbn
  clear ht hbn HNw
  obtain ⟨pa, hpa, lpa⟩ : ∃ p : Nat, pickI at' 8192 = (p : Int) ∧ p < 8192 := by
    obtain ⟨p, hp⟩ := Int.eq_ofNat_of_zero_le (pickI_lo at' 8192 (by decide))
    exact ⟨p, hp, by have := pickI_hi at' 8192 (by decide); omega⟩
  have HKa : Hid (∀ w, Calls Tryd.prog 14 #[.int .i64 at', .int .i64 8192] w fun e w' => e = .returned (.int .i64 (pa : Int)) ∧ w' = w) := fun w => by rw [← hpa]; exact HP.out at' 8192 w HI.out.2.2.1 (by decide) (by decide)
  clear hpa
  have HR2 : Hid (Rs w1 A (Mp.new 2) 1 pa (fun _ => 0) w2) := ⟨⟨_, ⟨HB2.out, fun k => ⟨Int.le_refl 0, Int.natCast_nonneg _⟩⟩, rfl, (show 1 ≤ ramN ⟨6, 2, 16, 0, 0, true⟩ 0 by decide), by
    intro i j hi hj
    show (i * 8192 + pa) % 512 = (j * 8192 + pa) % 512 → i = j
    intro h
    omega, fun j hj => rfl⟩, lpa⟩
  clear HB2
  go_wp2_with fail
  refine (HKa.out _).mono ?_
  rintro e w' ⟨rfl, hw'⟩
  obtain rfl := hw'.symm
  clear hw' HKa
  obtain ⟨aI, haI⟩ : ∃ aI : Int, aI = ((40960 + pa : Nat) : Int) := ⟨_, rfl⟩
  have HA : Hid (aI = ((40960 + pa : Nat) : Int)) := haI
  have eaI : 40960 + (pa : Int) = aI := by omega
  clear haI
  go_wp2_with fail
  refine (HR2.out.writeShutI 7 HA.out (by omega) (by rfl) (by omega)).mono ?_
  rintro e w3 ⟨rfl, hb9⟩
  have Hw3 : Hid _ := hb9
  clear hb9
  clear HR2 eaI
  go_wp2_with fail
  refine (Hw3.out.readShut HA.out (by rfl)).mono ?_
  rintro e w4 ⟨rfl, u4⟩
  have H4 : Hid _ := Hw3.out.more u4
  clear u4 Hw3
  go_wp2_with fail
  refine (H4.out.romI 0 10 rfl rfl (by omega) (by omega)).mono ?_
  rintro e w5 ⟨rfl, hb9⟩
  have Hw5 : Hid _ := hb9
  clear hb9
  clear H4
  go_wp2_with fail
  refine (Hw5.out.romI 24576 1 rfl rfl (by omega) (by omega)).mono ?_
  rintro e w6 ⟨rfl, hb9⟩
  have Hw6 : Hid _ := hb9
  clear hb9
  clear Hw5
  have HR6 : Hid (Rs w1 A ⟨2, 1, 1, 0, 0, 0⟩ 1 pa (fun _ => 0) w6) := Hw6.out
  clear Hw6
  go_wp2_with fail
  go_loopw [19] (fun I wr => ∃ i : Nat, i ≤ 1 ∧ I = .int .i64 (i : Int) ∧ Hid (∃ pk : Nat, pk ≤ 15 ∧ Rs w1 A ⟨2, 1, 1, 0, 0, 0⟩ 1 pa (ramV ⟨2, 1, 1, 0, 0, 0⟩ vn vf i) wr)) (fun I _ => 1 - (intOf I).toNat)
  case atStart => exact ⟨0, Nat.zero_le _, rfl, ⟨0, by decide, HR6.out.congr (by intro j _; unfold ramV; rw [if_neg (by omega)])⟩⟩
  case round =>
    obtain ⟨i, hi, rfl, HR⟩ := hrel
    clear HR6
    by_cases hlt : i < 1
    · have e1 : (i : Int) < 1 := by omega
      obtain ⟨pk, hpk, hrs⟩ := HR.out
      have HRs : Hid (Rs w1 A ⟨2, 1, 1, 0, 0, 0⟩ 1 pa (ramV ⟨2, 1, 1, 0, 0, 0⟩ vn vf i) wr) := hrs
      clear HR hrs
      go_wp2_with fail
      obtain ⟨w7, hw9⟩ : ∃ wz, wz = wr := ⟨_, rfl⟩
      rw [← hw9] at HRs ⊢
      clear hw9
      have HS : Hid (Rs w1 A ⟨2, 1, 1, 0, 0, 0⟩ 1 pa (ramV ⟨2, 1, 1, 0, 0, 0⟩ vn vf i) w7) := HRs.out
      clear HRs
      refine (HS.out.read HA.out (by rfl) (s := i) (by have h0 : i = 0 := (by omega); subst h0; rfl) (by omega)).mono ?_
      rintro e w8 ⟨rfl, u8⟩
      have HS8 : Hid (Rs w1 A ⟨2, 1, 1, 0, 0, 0⟩ 1 pa (ramV ⟨2, 1, 1, 0, 0, 0⟩ vn vf i) w8) := HS.out.more u8
      clear u8 HS
      have es : Mp.shows ⟨2, 1, 1, 0, 0, 0⟩ (ramV ⟨2, 1, 1, 0, 0, 0⟩ vn vf i i) = 240 := by
        unfold ramV
        rw [if_neg (by omega)]
        rfl
      rw [es]
      clear es
      by_cases hv : i < vn
      · have e2 : (i : Int) < (vn : Int) := by omega
        obtain rfl : va = some ⟨vb, vo, none⟩ := HV.out.ad (by omega)
        have kv : w8.cell? ⟨vb, vo + i, none⟩ = some (.int .i64 (vf i)) := (HV.out.upI (HU1.out.trans HS8.out.up)).cell i hv
        have ev : vf i % 256 = vF vn vf i := by unfold vF; rw [if_pos hv]
        have HEv : Hid (vf i % 256 = vF vn vf i) := ev
        clear ev
        go_wp2_with fail
        obtain ⟨xN, hxN, x8⟩ : ∃ x : Nat, vF vn vf i = (x : Int) ∧ x ≤ 255 := by
          obtain ⟨x, hx⟩ := Int.eq_ofNat_of_zero_le (vF_in vn vf i).1
          exact ⟨x, hx, by have := (vF_in vn vf i).2; omega⟩
        refine (HS8.out.writeI xN HA.out (HEv.out.trans hxN) (by rfl) (s := i) (by have h0 : i = 0 := (by omega); subst h0; rfl) (by omega) (by omega)).mono ?_
        rintro e w9 ⟨rfl, hb9⟩
        rw [HEv.out] at hb9
        have HS9 : Hid (Rs w1 A ⟨2, 1, 1, 0, 0, 0⟩ 1 pa (ramV ⟨2, 1, 1, 0, 0, 0⟩ vn vf (i + 1)) w9) := hb9.congr (fun j hj => ramV_next ⟨2, 1, 1, 0, 0, 0⟩ vn vf i j)
        clear hb9 hxN x8 HEv HS8
        go_wp2_with fail
        go_round
        case rel => exact ⟨i + 1, by omega, by go_num, ⟨0, by omega, HS9.out⟩⟩
        case measure => simp [intOf]; omega
      · have e2 : ¬ (i : Int) < (vn : Int) := by omega
        have ev : (i : Int) + 1 = vF vn vf i := by unfold vF; rw [if_neg hv]; omega
        have HEv : Hid ((i : Int) + 1 = vF vn vf i) := ev
        clear ev
        go_wp2_with fail
        obtain ⟨xN, hxN, x8⟩ : ∃ x : Nat, vF vn vf i = (x : Int) ∧ x ≤ 255 := by
          obtain ⟨x, hx⟩ := Int.eq_ofNat_of_zero_le (vF_in vn vf i).1
          exact ⟨x, hx, by have := (vF_in vn vf i).2; omega⟩
        refine (HS8.out.writeI xN HA.out (HEv.out.trans hxN) (by rfl) (s := i) (by have h0 : i = 0 := (by omega); subst h0; rfl) (by omega) (by omega)).mono ?_
        rintro e w9 ⟨rfl, hb9⟩
        rw [HEv.out] at hb9
        have HS9 : Hid (Rs w1 A ⟨2, 1, 1, 0, 0, 0⟩ 1 pa (ramV ⟨2, 1, 1, 0, 0, 0⟩ vn vf (i + 1)) w9) := hb9.congr (fun j hj => ramV_next ⟨2, 1, 1, 0, 0, 0⟩ vn vf i j)
        clear hb9 hxN x8 HEv HS8
        go_wp2_with fail
        go_round
        case rel => exact ⟨i + 1, by omega, by go_num, ⟨0, by omega, HS9.out⟩⟩
        case measure => simp [intOf]; omega
    · have e1 : ¬ (i : Int) < 1 := by omega
      obtain rfl : i = 1 := by omega
      go_wp2_with fail
      go_loopw [21] (fun I wr => ∃ i : Nat, i ≤ 1 ∧ I = .int .i64 (i : Int) ∧ Hid (∃ pk : Nat, pk ≤ 15 ∧ pk ≤ 15 ∧ Rs w1 A ⟨2, 1, 1, 0, 0, 0⟩ 1 pa (ramV ⟨2, 1, 1, 0, 0, 0⟩ vn vf 1) wr)) (fun I _ => 1 - (intOf I).toNat)
      case atStart =>
        obtain ⟨pk, hp1, hp2⟩ := HR.out
        exact ⟨0, Nat.zero_le _, rfl, ⟨pk, hp1, by omega, hp2⟩⟩
      case round =>
        obtain ⟨i, hi, rfl, HR2⟩ := hrel
        clear HR
        by_cases hlt : i < 1
        · have e1 : (i : Int) < 1 := by omega
          obtain ⟨pk, hpk, hpi, hrs⟩ := HR2.out
          have HRs : Hid (Rs w1 A ⟨2, 1, 1, 0, 0, 0⟩ 1 pa (ramV ⟨2, 1, 1, 0, 0, 0⟩ vn vf 1) wr) := hrs
          clear HR2 hrs
          obtain ⟨w7, hw9⟩ : ∃ wz, wz = wr := ⟨_, rfl⟩
          rw [← hw9] at HRs ⊢
          clear hw9
          have HS : Hid (Rs w1 A ⟨2, 1, 1, 0, 0, 0⟩ 1 pa (ramV ⟨2, 1, 1, 0, 0, 0⟩ vn vf 1) w7) := HRs.out
          clear HRs
          by_cases hv : i < vn
          · have e2 : (i : Int) < (vn : Int) := by omega
            obtain rfl : va = some ⟨vb, vo, none⟩ := HV.out.ad (by omega)
            have kv : w7.cell? ⟨vb, vo + i, none⟩ = some (.int .i64 (vf i)) := (HV.out.upI (HU1.out.trans HS.out.up)).cell i hv
            have ev : vf i % 256 = vF vn vf i := by unfold vF; rw [if_pos hv]
            have HEv : Hid (vf i % 256 = vF vn vf i) := ev
            clear ev
            go_wp2_with fail
            refine (HS.out.read HA.out (by rfl) (s := i) (by have h0 : i = 0 := (by omega); subst h0; rfl) (by omega)).mono ?_
            rintro e w8 ⟨rfl, u8⟩
            have HS8 : Hid (Rs w1 A ⟨2, 1, 1, 0, 0, 0⟩ 1 pa (ramV ⟨2, 1, 1, 0, 0, 0⟩ vn vf 1) w8) := HS.out.more u8
            clear u8 HS
            have es : Mp.shows ⟨2, 1, 1, 0, 0, 0⟩ (ramV ⟨2, 1, 1, 0, 0, 0⟩ vn vf 1 i) = Mp.shows ⟨2, 1, 1, 0, 0, 0⟩ (vF vn vf i) := by
              unfold ramV
              rw [if_pos (by omega)]
              exact Mp.shows_keeps ⟨2, 1, 1, 0, 0, 0⟩ _
            rw [es, HEv.out]
            clear es HEv
            obtain ⟨x, hx, x0, x8⟩ : ∃ x : Int, vF vn vf i = x ∧ 0 ≤ x ∧ x ≤ 255 := ⟨_, rfl, (vF_in vn vf i).1, (vF_in vn vf i).2⟩
            rw [hx]
            clear hx
            have es : Mp.shows ⟨2, 1, 1, 0, 0, 0⟩ x = x % 16 + 240 := rfl
            rw [es]
            clear es
            have ez := ne_240 x x0 x8
            go_wp2_with fail
            go_round
            case rel => exact ⟨i + 1, by omega, by go_num, ⟨0, by omega, by omega, HS8.out⟩⟩
            case measure => simp [intOf]; omega
          · have e2 : ¬ (i : Int) < (vn : Int) := by omega
            have ev : (i : Int) + 1 = vF vn vf i := by unfold vF; rw [if_neg hv]; omega
            have HEv : Hid ((i : Int) + 1 = vF vn vf i) := ev
            clear ev
            go_wp2_with fail
            refine (HS.out.read HA.out (by rfl) (s := i) (by have h0 : i = 0 := (by omega); subst h0; rfl) (by omega)).mono ?_
            rintro e w8 ⟨rfl, u8⟩
            have HS8 : Hid (Rs w1 A ⟨2, 1, 1, 0, 0, 0⟩ 1 pa (ramV ⟨2, 1, 1, 0, 0, 0⟩ vn vf 1) w8) := HS.out.more u8
            clear u8 HS
            have es : Mp.shows ⟨2, 1, 1, 0, 0, 0⟩ (ramV ⟨2, 1, 1, 0, 0, 0⟩ vn vf 1 i) = Mp.shows ⟨2, 1, 1, 0, 0, 0⟩ (vF vn vf i) := by
              unfold ramV
              rw [if_pos (by omega)]
              exact Mp.shows_keeps ⟨2, 1, 1, 0, 0, 0⟩ _
            rw [es, HEv.out]
            clear es HEv
            obtain ⟨x, hx, x0, x8⟩ : ∃ x : Int, vF vn vf i = x ∧ 0 ≤ x ∧ x ≤ 255 := ⟨_, rfl, (vF_in vn vf i).1, (vF_in vn vf i).2⟩
            rw [hx]
            clear hx
            have es : Mp.shows ⟨2, 1, 1, 0, 0, 0⟩ x = x % 16 + 240 := rfl
            rw [es]
            clear es
            have ez := ne_240 x x0 x8
            go_wp2_with fail
            go_round
            case rel => exact ⟨i + 1, by omega, by go_num, ⟨0, by omega, by omega, HS8.out⟩⟩
            case measure => simp [intOf]; omega
        · have e1 : ¬ (i : Int) < 1 := by omega
          obtain rfl : i = 1 := by omega
          obtain ⟨pk, hpk, hpi, hrs⟩ := HR2.out
          have HRs : Hid (Rs w1 A ⟨2, 1, 1, 0, 0, 0⟩ 1 pa (ramV ⟨2, 1, 1, 0, 0, 0⟩ vn vf 1) wr) := hrs
          clear HR2 hrs hpi
          go_wp2_with fail
          obtain ⟨ps, hps, lps⟩ : ∃ p : Nat, pickI sh 9 = (p : Int) ∧ p < 9 := by
            obtain ⟨p, hp⟩ := Int.eq_ofNat_of_zero_le (pickI_lo sh 9 (by decide))
            exact ⟨p, hp, by have := pickI_hi sh 9 (by decide); omega⟩
          have HKs : Hid (∀ w, Calls Tryd.prog 14 #[.int .i64 sh, .int .i64 9] w fun e w' => e = .returned (.int .i64 (ps : Int)) ∧ w' = w) := fun w => by rw [← hps]; exact HP.out sh 9 w HI.out.2.2.2 (by decide) (by decide)
          clear hps
          refine (HKs.out _).mono ?_
          rintro e w' ⟨rfl, hw'⟩
          obtain rfl := hw'.symm
          clear hw' HKs
          go_wp2_with fail
          refine (HRs.out.romI 0 ps rfl rfl (by omega) (by omega)).mono ?_
          rintro e w7 ⟨rfl, hb9⟩
          have HS7 : Hid (Rs w1 A ⟨2, 0, 1, 0, 0, 0⟩ 1 pa (ramV ⟨2, 1, 1, 0, 0, 0⟩ vn vf 1) w7) := by
            have e9 : Mp.set ⟨2, 1, 1, 0, 0, 0⟩ 0 ps = ⟨2, 0, 1, 0, 0, 0⟩ := by
              show (⟨2, onF ps, 1, 0, 0, 0⟩ : Mp) = _
              unfold onF
              rw [if_neg (by omega)]
            rw [e9] at hb9
            exact hb9
          clear hb9 HRs
          go_wp2_with fail
          refine (HS7.out.writeShutI 99 HA.out (by omega) (by rfl) (by omega)).mono ?_
          rintro e w8 ⟨rfl, hb9⟩
          have HS8 : Hid (Rs w1 A ⟨2, 0, 1, 0, 0, 0⟩ 1 pa (ramV ⟨2, 1, 1, 0, 0, 0⟩ vn vf 1) w8) := hb9
          clear hb9 HS7
          go_wp2_with fail
          refine (HS8.out.readShut HA.out (by rfl)).mono ?_
          rintro e w9 ⟨rfl, u9⟩
          have HS9 : Hid (Rs w1 A ⟨2, 0, 1, 0, 0, 0⟩ 1 pa (ramV ⟨2, 1, 1, 0, 0, 0⟩ vn vf 1) w9) := HS8.out.more u9
          clear u9 HS8
          go_wp2_with fail
          refine (HS9.out.romI 0 10 rfl rfl (by omega) (by omega)).mono ?_
          rintro e wa ⟨rfl, hb9⟩
          have HSa : Hid (Rs w1 A ⟨2, 1, 1, 0, 0, 0⟩ 1 pa (ramV ⟨2, 1, 1, 0, 0, 0⟩ vn vf 1) wa) := hb9
          clear hb9 HS9
          have HSeen : Hid (Mp.seen ⟨2, 1, 1, 0, 0, 0⟩ = true) := by rfl
          have HRd : Hid (∀ w, Up wa w → Calls Tryd.prog 17 #[.pointer (some ⟨A.cb, 0, none⟩), .int .i64 aI] w fun e w' => e = .returned (.int .u8 (Mp.shows ⟨2, 1, 1, 0, 0, 0⟩ (vF vn vf 0))) ∧ Up w w') := fun w u => by
            refine ((HSa.out.more u).read HA.out HSeen.out (s := 0) rfl (by decide)).mono fun e w' ⟨q1, q2⟩ => ⟨?_, q2⟩
            rw [q1]
            have es : Mp.shows ⟨2, 1, 1, 0, 0, 0⟩ (ramV ⟨2, 1, 1, 0, 0, 0⟩ vn vf 1 0) = Mp.shows ⟨2, 1, 1, 0, 0, 0⟩ (vF vn vf 0) := by
              unfold ramV
              rw [if_pos (by decide)]
              exact Mp.shows_keeps ⟨2, 1, 1, 0, 0, 0⟩ _
            rw [es]
          have HUa : Hid (Up W wa) := HU1.out.trans HSa.out.up
          clear HSa HSeen
          by_cases hv : 0 < vn
          · have e2 : (0 : Int) < (vn : Int) := by omega
            obtain rfl : va = some ⟨vb, vo, none⟩ := HV.out.ad (by omega)
            have kv : wa.cell? ⟨vb, vo, none⟩ = some (.int .i64 (vf 0)) := (HV.out.upI HUa.out).cell 0 hv
            have ev : vf 0 % 256 = vF vn vf 0 := by unfold vF; rw [if_pos hv]
            obtain ⟨x, hx, x0, x8⟩ : ∃ x : Int, vF vn vf 0 = x ∧ 0 ≤ x ∧ x ≤ 255 := ⟨_, rfl, (vF_in vn vf 0).1, (vF_in vn vf 0).2⟩
            rw [hx] at ev HRd
            clear hx
            have es : Mp.shows ⟨2, 1, 1, 0, 0, 0⟩ x = x % 16 + 240 := rfl
            rw [es] at HRd
            clear es
            have ez := eq_240 x x0 x8
            go_wp2_with fail
            refine (HRd.out _ (Up.refl _)).mono ?_
            rintro e wb ⟨rfl, ub⟩
            have HUb : Hid (Up W wb) := HUa.out.trans ub
            clear ub HRd
            rw [ev]
            clear ev kv
            go_wp2_with fail
            go_ret
            exact ⟨by first | rfl | (simp; done), HUb.out⟩
          · have e2 : ¬ (0 : Int) < (vn : Int) := by omega
            have ev : 1 = vF vn vf 0 := by unfold vF; rw [if_neg hv]; rfl
            obtain ⟨x, hx, x0, x8⟩ : ∃ x : Int, vF vn vf 0 = x ∧ 0 ≤ x ∧ x ≤ 255 := ⟨_, rfl, (vF_in vn vf 0).1, (vF_in vn vf 0).2⟩
            rw [hx] at ev HRd
            clear hx
            have es : Mp.shows ⟨2, 1, 1, 0, 0, 0⟩ x = x % 16 + 240 := rfl
            rw [es] at HRd
            clear es
            have ez := eq_240 x x0 x8
            go_wp2_with fail
            refine (HRd.out _ (Up.refl _)).mono ?_
            rintro e wb ⟨rfl, ub⟩
            have HUb : Hid (Up W wb) := HUa.out.trans ub
            clear ub HRd
            subst ev
            go_wp2_with fail
            go_ret
            exact ⟨by first | rfl | (simp; done), HUb.out⟩
end Go.Proofs.YtkcmhojninhhoaaDoor
