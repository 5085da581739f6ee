/- CartSaves: the walk, type 3. -/
import Derived.Test.YtkcmhojninhhoaaDoorCbN
import Derived.Deep.DeepCutAuto
namespace Go.Proofs.YtkcmhojninhhoaaDoor
open Go.Shelf Go.RowKit
set_option linter.unusedVariables false
set_option linter.unusedSimpArgs false
variable {W : World}
set_option maxRecDepth 100000 in
set_option maxHeartbeats 2000000 in
theorem savesW_1 {wh at' : Int} {va : Option Addr} {vb vo vn vc : Nat} {vf : Nat → Int} (hT : Tb W) (hY : Tys W) (i1 : I64 wh) (i3 : I64 at') (hV : Ints W va vb vo vn vc vf) (hw : pickI wh 5 = 1) :
    Calls Tryd.prog 9 #[.int .i64 wh, .slice va vn vc, .int .i64 at'] W fun e w' => e = .returned (.bool true) ∧ Up W w' := by
  have HP : Hid (∀ (c n : Int) w, I64 c → 0 < n → n ≤ 1099511627776 → Calls Tryd.prog 14 #[.int .i64 c, .int .i64 n] w fun e w' => e = .returned (.int .i64 (pickI c n)) ∧ w' = w) := fun c n w h1 h2 h3 => pick_any c n w h1 h2 h3
  have HI : Hid (I64 wh ∧ I64 at') := ⟨i1, i3⟩
  have HTb : Hid (Tb W) := hT
  have HV : Hid (Ints W va vb vo vn vc vf) := hV
  have vlc := hV.lc
  have vcm : vc ≤ 9223372036854775807 := by have := hV.cm; unfold maxLen at this; omega
  obtain ⟨tb, tof, tc, t1, t2, t3, t4⟩ := hY
  have kt : W.cell? ⟨tb, tof + 6, none⟩ = some (.int .i64 3) := t4 6 3 rfl
  have HPw : Hid (∀ w, Calls Tryd.prog 14 #[.int .i64 wh, .int .i64 5] w fun e w' => e = .returned (.int .i64 1) ∧ w' = w) := fun w => by
    rw [← hw]
    exact pick_any wh 5 w i1 (by decide) (by decide)
  obtain ⟨pa, hpa, lpa⟩ : ∃ p : Nat, pickI at' 512 = (p : Int) ∧ p < 512 := by
    obtain ⟨p, hp⟩ := Int.eq_ofNat_of_zero_le (pickI_lo at' 512 (by decide))
    exact ⟨p, hp, by have := pickI_hi at' 512 (by decide); omega⟩
  have HKa : Hid (∀ w, Calls Tryd.prog 14 #[.int .i64 at', .int .i64 512] w fun e w' => e = .returned (.int .i64 (pa : Int)) ∧ w' = w) := fun w => by rw [← hpa]; exact HP.out at' 512 w i3 (by decide) (by decide)
  clear hT i1 i3 t4 hw hV hpa
  go_enter Tryd.func9, Tryd.ntmps9
  go_wp2_with fail
  go_quiet ((go_at_call 14; exact Calls.quiet_of_same (HPw.out _)))
  have HU0 : Hid (Up W (W.drewN nq)) := Up.drewN _ _
  clear kt t1 t2 t3 HPw
  generalize World.drewN W nq = W0 at HU0 ⊢
  obtain ⟨N, hN⟩ : ∃ N : Nat, N = 32768 := ⟨_, rfl⟩
  have HN : Hid (N = 32768) := hN
  obtain ⟨RN, hRN⟩ : ∃ RN : Nat, RN = 8192 := ⟨_, rfl⟩
  have HRN : Hid (RN = 8192) := hRN
  have HB0 : Hid (Box0 3 2 ⟨3, 1, 128, 2, 3, true⟩) := ⟨by simp [rowsT], rfl, by decide, by decide, by decide, by decide, by decide⟩
  have HRo : Hid (∀ w, Calls Tryd.prog 12 #[.agg #[.int .i64 3, .int .i64 0, .int .i64 2, .int .i64 0, .int .i64 0, .slice none 0 0, .slice none 0 0, .bool false]] w fun e w' => ∃ g, e = .returned (.slice (some ⟨g, 0, none⟩) N N) ∧ w.heap.size ≤ g ∧ By w' g N (romF ((3 : Nat) : Int) ((0 : Nat) : Int) ((2 : Nat) : Int) 0) ∧ Up w w') := fun w => rom_any (W := w) (c := 0) (ty := 3) (rc := 0) (rm := 2) (sd := 0) (by rw [HN.out]) ⟨by decide, by decide⟩ ⟨by decide, by decide⟩ ⟨by decide, by decide⟩ ⟨by decide, by decide⟩ (by decide)
  have HNw : Hid (∀ w g, Tb w → By w g N (romF ((3 : Nat) : Int) ((0 : Nat) : Int) ((2 : Nat) : Int) 0) → Calls Tryd.prog 15 #[.slice (some ⟨g, 0, none⟩) N N, .slice none 0 0] w fun e w' => ∃ A D, e = .returned (.tuple #[.pointer (some ⟨A.cb, 0, none⟩), .int .i64 0]) ∧ Cz w.heap.size w'.heap.size A D w' ∧ D.Base 1 RN N (romF ((3 : Nat) : Int) ((0 : Nat) : Int) ((2 : Nat) : Int) 0) ∧ Up w w') := fun w g ht hb => new_first HN.out ht HB0.out hb rfl (by rw [HRN.out]; rfl)
  have HNs : Hid (∀ (C : Ct) w g sg sc, Tb w → By w g N (romF ((3 : Nat) : Int) ((0 : Nat) : Int) ((2 : Nat) : Int) 0) → By w sg RN C.rf → RN ≤ sc → sc ≤ maxLen → C.Ok → C.m.kd = 1 → Calls Tryd.prog 15 #[.slice (some ⟨g, 0, none⟩) N N, .slice (some ⟨sg, 0, none⟩) RN sc] w fun e w' => ∃ A D, e = .returned (.tuple #[.pointer (some ⟨A.cb, 0, none⟩), .int .i64 0]) ∧ Cz w.heap.size w'.heap.size A D w' ∧ D.Base 1 RN N (romF ((3 : Nat) : Int) ((0 : Nat) : Int) ((2 : Nat) : Int) 0) ∧ Up w w') := fun C w g sg sc ht hb hs h1 h2 ho hk => new_again HN.out ht HB0.out hb rfl (by rw [HRN.out]; rfl) (by rw [HRN.out]; decide) hs h1 h2 ho hk
  obtain ⟨F, hF⟩ : ∃ F, F = romF ((3 : Nat) : Int) ((0 : Nat) : Int) ((2 : Nat) : Int) 0 := ⟨_, rfl⟩
  rw [← hF] at HRo HNw HNs
  have hrn1 : 512 ≤ RN := by omega
  have hrn2 : RN ≤ 8192 := by omega
  have eRN : (8192 : Int) = (RN : Int) := by omega
  have HeRN : Hid ((8192 : Int) = (RN : Int)) := eRN
  clear hF hN hRN eRN
  go_wp2_with fail
  refine (HRo.out _).mono ?_
  rintro e w1 ⟨g, rfl, hg, hB, u1⟩
  have HU1 : Hid (Up W w1) := HU0.out.trans u1
  have HB1 : Hid (By w1 g N F) := hB
  clear hg hB u1 HU0 HRo
  go_wp2_with fail
  refine (HNw.out _ _ (HTb.out.up HU1.out) HB1.out).mono ?_
  rintro e w2 ⟨A, C0, rfl, hcz, hbs, u2⟩
  have HX2 : Hid (X1 W g N F w1.heap.size w2.heap.size A C0 w2) := ⟨hcz, HB1.out.up u2, HB1.out.lt, HU1.out.trans u2, HU1.out.size, Nat.le_refl _⟩
  have HBs : Hid (C0.Base 1 RN N F) := hbs
  clear hcz hbs u2 HU1 HB1
  generalize w1.heap.size = lo at HX2
  generalize w2.heap.size = hi at HX2
  go_wp2_with fail
  refine (HX2.out.writeI 10 rfl (by decide)).mono ?_
  rintro e w3 ⟨rfl, hx3⟩
  have HX3 : Hid (∃ C, X1 W g N F lo hi A C w3 ∧ C.Base 1 RN N F) := ⟨_, hx3, HBs.out.wr _ _⟩
  clear hx3 HX2 HBs
  go_wp2_with fail
  go_loopw [12] (fun I wr => ∃ i : Nat, (i ≤ vn ∧ i % 2 = 0) ∧ I = .int .i64 (i : Int) ∧ Hid (∃ C, X1 W g N F lo hi A C wr ∧ C.Base 1 RN N F)) (fun I _ => vn + 1 - (intOf I).toNat)
  case atStart => exact ⟨0, ⟨Nat.zero_le _, rfl⟩, rfl, HX3⟩
  case round =>
    obtain ⟨i, ⟨hi', hpar⟩, rfl, HX⟩ := hrel
    have hle : i ≤ 9223372036854775806 := by omega
    have e4 : (0 : Int) ≤ (i : Int) + 1 := by omega
    have HPar : Hid (i % 2 = 0) := hpar
    clear hpar
    clear HX3
    by_cases hlt : i + 1 < vn
    · have e1 : (i : Int) + 1 < (vn : Int) := by omega
      have e2 : (i : Int) < (vn : Int) := by omega
      obtain rfl : va = some ⟨vb, vo, none⟩ := HV.out.ad (by omega)
      obtain ⟨C, hx, hbs⟩ := HX.out
      have HXr : Hid (X1 W g N F lo hi A C wr) := hx
      have HBs : Hid (C.Base 1 RN N F) := hbs
      clear HX hx hbs
      go_wp2_with fail
      obtain ⟨pw, hpw, lpw⟩ : ∃ p : Nat, pickI (vf i) 65536 = (p : Int) ∧ p < 65536 := by
        obtain ⟨p, hp⟩ := Int.eq_ofNat_of_zero_le (pickI_lo (vf i) 65536 (by decide))
        exact ⟨p, hp, by have := pickI_hi (vf i) 65536 (by decide); omega⟩
      have HKw : Hid (∀ w, Calls Tryd.prog 14 #[.int .i64 (vf i), .int .i64 65536] w fun e w' => e = .returned (.int .i64 (pw : Int)) ∧ w' = w) := fun w => by rw [← hpw]; exact HP.out (vf i) 65536 w (HV.out.i64 i) (by decide) (by decide)
      obtain ⟨xb, hxb, xb8⟩ : ∃ x : Nat, vf (i + 1) % 256 = (x : Int) ∧ x ≤ 255 := by
        obtain ⟨x, hx⟩ := Int.eq_ofNat_of_zero_le (show 0 ≤ vf (i + 1) % 256 by omega)
        exact ⟨x, hx, by omega⟩
      have HXb : Hid (vf (i + 1) % 256 = (xb : Int)) := hxb
      have ew : IntKind.i64.wrap ((i : Int) + 1) = (i : Int) + 1 := wrapIn _ (by omega)
      have ewu : IntKind.u8.wrap (vf (i + 1)) = (xb : Int) := by rw [← hxb]; first | rfl | exact IntKind.wrap_u8 _
      have e3 : ((i + 1 : Nat) : Int) < (vn : Int) := by omega
      clear hpw hxb
      have HSw : Hid (∀ w, Up W w → w.cell? ⟨vb, vo + i, none⟩ = some (.int .i64 (vf i)) ∧ w.cell? ⟨vb, vo + (i + 1), none⟩ = some (.int .i64 (vf (i + 1)))) := fun w u => ⟨(HV.out.upI u).cell i (by omega), (HV.out.upI u).cell (i + 1) hlt⟩
      refine wp_region_held_drew (S := fun w => w.cell? ⟨vb, vo + i, none⟩ = some (.int .i64 (vf i)) ∧ w.cell? ⟨vb, vo + (i + 1), none⟩ = some (.int .i64 (vf (i + 1)))) (by kernel_rfl) ?_ (fun hHeld => ?_)
      · exact HSw.out _ HXr.out.up.drew
      have HXd : Hid (X1 W g N F lo hi A C wr.drew) := HXr.out.more (Up.refl _).drew
      generalize World.drew wr = wd at HXd hHeld ⊢
      refine wpAnyH_take (i := 0) (v := ?_) (by simp only [List.getElem?_toArray, List.getElem?_cons_zero]; rfl) (by kernel_rfl) (by kernel_rfl) (by kernel_rfl) (by intro _ _ _ h; exact h) (Or.inl ⟨by rfl, ?_⟩) (by assumption) ?_
      rotate_left
      · (intro w hSw; (try dsimp only at hSw); go_simp <;> with_reducible rfl)
      try simp only [Act.put, List.setIfInBounds_toArray, List.set_cons_zero, List.set_cons_succ]
      refine wpAnyH_take (i := 1) (v := ?_) (by simp only [List.getElem?_toArray, List.getElem?_cons_succ, List.getElem?_cons_zero]; rfl) (by kernel_rfl) (by kernel_rfl) (by kernel_rfl) (by intro _ _ _ h; exact h) (Or.inl ⟨by rfl, ?_⟩) (by assumption) ?_
      rotate_left
      · (intro w hSw; (try dsimp only at hSw); go_simp <;> with_reducible rfl)
      try simp only [Act.put, List.setIfInBounds_toArray, List.set_cons_zero, List.set_cons_succ]
      refine wpAnyH_take (i := 2) (v := ?_) (by simp only [List.getElem?_toArray, List.getElem?_cons_succ, List.getElem?_cons_zero]; rfl) (by kernel_rfl) (by kernel_rfl) (by kernel_rfl) (by intro _ _ _ h; exact h) (Or.inl ⟨by rfl, ?_⟩) (by assumption) ?_
      rotate_left
      · (intro w hSw; (try dsimp only at hSw); go_simp <;> with_reducible rfl)
      try simp only [Act.put, List.setIfInBounds_toArray, List.set_cons_zero, List.set_cons_succ]
      refine wpAnyH_take (i := 3) (v := ?_) (by simp only [List.getElem?_toArray, List.getElem?_cons_succ, List.getElem?_cons_zero]; rfl) (by kernel_rfl) (by kernel_rfl) (by kernel_rfl) (by intro _ _ _ h; exact h) (Or.inl ⟨by rfl, ?_⟩) (by assumption) ?_
      rotate_left
      · (intro w hSw; (try dsimp only at hSw); go_simp <;> with_reducible rfl)
      try simp only [Act.put, List.setIfInBounds_toArray, List.set_cons_zero, List.set_cons_succ]
      refine wpAnyH_take (i := 4) (v := ?_) (by simp only [List.getElem?_toArray, List.getElem?_cons_succ, List.getElem?_cons_zero]; rfl) (by kernel_rfl) (by kernel_rfl) (by kernel_rfl) (by intro _ _ _ h; exact h) (Or.inl ⟨by rfl, ?_⟩) (by assumption) ?_
      rotate_left
      · (intro w hSw; (try dsimp only at hSw); go_simp <;> with_reducible rfl)
      try simp only [Act.put, List.setIfInBounds_toArray, List.set_cons_zero, List.set_cons_succ]
      refine wpAnyH_take (i := 6) (v := ?_) (by simp only [List.getElem?_toArray, List.getElem?_cons_succ, List.getElem?_cons_zero]; rfl) (by kernel_rfl) (by kernel_rfl) (by kernel_rfl) (by intro _ _ _ h; exact h) (Or.inl ⟨by rfl, ?_⟩) (by assumption) ?_
      rotate_left
      · (intro w hSw; (try dsimp only at hSw); go_simp <;> with_reducible rfl)
      try simp only [Act.put, List.setIfInBounds_toArray, List.set_cons_zero, List.set_cons_succ]
      refine wpAnyH_take (i := 7) (v := ?_) (by simp only [List.getElem?_toArray, List.getElem?_cons_succ, List.getElem?_cons_zero]; rfl) (by kernel_rfl) (by kernel_rfl) (by kernel_rfl) (by intro _ _ _ h; exact h) (Or.inl ⟨by rfl, ?_⟩) (by assumption) ?_
      rotate_left
      · (intro w hSw; (try dsimp only at hSw); go_simp <;> with_reducible rfl)
      try simp only [Act.put, List.setIfInBounds_toArray, List.set_cons_zero, List.set_cons_succ]
      refine wpAnyH_take (i := 8) (v := ?_) (by simp only [List.getElem?_toArray, List.getElem?_cons_succ, List.getElem?_cons_zero]; rfl) (by kernel_rfl) (by kernel_rfl) (by kernel_rfl) (by intro _ _ _ h; exact h) (Or.inl ⟨by rfl, ?_⟩) (by assumption) ?_
      rotate_left
      · (intro w hSw; (try dsimp only at hSw); go_simp <;> with_reducible rfl)
      try simp only [Act.put, List.setIfInBounds_toArray, List.set_cons_zero, List.set_cons_succ]
      refine wpAnyH_take (i := 9) (v := ?_) (by simp only [List.getElem?_toArray, List.getElem?_cons_succ, List.getElem?_cons_zero]; rfl) (by kernel_rfl) (by kernel_rfl) (by kernel_rfl) (by intro _ _ _ h; exact h) (Or.inl ⟨by rfl, ?_⟩) (by assumption) ?_
      rotate_left
      · (intro w hSw; (try dsimp only at hSw); go_simp <;> with_reducible rfl)
      try simp only [Act.put, List.setIfInBounds_toArray, List.set_cons_zero, List.set_cons_succ]
      refine wpAnyH_take (i := 10) (v := ?_) (by simp only [List.getElem?_toArray, List.getElem?_cons_succ, List.getElem?_cons_zero]; rfl) (by kernel_rfl) (by kernel_rfl) (by kernel_rfl) (by intro _ _ _ h; exact h) (Or.inl ⟨by rfl, ?_⟩) (by assumption) ?_
      rotate_left
      · (intro w hSw; (try dsimp only at hSw); go_simp <;> with_reducible rfl)
      try simp only [Act.put, List.setIfInBounds_toArray, List.set_cons_zero, List.set_cons_succ]
      refine wpAnyH_take (i := 11) (v := ?_) (by simp only [List.getElem?_toArray, List.getElem?_cons_succ, List.getElem?_cons_zero]; rfl) (by kernel_rfl) (by kernel_rfl) (by kernel_rfl) (by intro _ _ _ h; exact h) (Or.inl ⟨by rfl, ?_⟩) (by assumption) ?_
      rotate_left
      · (intro w hSw; (try dsimp only at hSw); go_simp <;> with_reducible rfl)
      try simp only [Act.put, List.setIfInBounds_toArray, List.set_cons_zero, List.set_cons_succ]
      refine wpAnyH_ready (rs := [5]) (by kernel_rfl) (by simp) ?_
      refine AllReadyH.cons (by simp only [List.getElem?_toArray, List.getElem?_cons_succ, List.getElem?_cons_zero]; rfl) (fun KK hK => ?_) AllReadyH.nil
      go_simp
      refine (HKw.out wd).mono ?_
      rintro e w7 ⟨rfl, hw7⟩
      obtain rfl := hw7.symm
      clear hw7
      refine hK.out _ _ (HSw.out _ HXd.out.up) (fun hHeld => ?_)
      clear hK KK
      try simp only [Act.put, List.setIfInBounds_toArray, List.set_cons_zero, List.set_cons_succ]
      refine wpAnyH_ready (rs := [12]) (by kernel_rfl) (by simp) ?_
      refine AllReadyH.cons (by simp only [List.getElem?_toArray, List.getElem?_cons_succ, List.getElem?_cons_zero]; rfl) (fun KK hK => ?_) AllReadyH.nil
      go_simp
      refine (HXd.out.writeI (a := (pw : Int)) xb (by first | rfl | exact HXb.out) xb8).mono ?_
      rintro e w8 ⟨rfl, hx8⟩
      have HX8 : Hid (∃ C, X1 W g N F lo hi A C w8 ∧ C.Base 1 RN N F) := ⟨_, hx8, HBs.out.wr _ _⟩
      refine hK.out _ _ (HSw.out _ hx8.up) (fun hHeld => ?_)
      clear hK KK hx8 HXd HXr HBs
      try simp only [Act.put, List.setIfInBounds_toArray, List.set_cons_zero, List.set_cons_succ]
      refine wpAnyH_done (by kernel_rfl) ?_ _
      clear hHeld HSw HKw HXb ew ewu e3
      go_wp2_with fail
      go_round
      case rel => exact ⟨i + 2, ⟨by omega, by have := HPar.out; omega⟩, by go_num, HX8⟩
      case measure => simp [intOf]; omega
    · have e1 : ¬ (i : Int) + 1 < (vn : Int) := by omega
      obtain ⟨C, hx, hbs⟩ := HX.out
      have HX3 : Hid (X1 W g N F lo hi A C wr) := hx
      have HBs : Hid (C.Base 1 RN N F) := hbs
      clear HX hx hbs
      go_wp2_with fail
      refine (HX3.out.writeI 10 rfl (by decide)).mono ?_
      rintro e w4 ⟨rfl, hx4⟩
      have HX4 : Hid _ := hx4
      have HSt : Hid (C.m.Std) := HX3.out.cz.std
      clear hx4 HX3
      go_wp2_with fail
      refine (HX4.out.writeI 0 rfl (by decide)).mono ?_
      rintro e w5 ⟨rfl, hx5⟩
      have HX5 : Hid _ := hx5
      clear hx5 HX4
      go_wp2_with fail
      refine (HKa.out _).mono ?_
      rintro e w' ⟨rfl, hw'⟩
      obtain rfl := hw'.symm
      clear hw'
      go_wp2_with fail
      refine (HX5.out.writeI (a := 40960 + (pa : Int)) 5 rfl (by decide)).mono ?_
      rintro e w6 ⟨rfl, hx6⟩
      have HX6 : Hid (X1 W g N F lo hi A (((C.wr 0 10).wr 16384 0).wr (40960 + (pa : Int)) 5) w6) := hx6
      have HB6 : Hid ((((C.wr 0 10).wr 16384 0).wr (40960 + (pa : Int)) 5).Base 1 RN N F) := ((HBs.out.wr _ _).wr _ _).wr _ _
      have H5 : Hid ((((C.wr 0 10).wr 16384 0).wr (40960 + (pa : Int)) 5).rf pa = 5) := last_byte HBs.out HSt.out lpa hrn1
      clear hx6 HX5 HBs HSt
      generalize Ct.wr (Ct.wr (Ct.wr C 0 10) 16384 0) (40960 + (pa : Int)) 5 = D at HX6 HB6 H5
      have HSa : Hid (Calls Tryd.prog 24 #[.pointer (some ⟨A.cb, 0, none⟩)] w6 (Cop w6 RN D.rf)) := by
        have h := HX6.out.cz.save HB6.out.bat
        rw [HB6.out.rm] at h
        exact h
      go_wp2_with fail
      refine Calls.mono HSa.out ?_
      rintro e w7 ⟨sg, sc, rfl, hs1, hs2, hs3, hs4, u7⟩
      have HX7 : Hid (X1 W g N F lo hi A D w7) := HX6.out.more u7
      have HS7 : Hid (By w7 sg RN D.rf ∧ RN ≤ sc ∧ sc ≤ maxLen ∧ hi ≤ sg) := ⟨hs2, hs3, hs4, Nat.le_trans HX6.out.hw hs1⟩
      have sc9 : sc ≤ 9223372036854775807 := by unfold maxLen at hs4; omega
      have sclo : RN ≤ sc := hs3
      have HScm : Hid (sc ≤ maxLen) := hs4
      clear hs1 hs2 hs3 hs4 u7 HX6 HSa
      go_wp2_with fail
      have HN7 : Hid _ := HNs.out D w7 g sg sc (HTb.out.up HX7.out.up) HX7.out.by' HS7.out.1 HS7.out.2.1 HS7.out.2.2.1 HX7.out.cz.ok HB6.out.kd
      refine Calls.mono HN7.out ?_
      rintro e w8 ⟨A2, E, rfl, hcz, hbs, u8⟩
      have HY8 : Hid (Cz w7.heap.size w8.heap.size A2 E w8 ∧ E.Base 1 RN N F) := ⟨hcz, hbs⟩
      have HX8 : Hid (X1 W g N F lo hi A D w8) := HX7.out.more u8
      have HS8 : Hid (By w8 sg RN D.rf ∧ hi ≤ sg ∧ sg < w7.heap.size) := ⟨HS7.out.1.up u8, HS7.out.2.2.2, HS7.out.1.lt⟩
      clear hcz hbs u8 HX7 HS7 HN7
      have esz : ((RN : Int) != 8192) = false := by rw [HeRN.out]; simp
      have HSt8 : Hid (Calls Tryd.prog 22 #[.pointer (some ⟨A.cb, 0, none⟩)] w8 (Cop w8 (5 + RN) D.st)) := by
        have h := HX8.out.cz.state
        rw [HB6.out.rm] at h
        exact h
      generalize w7.heap.size = lo2 at HY8 HS8
      go_wp2_with fail
      refine Calls.mono HSt8.out ?_
      rintro e w9 ⟨tg, tc', rfl, hs1, hs2, hs3, hs4, u9⟩
      have HTr : Hid (Tri W g N F 1 RN lo hi lo2 w8.heap.size tg sg A A2 D D E w9) := ⟨HX8.out.cz.up u9, HY8.out.1.up u9, HB6.out, HB6.out, HY8.out.2, HX8.out.cz.ok, HX8.out.cz.std, hs2, HS8.out.1.up u9, HX8.out.by'.up u9, HX8.out.up.trans u9, HX8.out.wl, HX8.out.gl, HS8.out.2.1, HS8.out.2.2, hs1, by have := HX8.out.cz.l1; omega, by omega⟩
      have HTc : Hid (5 + RN ≤ tc' ∧ tc' ≤ maxLen) := ⟨hs3, hs4⟩
      have HYb : Hid (E.Base 1 RN N F) := HY8.out.2
      have tc9 : tc' ≤ 9223372036854775807 := by unfold maxLen at hs4; omega
      have tclo : 5 + RN ≤ tc' := hs3
      clear hs1 hs2 hs3 hs4 u9 HX8 HY8 HS8 HSt8 esz
      generalize w8.heap.size = hi2 at HTr
      obtain ⟨SN, hSN⟩ : ∃ SN, SN = 5 + RN := ⟨_, rfl⟩
      have esn : ((SN : Int) != 8197) = false := by rw [bne_eq_false_iff_eq]; have := HeRN.out; omega
      have HLY : Hid (∀ w, Tri W g N F 1 RN lo hi lo2 hi2 tg sg A A2 D D E w → Calls Tryd.prog 20 #[.pointer (some ⟨A2.cb, 0, none⟩), .slice (some ⟨tg, 0, none⟩) SN tc'] w fun e w' => e = .returned (.int .i64 0) ∧ Tri W g N F 1 RN lo hi lo2 hi2 tg sg A A2 D D (E.loaded D.st) w') := fun w h => by rw [hSN]; exact h.loadY HTc.out.1 HTc.out.2
      have HLX : Hid (∀ w, Tri W g N F 1 RN lo hi lo2 hi2 tg sg A A2 D D (E.loaded D.st) w → Calls Tryd.prog 20 #[.pointer (some ⟨A.cb, 0, none⟩), .slice (some ⟨tg, 0, none⟩) SN tc'] w fun e w' => e = .returned (.int .i64 0) ∧ Tri W g N F 1 RN lo hi lo2 hi2 tg sg A A2 D (D.loaded D.st) (E.loaded D.st) w') := fun w h => by rw [hSN]; exact h.loadX HTc.out.1 HTc.out.2
      rw [← hSN]
      have HSN : Hid (SN = 5 + RN) := hSN
      have snlo : SN ≤ tc' := by omega
      clear hSN tclo
      go_wp2_with fail
      refine (HLY.out _ HTr.out).mono ?_
      rintro e wa ⟨rfl, ht⟩
      have HTa : Hid _ := ht
      clear ht HTr HLY
      go_wp2_with fail
      refine (HLX.out _ HTa.out).mono ?_
      rintro e wb ⟨rfl, ht⟩
      have HTb2 : Hid (Tri W g N F 1 RN lo hi lo2 hi2 tg sg A A2 D (D.loaded D.st) (E.loaded D.st) wb) := ht
      clear ht HTa HLX
      go_wp2_with fail
      refine (HNw.out _ _ (HTb.out.up HTb2.out.up) HTb2.out.rom).mono ?_
      rintro e wc0 ⟨A3, G, rfl, hcz, hbs, uc⟩
      have HQ : Hid (Qua W g N F 1 RN lo hi lo2 hi2 wb.heap.size wc0.heap.size tg sg A A2 A3 D (D.loaded D.st) (E.loaded D.st) G wc0) := ⟨HTb2.out.more uc, hcz, hbs, HTb2.out.st.lt⟩
      have HZb : Hid (G.Base 1 RN N F) := hbs
      clear hcz hbs uc HTb2
      generalize wb.heap.size = lo3 at HQ
      generalize wc0.heap.size = hi3 at HQ
      go_wp2_with fail
      have HLZ : Hid (Calls Tryd.prog 20 #[.pointer (some ⟨A3.cb, 0, none⟩), .slice (some ⟨tg, 0, none⟩) SN tc'] wc0 fun e w' => e = .returned (.int .i64 0) ∧ Qua W g N F 1 RN lo hi lo2 hi2 lo3 hi3 tg sg A A2 A3 D (D.loaded D.st) (E.loaded D.st) (G.loaded D.st) w') := by
        rw [HSN.out]
        exact HQ.out.loadZ HTc.out.1 HTc.out.2
      refine Calls.mono HLZ.out ?_
      rintro e wd0 ⟨rfl, hq⟩
      have HFo : Hid (Four W RN tg sg A A2 A3 D wd0) := hq.four HB6.out HYb.out HZb.out
      clear hq HLZ HQ HYb HZb HB6 HNw HNs HTb HB0
      go_wp2_with fail
      go_loopw [20] (fun I wr => ∃ i : Nat, i ≤ 9 ∧ I = .int .i64 (i : Int) ∧ Hid (Four W RN tg sg A A2 A3 D wr)) (fun I _ => 9 - (intOf I).toNat)
      case atStart => exact ⟨0, Nat.zero_le _, rfl, HFo⟩
      case round =>
        obtain ⟨i, hi9, rfl, HFi⟩ := hrel
        clear HFo
        by_cases hlt : i < 9
        · have e1 : (i : Int) < 9 := by omega
          go_wp2_with fail
          refine (HKa.out _).mono ?_
          rintro e w' ⟨rfl, hw'⟩
          obtain rfl := hw'.symm
          clear hw'
          go_wp2_with fail
          refine (HFi.out.readX).mono ?_
          rintro e r0 ⟨rfl, u9⟩
          have Hr0 : Hid (Four W RN tg sg A A2 A3 D r0) := HFi.out.more u9
          clear u9 HFi
          go_wp2_with fail
          refine (Hr0.out.readY).mono ?_
          rintro e r1 ⟨rfl, u9⟩
          have Hr1 : Hid (Four W RN tg sg A A2 A3 D r1) := Hr0.out.more u9
          clear u9 Hr0
          go_wp2_with fail
          refine (Hr1.out.readX).mono ?_
          rintro e r2 ⟨rfl, u9⟩
          have Hr2 : Hid (Four W RN tg sg A A2 A3 D r2) := Hr1.out.more u9
          clear u9 Hr1
          go_wp2_with fail
          refine (Hr2.out.readZ).mono ?_
          rintro e r3 ⟨rfl, u9⟩
          have Hr3 : Hid (Four W RN tg sg A A2 A3 D r3) := Hr2.out.more u9
          clear u9 Hr2
          go_wp2_with fail
          refine (Hr3.out.readX).mono ?_
          rintro e r4 ⟨rfl, u9⟩
          have Hr4 : Hid (Four W RN tg sg A A2 A3 D r4) := Hr3.out.more u9
          clear u9 Hr3
          go_wp2_with fail
          refine (Hr4.out.readZ).mono ?_
          rintro e r5 ⟨rfl, u9⟩
          have Hr5 : Hid (Four W RN tg sg A A2 A3 D r5) := Hr4.out.more u9
          clear u9 Hr4
          go_wp2_with fail
          refine (Hr5.out.readX).mono ?_
          rintro e r6 ⟨rfl, u9⟩
          have Hr6 : Hid (Four W RN tg sg A A2 A3 D r6) := Hr5.out.more u9
          clear u9 Hr5
          go_wp2_with fail
          refine (Hr6.out.readY).mono ?_
          rintro e r7 ⟨rfl, u9⟩
          have Hr7 : Hid (Four W RN tg sg A A2 A3 D r7) := Hr6.out.more u9
          clear u9 Hr6
          go_wp2_with fail
          go_round
          case rel => exact ⟨i + 1, by omega, by go_num, Hr7⟩
          case measure => simp [intOf]; omega
        · have e1 : ¬ (i : Int) < 9 := by omega
          go_wp2_with fail
          refine Calls.mono HFi.out.stateZ ?_
          rintro e s1 ⟨g1, c1, h1, rfl, hb1, he1, u1⟩
          have HF1 : Hid (Four W RN tg sg A A2 A3 D s1) := HFi.out.more u1
          have HSm : Hid (Calls Tryd.prog 21 #[.slice (some ⟨g1, 0, none⟩) SN c1, .slice (some ⟨tg, 0, none⟩) SN tc'] s1 fun e w' => e = .returned (.bool true) ∧ Up s1 w') := by
            rw [HSN.out]
            exact same_yes hb1 (HF1.out.st.byts HTc.out.1 HTc.out.2 (fun k => Ct.st_u8 HF1.out.ok HF1.out.std k)) he1
          rw [← HSN.out]
          clear hb1 he1 u1 HFi
          go_wp2_with fail
          refine Calls.mono HSm.out ?_
          rintro e s2 ⟨rfl, u2⟩
          have HF2 : Hid (Four W RN tg sg A A2 A3 D s2) := HF1.out.more u2
          clear u2 HF1 HSm
          go_wp2_with fail
          refine Calls.mono HF2.out.saveY ?_
          rintro e s3 ⟨g3, c3, h3, rfl, hb3, he3, u3⟩
          have HF3 : Hid (Four W RN tg sg A A2 A3 D s3) := HF2.out.more u3
          have HSm : Hid (Calls Tryd.prog 21 #[.slice (some ⟨g3, 0, none⟩) RN c3, .slice (some ⟨sg, 0, none⟩) RN sc] s3 fun e w' => e = .returned (.bool true) ∧ Up s3 w') := same_yes hb3 (HF3.out.sv.byts sclo HScm.out (fun k => HF3.out.ok.u8 k)) he3
          clear hb3 he3 u3 HF2
          go_wp2_with fail
          refine Calls.mono HSm.out ?_
          rintro e s4 ⟨rfl, u4⟩
          have HF4 : Hid (Four W RN tg sg A A2 A3 D s4) := HF3.out.more u4
          clear u4 HF3 HSm
          go_wp2_with fail
          refine (HKa.out _).mono ?_
          rintro e w' ⟨rfl, hw'⟩
          obtain rfl := hw'.symm
          clear hw'
          have kc : s4.cell? ⟨sg, pa, none⟩ = some (.int .u8 5) := by rw [← H5.out]; exact HF4.out.sv.cell pa (by omega)
          have em : ((pa : Int)).tmod 8192 = (pa : Int) := by rw [Int.tmod_eq_emod_of_nonneg (by omega)]; omega
          have em2 : (pa : Int) % 8192 = (pa : Int) := by omega
          have ei : (pa : Int) < (RN : Int) := by omega
          go_wp2_with fail
          go_ret
          exact ⟨by first | rfl | (simp; done), HF4.out.up⟩
end Go.Proofs.YtkcmhojninhhoaaDoor
