/- CartKept: the walk. -/
import Derived.Test.YtpiboooiofjigaaDoorCbV
import Derived.Deep.DeepCutAuto
import Derived.Deep.CutBlock
namespace Go.Proofs.YtpiboooiofjigaaDoor
open Go.Shelf Go.RowKit
set_option linter.unusedVariables false
set_option linter.unusedSimpArgs false
variable {W : World}
theorem By.less {w : World} {g n m : Nat} {f : Nat → Int} (h : By w g n f) (hm : m ≤ n) : By w g m f := by
  obtain ⟨cs, ty, h1, h2, h3⟩ := h.row
  exact ⟨cs, ty, h1, by omega, fun k hk => h3 k (by omega)⟩
theorem y_seven {D : Ct} (hk : D.m.kd = 1) (hs : D.m.Std) (hr : D.rm = 8192) : ((D.wr 0 10).wr 40965 7).rd 40965 = 7 := by
  have e1 : D.wr 0 10 = D.set 0 10 := by unfold Ct.wr; rw [if_pos (by decide)]; rfl
  have hsn : (D.set 0 10).m.seen = true := by
    obtain ⟨hd, ty, mpr, bk, rm, bat, n, f, rf, ⟨kd, on, low, high, pick, mode⟩⟩ := D
    have hk : kd = 1 := hk
    subst hk
    rfl
  have hkd : (D.set 0 10).m.kd = 1 := (Mp.set_kd _ _ _).trans hk
  have hh : (D.set 0 10).here 40965 := ⟨by decide, by decide, by show 1 ≤ D.rm; omega, hsn⟩
  rw [e1]
  have e : (D.set 0 10).wr 40965 7 = (D.set 0 10).put 40965 7 := by unfold Ct.wr; rw [if_neg (by decide), if_pos hh]
  have hh2 : ((D.set 0 10).put 40965 7).here 40965 := hh
  rw [e]
  unfold Ct.rd
  rw [if_neg (by decide), if_neg (by decide), if_neg (by decide), if_pos hh2]
  have e2 : ((D.set 0 10).put 40965 7).rf (((D.set 0 10).put 40965 7).at' 40965) = (D.set 0 10).m.keeps ((7 : Nat) : Int) := by
    show putF (D.set 0 10).rf ((D.set 0 10).at' 40965) 1 (fun _ => (D.set 0 10).m.keeps ((7 : Nat) : Int)) ((D.set 0 10).at' 40965) = _
    unfold putF
    rw [if_pos ⟨Nat.le_refl _, Nat.lt_succ_self _⟩]
  rw [e2]
  show (D.set 0 10).m.shows ((D.set 0 10).m.keeps ((7 : Nat) : Int)) = 7
  unfold Mp.shows Mp.keeps
  rw [hkd]
  rfl
set_option maxRecDepth 100000 in
set_option maxHeartbeats 2000000 in
theorem kept_walk {ty rc rm sd mo : Int} {raw : Bool} {pa ba oa : Option Addr} {pb po pn pc bb' bo bn bc ob oo on oc : Nat} {pf bf : Nat → Int} {q : Nat → Nat → Int} (hT : Tb W) (i1 : I64 ty) (i2 : I64 rc) (i3 : I64 rm) (i4 : I64 sd) (i5 : I64 mo) (hP : Ints W pa pb po pn pc pf) (hB : Ints W ba bb' bo bn bc bf) (hO : Ops4 W oa ob oo on oc q) :
    Calls Tryd.prog 8 #[.agg #[.int .i64 ty, .int .i64 rc, .int .i64 rm, .int .i64 sd, .int .i64 mo, .slice pa pn pc, .slice ba bn bc, .bool raw], .slice oa on oc] W fun e w' => e = .returned (.bool true) ∧ Up W w' := by
  have HTb : Hid (Tb W) := hT
  have HO : Hid (Ops4 W oa ob oo on oc q) := hO
  have olc := hO.lc
  have ocm : oc ≤ 9223372036854775807 := by have := hO.cm; unfold maxLen at this; omega
  have HRg : Hid (∀ w, Up W w → Calls Tryd.prog 12 #[.agg #[.int .i64 ty, .int .i64 rc, .int .i64 rm, .int .i64 sd, .int .i64 mo, .slice pa pn pc, .slice ba bn bc, .bool raw]] w (RomAns w)) := fun w u => romG_any i1 i2 i3 i4 i5 (hP.upI u) (hB.upI u)
  obtain ⟨M, hM⟩ : ∃ M : Nat, M = 32768 := ⟨_, rfl⟩
  have HM : Hid (M = 32768) := hM
  have HRo : Hid (∀ w, Calls Tryd.prog 12 #[.agg #[.int .i64 3, .int .i64 0, .int .i64 2, .int .i64 0, .int .i64 0, .slice none 0 0, .slice none 0 0, .bool false]] w fun e w' => ∃ g, e = .returned (.slice (some ⟨g, 0, none⟩) M M) ∧ w.heap.size ≤ g ∧ By w' g M (romF ((3 : Nat) : Int) ((0 : Nat) : Int) ((2 : Nat) : Int) 0) ∧ Up w w') := fun w => rom_any (W := w) (c := 0) (ty := 3) (rc := 0) (rm := 2) (sd := 0) (by rw [HM.out]) ⟨by decide, by decide⟩ ⟨by decide, by decide⟩ ⟨by decide, by decide⟩ ⟨by decide, by decide⟩ (by decide)
  have HB3 : Hid (Box0 3 2 ⟨3, 1, 128, 2, 3, true⟩) := ⟨by simp [rowsT], rfl, by decide, by decide, by decide, by decide, by decide⟩
  have HNf : Hid (∀ w g, Tb w → By w g M (romF ((3 : Nat) : Int) ((0 : Nat) : Int) ((2 : Nat) : Int) 0) → Calls Tryd.prog 15 #[.slice (some ⟨g, 0, none⟩) M M, .slice none 0 0] w fun e w' => ∃ A D, e = .returned (.tuple #[.pointer (some ⟨A.cb, 0, none⟩), .int .i64 0]) ∧ Cz w.heap.size w'.heap.size A D w' ∧ D.Base 1 8192 M (romF ((3 : Nat) : Int) ((0 : Nat) : Int) ((2 : Nat) : Int) 0) ∧ Up w w') := fun w g ht hb => new_first HM.out ht HB3.out hb rfl rfl
  generalize romF ((3 : Nat) : Int) ((0 : Nat) : Int) ((2 : Nat) : Int) 0 = FX at HRo HNf
  clear hT hO hM i1 i2 i3 i4 i5 hP hB
  go_enter Tryd.func8, Tryd.ntmps8
  go_wp2_with fail
  refine Calls.mono (HRg.out _ ((Up.refl W).alloc _)) ?_
  rintro e w2 ⟨g, N, f, rfl, hg, hb, h8, n1, n2, u2⟩
  have HU2 : Hid (Up W w2) := ((Up.refl W).alloc _).trans u2
  have HB2 : Hid (By w2 g N f ∧ (∀ k, 0 ≤ f k ∧ f k ≤ 255)) := ⟨hb, h8⟩
  clear hg hb h8 u2 HRg
  go_wp2_with fail
  refine Calls.mono (new_kept2 (HTb.out.up HU2.out) HB2.out.1 HB2.out.2 n2) ?_
  rintro e w3 ⟨u3, hcs⟩
  have HU3 : Hid (Up W w3) := HU2.out.trans u3
  rcases hcs with ⟨xe, hx0, rfl, hno⟩ | ⟨A, C, rfl, hcz, c1, c2, c3, c4, c5⟩
  · have zx : (xe != 0) = true := by rw [bne_iff_ne]; exact hx0
    clear u3 hno
    go_wp2_with fail
    refine (HRo.out _).mono ?_
    rintro e w4 ⟨g4, rfl, _, hb4, u4⟩
    have H4 : Hid (By w4 g4 M FX ∧ Up w3 w4) := ⟨hb4, u4⟩
    clear hb4 u4
    go_wp2_with fail
    refine (HNf.out _ _ (HTb.out.up (HU3.out.trans H4.out.2)) H4.out.1).mono ?_
    rintro e w5 ⟨A2, D, rfl, hcz, hbs, u5⟩
    have HY5 : Hid (Cz w4.heap.size w5.heap.size A2 D w5 ∧ Up w3 w5 ∧ w3.heap.size ≤ w4.heap.size) := ⟨hcz, H4.out.2.trans u5, H4.out.2.size⟩
    have H7 : Hid (((D.wr 0 10).wr 40965 7).rd 40965 = 7) := y_seven hbs.kd hcz.std hbs.rm
    clear hcz hbs u5 H4
    generalize w4.heap.size = lo2 at HY5
    generalize hhi : w5.heap.size = hi2 at HY5
    have HHi : Hid (hi2 ≤ w5.heap.size) := by rw [hhi]; exact Nat.le_refl _
    clear hhi
    go_wp2_with fail
    have HW1 : Hid _ := HY5.out.1.write (a := 0) (x := 10) (by decide)
    refine Calls.mono HW1.out ?_
    rintro e w6 ⟨rfl, hcz, hfk⟩
    have HY6 : Hid (Cz lo2 hi2 A2 (D.wr 0 10) w6 ∧ FK (Off lo2 hi2) w5 w6 ∧ hi2 ≤ w6.heap.size) := ⟨hcz, hfk, Nat.le_trans HHi.out hfk.size⟩
    clear hcz hfk HW1
    go_wp2_with fail
    have HW1 : Hid _ := HY6.out.1.write (a := 40965) (x := 7) (by decide)
    refine Calls.mono HW1.out ?_
    rintro e w7 ⟨rfl, hcz, hfk⟩
    have HY7 : Hid (Cz lo2 hi2 A2 ((D.wr 0 10).wr 40965 7) w7 ∧ FK (Off lo2 hi2) w5 w7 ∧ hi2 ≤ w7.heap.size) := ⟨hcz, HY6.out.2.1.trans hfk, Nat.le_trans HY6.out.2.2 hfk.size⟩
    clear hcz hfk HW1 HY6 HHi
    generalize Ct.wr (Ct.wr D 0 10) 40965 7 = D7 at HY7 H7
    have HR7 : Hid (∀ w, Cz lo2 hi2 A2 D7 w → Calls Tryd.prog 17 #[.pointer (some ⟨A2.cb, 0, none⟩), .int .i64 40965] w fun e w' => e = .returned (.int .u8 7) ∧ Up w w') := fun w h => by
      have hr := h.read (a := 40965)
      rw [H7.out] at hr
      exact hr
    go_wp2_with fail
    refine (HR7.out _ HY7.out.1).mono ?_
    rintro e w8 ⟨rfl, u8⟩
    have HY8 : Hid (Cz lo2 hi2 A2 D7 w8 ∧ FK (Off lo2 hi2) w5 w8 ∧ hi2 ≤ w8.heap.size ∧ Up w3 w5 ∧ w3.heap.size ≤ lo2) := ⟨HY7.out.1.up u8, HY7.out.2.1.trans (FK.ofUp u8), Nat.le_trans HY7.out.2.2 u8.size, HY5.out.2.1, HY5.out.2.2⟩
    clear u8 HY7 HY5 H7
    go_wp2_with fail
    go_ret
    exact ⟨by first | rfl | (simp; done), up_off (HU3.out.trans HY8.out.2.2.2.1) HY8.out.2.1 (Nat.le_trans HU3.out.size HY8.out.2.2.2.2)⟩
  have HX3 : Hid (Cz w2.heap.size w3.heap.size A C w3 ∧ (C.n = N ∧ C.f = f ∧ C.n = C.bk * 16384 ∧ 1 ≤ C.bk) ∧ By w3 g N f ∧ g < w2.heap.size ∧ W.heap.size ≤ w2.heap.size) := ⟨hcz, ⟨c1, c2, c3, c4⟩, HB2.out.1.up u3, HB2.out.1.lt, HU2.out.size⟩
  have HNw : Hid (NewIs f N C.m.kd C.rm) := c5
  clear hcz c1 c2 c3 c4 c5 u3
  go_wp2_with fail
  refine (HRo.out _).mono ?_
  rintro e w4 ⟨g4, rfl, _, hb4, u4⟩
  have H4 : Hid (By w4 g4 M FX ∧ Up w3 w4) := ⟨hb4, u4⟩
  clear hb4 u4
  go_wp2_with fail
  refine (HNf.out _ _ (HTb.out.up (HU3.out.trans H4.out.2)) H4.out.1).mono ?_
  rintro e w5 ⟨A2, D, rfl, hcz, hbs, u5⟩
  have HY5 : Hid (Cz w4.heap.size w5.heap.size A2 D w5 ∧ Up w3 w5 ∧ w3.heap.size ≤ w4.heap.size) := ⟨hcz, H4.out.2.trans u5, H4.out.2.size⟩
  have H7 : Hid (((D.wr 0 10).wr 40965 7).rd 40965 = 7) := y_seven hbs.kd hcz.std hbs.rm
  clear hcz hbs u5 H4
  generalize w4.heap.size = lo2 at HY5
  generalize hhi : w5.heap.size = hi2 at HY5
  have HHi : Hid (hi2 ≤ w5.heap.size) := by rw [hhi]; exact Nat.le_refl _
  clear hhi
  go_wp2_with fail
  have HW1 : Hid _ := HY5.out.1.write (a := 0) (x := 10) (by decide)
  refine Calls.mono HW1.out ?_
  rintro e w6 ⟨rfl, hcz, hfk⟩
  have HY6 : Hid (Cz lo2 hi2 A2 (D.wr 0 10) w6 ∧ FK (Off lo2 hi2) w5 w6 ∧ hi2 ≤ w6.heap.size) := ⟨hcz, hfk, Nat.le_trans HHi.out hfk.size⟩
  clear hcz hfk HW1
  go_wp2_with fail
  have HW1 : Hid _ := HY6.out.1.write (a := 40965) (x := 7) (by decide)
  refine Calls.mono HW1.out ?_
  rintro e w7 ⟨rfl, hcz, hfk⟩
  have HY7 : Hid (Cz lo2 hi2 A2 ((D.wr 0 10).wr 40965 7) w7 ∧ FK (Off lo2 hi2) w5 w7 ∧ hi2 ≤ w7.heap.size) := ⟨hcz, HY6.out.2.1.trans hfk, Nat.le_trans HY6.out.2.2 hfk.size⟩
  clear hcz hfk HW1 HY6 HHi
  generalize Ct.wr (Ct.wr D 0 10) 40965 7 = D7 at HY7 H7
  have HR7 : Hid (∀ w, Cz lo2 hi2 A2 D7 w → Calls Tryd.prog 17 #[.pointer (some ⟨A2.cb, 0, none⟩), .int .i64 40965] w fun e w' => e = .returned (.int .u8 7) ∧ Up w w') := fun w h => by
    have hr := h.read (a := 40965)
    rw [H7.out] at hr
    exact hr
  go_wp2_with fail
  refine (HR7.out _ HY7.out.1).mono ?_
  rintro e w8 ⟨rfl, u8⟩
  have HY8 : Hid (Cz lo2 hi2 A2 D7 w8 ∧ FK (Off lo2 hi2) w5 w8 ∧ hi2 ≤ w8.heap.size ∧ Up w3 w5 ∧ w3.heap.size ≤ lo2) := ⟨HY7.out.1.up u8, HY7.out.2.1.trans (FK.ofUp u8), Nat.le_trans HY7.out.2.2 u8.size, HY5.out.2.1, HY5.out.2.2⟩
  clear u8 HY7 HY5 H7
  obtain ⟨RN, hRN⟩ : ∃ r, r = C.rm := ⟨_, rfl⟩
  obtain ⟨KD, hKD⟩ : ∃ r, r = C.m.kd := ⟨_, rfl⟩
  obtain ⟨SN, hSN⟩ : ∃ r, r = 5 + RN := ⟨_, rfl⟩
  have HSN : Hid (SN = 5 + RN) := hSN
  have HNI : Hid (NewIs f N KD RN) := by rw [hKD, hRN]; exact HNw.out
  have HX8 : Hid (Cz w2.heap.size w3.heap.size A C w8 ∧ By w8 g N f ∧ Up W w8) := by
    obtain ⟨y1, y2, y3, y4, y5⟩ := HY8.out
    obtain ⟨x1, x2, x3, x4, x5⟩ := HX3.out
    have xb := x3.up y4
    exact ⟨(x1.up y4).keep y2 (fun k _ hk => Or.inl (by omega)), xb.of_block (y2.block g xb.lt (Or.inl (by have := x1.l1; omega))), up_off (HU3.out.trans y4) y2 (Nat.le_trans HU3.out.size y5)⟩
  have HSt : Hid (Calls Tryd.prog 22 #[.pointer (some ⟨A.cb, 0, none⟩)] w8 (Cop w8 SN C.st)) := by
    have h := HX8.out.1.state
    rw [hSN, hRN]
    exact h
  go_wp2_with fail
  refine Calls.mono HSt.out ?_
  rintro e w9 ⟨tg, tc, rfl, hs1, hs2, hs3, hs4, u9⟩
  have HK9 : Hid (Kx W g N f w2.heap.size w3.heap.size lo2 hi2 tg RN KD A A2 C D7 C.st w9) := by
    obtain ⟨y1, y2, y3, y4, y5⟩ := HY8.out
    obtain ⟨x1, ⟨x21, x22, x23, x24⟩, x3, x4, x5⟩ := HX3.out
    exact ⟨HX8.out.1.up u9, y1.up u9, HX8.out.2.1.up u9, by rw [← hSN]; exact hs2, HX8.out.2.2.trans u9, ⟨x21, x22, hRN.symm, hKD.symm, x23, x24⟩, x5, x4, y5, Nat.le_trans y3 hs1⟩
  have HT9 : Hid (SN ≤ tc ∧ tc ≤ maxLen) := ⟨hs3, hs4⟩
  clear hs1 hs2 hs3 hs4 u9 HSt HX8 HY8 HX3 HRo HB3 hRN hKD hSN HU3 HNw
  generalize w2.heap.size = lo at HK9
  generalize w3.heap.size = hi at HK9
  go_upto_block 0 with fail
  have hsn5 : 5 ≤ SN := by have := HSN.out; omega
  go_cut [10] (fun V wx => ∃ (tg tc : Nat) (C : Ct), V = .slice (some ⟨tg, 0, none⟩) SN tc ∧ Hid ((SN ≤ tc ∧ tc ≤ maxLen) ∧ Kx W g N f lo hi lo2 hi2 tg RN KD A A2 C D7 C.st wx))
  case first =>
    go_wp2_with fail
    go_loopw [10, 11] (fun V I wr => ∃ (i tg tc : Nat) (C : Ct), (i ≤ on ∧ SN ≤ tc ∧ tc ≤ 9223372036854775807) ∧ I = .int .i64 (i : Int) ∧ V = .slice (some ⟨tg, 0, none⟩) SN tc ∧ Hid (tc ≤ maxLen ∧ Kx W g N f lo hi lo2 hi2 tg RN KD A A2 C D7 C.st wr)) (fun _ I _ => on - (intOf I).toNat)
    case atStart => exact ⟨0, tg, tc, C, ⟨Nat.zero_le _, HT9.out.1, by have := HT9.out.2; unfold maxLen at this; omega⟩, rfl, rfl, HT9.out.2, HK9.out⟩
    case round =>
      clear HK9 HT9
      obtain ⟨i, tg, tc, C, ⟨hi', htc1, htc2⟩, rfl, rfl, HK⟩ := hrel
      by_cases hlt : i < on ∧ i < 400
      · have e1 : (i : Int) < (on : Int) := by omega
        have e2 : (i : Int) < 400 := by omega
        obtain rfl : oa = some ⟨ob, oo, none⟩ := HO.out.ad (by omega)
        have HOc : Hid (∀ w, Up W w → w.cell? ⟨ob, oo + i * 4, none⟩ = some (.int .i64 (q i 0)) ∧ w.cell? ⟨ob, oo + i * 4 + 1, none⟩ = some (.int .i64 (q i 1)) ∧ w.cell? ⟨ob, oo + i * 4 + 2, none⟩ = some (.int .i64 (q i 2))) := fun w u => ⟨(HO.out.up u).cell i hlt.1 0 (by decide), (HO.out.up u).cell i hlt.1 1 (by decide), (HO.out.up u).cell i hlt.1 2 (by decide)⟩
        obtain ⟨kk, hkk⟩ : ∃ x, x = q i 0 := ⟨_, rfl⟩
        obtain ⟨aa, haa⟩ : ∃ x, x = q i 1 := ⟨_, rfl⟩
        obtain ⟨bv, hbv⟩ : ∃ x, x = q i 2 := ⟨_, rfl⟩
        rw [← hkk, ← haa, ← hbv] at HOc
        obtain ⟨xv, hxv, xv8⟩ : ∃ x : Nat, bv % 256 = (x : Int) ∧ x ≤ 255 := by
          obtain ⟨x, hx⟩ := Int.eq_ofNat_of_zero_le (show 0 ≤ bv % 256 by omega)
          exact ⟨x, hx, by omega⟩
        have HI64 : Hid (I64 aa) := by rw [haa]; exact HO.out.i64 i 1
        have HXv : Hid (bv % 256 = (xv : Int)) := hxv
        have HOst : Hid (∀ k, 0 ≤ C.st k ∧ C.st k ≤ 255) := fun k => Ct.st_u8 HK.out.2.x.ok HK.out.2.x.std k
        clear hkk haa hbv hxv
        obtain ⟨k0, k1, k2⟩ := HOc.out wr HK.out.2.up
        go_upto_if 83 with fail
        have HK0 : Hid (Kx W g N f lo hi lo2 hi2 tg RN KD A A2 C D7 C.st wr) := HK.out.2
        have HTm : Hid (tc ≤ maxLen) := HK.out.1
        clear k0 k1 k2 HK
        obtain ⟨w0, hw0⟩ : ∃ x, x = wr := ⟨_, rfl⟩
        rw [← hw0] at HK0 ⊢
        clear hw0
        go_cut [14, 15, 16] (fun _ _ _ wx => Hid (Kx W g N f lo hi lo2 hi2 tg RN KD A A2 C D7 C.st wx))
        case first =>
          as_aux_lemma =>
            by_cases hk1 : kk = 1
            · have z1 : (kk == 1) = true := by rw [beq_iff_eq]; exact hk1
              clear hk1
              go_wp2_with fail
              refine (HK0.out.x.read).mono ?_
              rintro e w4 ⟨rfl, u4⟩
              have HK4 : Hid (Kx W g N f lo hi lo2 hi2 tg RN KD A A2 C D7 C.st w4) := HK0.out.more u4
              clear u4 HK0
              by_cases hr : 0 ≤ aa ∧ aa < 32768
              · have e3 : (0 : Int) ≤ aa := hr.1
                have e4 : aa < 32768 := hr.2
                obtain ⟨BK, hBK⟩ : ∃ b, b = C.bk := ⟨_, rfl⟩
                have HBK : Hid (N = BK * 16384 ∧ 1 ≤ BK) := ⟨by rw [hBK, ← HK4.out.cn.2.2.2.2.1]; exact HK4.out.cn.1.symm, by rw [hBK]; exact HK4.out.cn.2.2.2.2.2⟩
                obtain ⟨b0, hb0, hrd⟩ := rd_bank (C := C) hr.1 hr.2 HK4.out.cn.2.2.2.2.1 HK4.out.cn.2.2.2.2.2
                rw [← hBK] at hb0
                obtain ⟨aN, haN, laN⟩ : ∃ p : Nat, aa % 16384 = (p : Int) ∧ p < 16384 := by
                  obtain ⟨p, hp⟩ := Int.eq_ofNat_of_zero_le (show 0 ≤ aa % 16384 by omega)
                  exact ⟨p, hp, by omega⟩
                have eA : aa.toNat % 16384 = aN := by omega
                have hG : C.rd aa = f (b0 * 16384 + aN) := by rw [hrd, eA, HK4.out.cn.2.1]
                have HG : Hid (C.rd aa = f (b0 * 16384 + aN)) := hG
                generalize C.rd aa = GV at HG ⊢
                have et : aa.tmod 16384 = (aN : Int) := by rw [Int.tmod_eq_emod_of_nonneg hr.1]; exact haN
                have eq1 : (N : Int).tdiv 16384 = (BK : Int) := by
                  have := HBK.out.1
                  rw [Int.tdiv_eq_ediv_of_nonneg (by omega)]
                  omega
                have eq2 : (N : Int) / 16384 = (BK : Int) := by
                  have := HBK.out.1
                  omega
                clear hr hrd eA hG hBK
                go_wp2_with fail
                go_loopw [15, 16] (fun Fv I wr => wr = w4 ∧ ∃ (b : Nat) (t : Bool), b ≤ BK ∧ I = .int .i64 (b : Int) ∧ Fv = .bool t ∧ Hid (b0 < b → t = true)) (fun _ I _ => BK - (intOf I).toNat)
                case atStart => exact ⟨rfl, 0, false, Nat.zero_le _, rfl, rfl, fun h => absurd h (Nat.not_lt_zero _)⟩
                case round =>
                  obtain ⟨hwr, b, t, hb, rfl, rfl, HF⟩ := hrel
                  subst hwr
                  by_cases hlb : b < BK
                  · have e5 : (b : Int) < (BK : Int) := by omega
                    have hQ : 16384 * b + aN < N := by have := HBK.out.1; omega
                    obtain ⟨Q, hQe⟩ : ∃ Q, Q = 16384 * b + aN := ⟨_, rfl⟩
                    have e6 : (16384 : Int) * (b : Int) + (aN : Int) = (Q : Int) := by omega
                    have e7 : (Q : Int) < (N : Int) := by omega
                    have kq : wr.cell? ⟨g, Q, none⟩ = some (.int .u8 (f Q)) := HK4.out.rom.cell Q (by omega)
                    have HQ : Hid (b = b0 → f Q = GV) := fun h => by rw [HG.out, hQe, h, Nat.mul_comm]
                    clear hQ hQe
                    cases t with
                    | true =>
                      go_wp2_with fail
                      go_round
                      case rel => exact ⟨by trivial, b + 1, true, by omega, by go_num, rfl, fun _ => rfl⟩
                      case measure => simp [intOf]; omega
                    | false =>
                      obtain ⟨t2, ht2⟩ : ∃ t2, (f Q == GV) = t2 := ⟨_, rfl⟩
                      have HN : Hid (b0 < b + 1 → t2 = true) := fun h => by
                        by_cases hbb : b = b0
                        · rw [← ht2, HQ.out hbb]; simp
                        · exact absurd (HF.out (by omega)) (by decide)
                      clear HF HQ
                      go_wp2_with fail
                      go_round
                      case rel => exact ⟨by trivial, b + 1, t2, by omega, by go_num, by first | rfl | (simp; done) | (rw [ht2]), HN⟩
                      case measure => simp [intOf]; omega
                  · have e5 : ¬ (b : Int) < (BK : Int) := by omega
                    obtain rfl : t = true := HF.out (by omega)
                    clear HF
                    go_wp2_with fail
                    go_meet
                    exact HK4
              · have hz : ¬ (0 : Int) ≤ aa ∨ ((0 : Int) ≤ aa ∧ ¬ aa < 32768) := by omega
                rcases hz with hz | ⟨hz, hz2⟩
                · go_wp2_with fail
                  go_meet
                  exact HK4
                · go_wp2_with fail
                  go_meet
                  exact HK4
            · have z1 : (kk == 1) = false := by rw [beq_eq_false_iff_ne]; exact hk1
              clear hk1
              go_wp2_with fail
              go_meet
              exact HK0
        case rest =>
        have HKc : Hid (Kx W g N f lo hi lo2 hi2 tg RN KD A A2 C D7 C.st wc) := hcut
        clear hcut HK0
        obtain ⟨w1, hw1⟩ : ∃ x, x = wc := ⟨_, rfl⟩
        rw [← hw1] at HKc ⊢
        clear hw1
        go_wp2_with fail
        refine (HKc.out.x.read).mono ?_
        rintro e w5 ⟨rfl, u5⟩
        have HK5 : Hid (Kx W g N f lo hi lo2 hi2 tg RN KD A A2 C D7 C.st w5) := HKc.out.more u5
        clear u5 HKc
        obtain ⟨k0, k1, k2⟩ := HOc.out w5 HK5.out.up
        rw [HXv.out]
        clear k1 k2
        obtain ⟨OV, hOV⟩ : ∃ o, o = C.rd aa := ⟨_, rfl⟩
        have HOV : Hid (OV = C.rd aa) := hOV
        rw [← hOV]
        clear hOV
        go_upto_if 123 with fail
        have HOs : Hid (∀ k, 0 ≤ C.st k ∧ C.st k ≤ 255) := HOst.out
        go_cut [] (fun wx => ∃ C2, Hid (Stp kk aa xv C C2 ∧ Kx W g N f lo hi lo2 hi2 tg RN KD A A2 C2 D7 C.st wx))
        case first =>
          as_aux_lemma =>
            by_cases hk2 : kk = 2
            · have z2 : (kk == 2) = true := by rw [beq_iff_eq]; exact hk2
              go_wp2_with fail
              refine (HK5.out.write xv8).mono ?_
              rintro e w6 ⟨rfl, hk6⟩
              have H6 : Hid (Kx W g N f lo hi lo2 hi2 tg RN KD A A2 (C.wr aa xv) D7 C.st w6) := hk6
              clear hk6 HK5 k0
              go_wp2_with fail
              go_meet
              exact ⟨C.wr aa xv, Or.inl ⟨hk2, rfl⟩, H6.out⟩
            · have z2 : (kk == 2) = false := by rw [beq_eq_false_iff_ne]; exact hk2
              go_wp2_with fail
              go_meet
              exact ⟨C, Or.inr ⟨hk2, rfl⟩, HK5.out⟩
        case rest =>
        obtain ⟨C2, HC2⟩ := hcut
        clear HK5 k0
        obtain ⟨w6, hw6⟩ : ∃ x, x = wc := ⟨_, rfl⟩
        rw [← hw6] at HC2 ⊢
        clear hw6
        have HSp : Hid (Stp kk aa xv C C2) := HC2.out.1
        have H6 : Hid (Kx W g N f lo hi lo2 hi2 tg RN KD A A2 C2 D7 C.st w6) := HC2.out.2
        clear HC2
        have HSt : Hid (Calls Tryd.prog 22 #[.pointer (some ⟨A.cb, 0, none⟩)] w6 (Cop w6 SN C2.st)) := by
          have h := H6.out.x.state
          rw [H6.out.cn.2.2.1, ← HSN.out] at h
          exact h
        go_wp2_with fail
        refine Calls.mono HSt.out ?_
        rintro e w7 ⟨t7, c7, rfl, hs1, hs2, hs3, hs4, u7⟩
        have H7 : Hid (Kx W g N f lo hi lo2 hi2 tg RN KD A A2 C2 D7 C.st w7) := H6.out.more u7
        have HN7 : Hid (By w7 t7 SN C2.st ∧ SN ≤ c7 ∧ c7 ≤ maxLen ∧ hi2 ≤ t7) := ⟨hs2, hs3, hs4, by
          have := H6.out.o4
          have := H6.out.was.lt
          omega⟩
        have c79 : c7 ≤ 9223372036854775807 := by unfold maxLen at hs4; omega
        have c7l : SN ≤ c7 := hs3
        clear hs1 hs2 hs3 hs4 u7 H6 HSt
        have es1 : ((SN : Int) != (SN : Int)) = false := by simp
        have es2 : ¬ (SN : Int) < 5 := by omega
        go_upto_block 4 with fail
        go_cut [19] (fun Nv wx => Nv = .int .i64 ((cntF C2.st C.st RN : Nat) : Int) ∧ Hid (Up w7 wx))
        case first =>
          as_aux_lemma =>
            go_wp2_with fail
            go_loopw [19, 20] (fun Nv I wr => ∃ j : Nat, j ≤ RN ∧ I = .int .i64 ((5 + j : Nat) : Int) ∧ Nv = .int .i64 ((cntF C2.st C.st j : Nat) : Int) ∧ Hid (Up w7 wr)) (fun _ I _ => SN - (intOf I).toNat)
            case atStart => exact ⟨0, Nat.zero_le _, rfl, rfl, Up.refl _⟩
            case round =>
              obtain ⟨j, hj, rfl, rfl, HU⟩ := hrel
              have hSNR := HSN.out
              by_cases hlj : j < RN
              · have e5 : ((5 + j : Nat) : Int) < (SN : Int) := by omega
                have ka := ((HN7.out.1.up HU.out).cell (5 + j) (by omega))
                have kb := ((H7.out.was.up HU.out).cell (5 + j) (by omega))
                have hcl := cntF_le C2.st C.st j
                have hcn : cntF C2.st C.st (j + 1) = cntF C2.st C.st j + (if C2.st (5 + j) = C.st (5 + j) then 0 else 1) := rfl
                obtain ⟨xa, hxa⟩ : ∃ x, x = C2.st (5 + j) := ⟨_, rfl⟩
                obtain ⟨xb, hxb⟩ : ∃ x, x = C.st (5 + j) := ⟨_, rfl⟩
                rw [← hxa, ← hxb] at hcn
                rw [← hxa] at ka
                rw [← hxb] at kb
                obtain ⟨cn0, hc0⟩ : ∃ c, c = cntF C2.st C.st j := ⟨_, rfl⟩
                rw [← hc0] at hcn hcl ⊢
                have HCN : Hid (cntF C2.st C.st (j + 1) = cn0 + (if xa = xb then 0 else 1)) := hcn
                clear hcn hxa hxb hc0 hSNR
                by_cases hxx : xa = xb
                · have ze : (xa != xb) = false := by rw [bne_eq_false_iff_eq]; exact hxx
                  have HC1 : Hid (cntF C2.st C.st (j + 1) = cn0) := by have h := HCN.out; rw [if_pos hxx] at h; exact h
                  clear hxx HCN
                  go_wp2_with fail
                  go_quiet (fail)
                  have HUn : Hid (Up w7 (wr.drewN nq)) := HU.out.trans (Up.drewN _ _)
                  clear HU ka kb
                  go_wp2_with fail
                  go_round
                  case rel => exact ⟨j + 1, by omega, by go_num, by first | (rw [HC1.out]; done) | (rw [HC1.out]; go_num), HUn⟩
                  case measure => simp [intOf]; omega
                · have ze : (xa != xb) = true := by rw [bne_iff_ne]; exact hxx
                  have HC1 : Hid (cntF C2.st C.st (j + 1) = cn0 + 1) := by have h := HCN.out; rw [if_neg hxx] at h; exact h
                  clear hxx HCN
                  go_wp2_with fail
                  go_quiet (fail)
                  have HUn : Hid (Up w7 (wr.drewN nq)) := HU.out.trans (Up.drewN _ _)
                  clear HU ka kb
                  go_wp2_with fail
                  go_round
                  case rel => exact ⟨j + 1, by omega, by go_num, by first | (rw [HC1.out]; done) | (rw [HC1.out]; go_num), HUn⟩
                  case measure => simp [intOf]; omega
              · have e5 : ¬ ((5 + j : Nat) : Int) < (SN : Int) := by omega
                have hjR : j = RN := by omega
                have HJR : Hid (j = RN) := hjR
                clear hSNR hjR hlj
                go_wp2_with fail
                go_meet
                exact ⟨by rw [HJR.out], HU⟩
        case rest =>
        obtain ⟨rfl, HUc⟩ := hcut
        have H8 : Hid (Kx W g N f lo hi lo2 hi2 tg RN KD A A2 C2 D7 C.st wc) := H7.out.more HUc.out
        have HN8 : Hid (By wc t7 SN C2.st ∧ SN ≤ c7 ∧ c7 ≤ maxLen ∧ hi2 ≤ t7) := ⟨HN7.out.1.up HUc.out, HN7.out.2⟩
        clear HUc H7 HN7
        obtain ⟨w8, hw8⟩ : ∃ x, x = wc := ⟨_, rfl⟩
        rw [← hw8] at H8 HN8 ⊢
        clear hw8
        obtain ⟨CN, hCN⟩ : ∃ c, c = cntF C2.st C.st RN := ⟨_, rfl⟩
        have hCN1 : CN ≤ 1 := by rw [hCN]; exact HSp.out.cnt RN
        have hCN2 : 0 < CN → kk = 2 ∧ 40960 ≤ aa ∧ aa < 49152 := by rw [hCN]; exact HSp.out.cnt2 RN
        rw [← hCN]
        clear hCN
        go_upto_region 42 with fail
        go_cut [21] (fun c wx => wx = w8 ∧ c = .bool (decide (40960 ≤ aa ∧ aa < 49152)))
        case first =>
          as_aux_lemma =>
            by_cases r1 : (40960 : Int) ≤ aa
            · by_cases r2 : aa < 49152
              · have HZd : Hid (decide (40960 ≤ aa ∧ aa < 49152) = true) := decide_eq_true ⟨r1, r2⟩
                go_wp2_with fail
                go_meet
                exact ⟨rfl, by rw [HZd.out]⟩
              · have HZd : Hid (decide (40960 ≤ aa ∧ aa < 49152) = false) := decide_eq_false (fun h => r2 h.2)
                go_wp2_with fail
                go_meet
                exact ⟨rfl, by rw [HZd.out]⟩
            · have HZd : Hid (decide (40960 ≤ aa ∧ aa < 49152) = false) := decide_eq_false (fun h => r1 h.1)
              go_wp2_with fail
              go_meet
              exact ⟨rfl, by rw [HZd.out]⟩
        case rest =>
        obtain ⟨hwx, rfl⟩ := hcut
        rw [hwx]
        clear hwx
        obtain ⟨RB, hRB⟩ : ∃ b, b = decide (40960 ≤ aa ∧ aa < 49152) := ⟨_, rfl⟩
        have hRB1 : RB = true → 40960 ≤ aa ∧ aa < 49152 := fun h => by rw [hRB] at h; exact of_decide_eq_true h
        have hRB2 : 0 < CN → RB = true := fun h => by rw [hRB]; exact decide_eq_true (hCN2 h).2
        have hCK : 0 < CN → kk = 2 := fun h => (hCN2 h).1
        rw [← hRB]
        clear hRB hCN2
        have k0 := (HOc.out w8 H8.out.up).1
        have hn1 : ¬ (1 : Int) < (CN : Int) := by omega
        go_upto_region 43 with fail
        go_cut [194] (fun c wx => c = .bool false ∧ Hid (Up w8 wx))
        case first =>
          as_aux_lemma =>
            by_cases hk2 : kk = 2
            · have z3 : (kk != 2) = false := by rw [bne_eq_false_iff_eq]; exact hk2
              by_cases h0 : 0 < CN
              · have h0' : (0 : Int) < (CN : Int) := by omega
                obtain rfl := hRB2 h0
                clear hk2 hRB1 hRB2 hCK h0
                go_wp2_with fail
                go_meet
                exact ⟨by first | rfl | (simp; done), Up.refl _⟩
              · have h0' : ¬ (0 : Int) < (CN : Int) := by omega
                clear hk2 hRB1 hRB2 hCK h0
                go_wp2_with fail
                go_meet
                exact ⟨by first | rfl | (simp; done), Up.refl _⟩
            · have z3 : (kk != 2) = true := by rw [bne_iff_ne]; exact hk2
              have h0' : ¬ (0 : Int) < (CN : Int) := by
                intro h
                exact hk2 (hCK (by omega))
              have HSm : Hid (Calls Tryd.prog 21 #[.slice (some ⟨t7, 0, none⟩) SN c7, .slice (some ⟨tg, 0, none⟩) SN tc] w8 fun e w' => e = .returned (.bool true) ∧ Up w8 w') := by
                have hcc : C2 = C := HSp.out.none hk2
                have hb := HN8.out.1
                rw [hcc] at hb
                exact same_yes (hb.byts HN8.out.2.1 HN8.out.2.2.1 HOs.out) ((by rw [HSN.out]; exact H8.out.was : By w8 tg SN C.st).byts htc1 HTm.out HOs.out) (fun k hk => rfl)
              clear hk2 hRB1 hRB2 hCK
              go_wp2_with fail
              refine Calls.mono HSm.out ?_
              rintro e w9 ⟨rfl, u9⟩
              have HU9 : Hid (Up w8 w9) := u9
              clear u9
              go_wp2_with fail
              go_meet
              exact ⟨by first | rfl | (simp; done), HU9⟩
        case rest =>
        obtain ⟨rfl, HUc⟩ := hcut
        have H9 : Hid (Kx W g N f lo hi lo2 hi2 tg RN KD A A2 C2 D7 C.st wc) := H8.out.more HUc.out
        have HN9 : Hid (By wc t7 SN C2.st ∧ SN ≤ c7 ∧ c7 ≤ maxLen ∧ hi2 ≤ t7) := ⟨HN8.out.1.up HUc.out, HN8.out.2⟩
        clear HUc H8 HN8 k0 hn1 hRB2 hCK hCN1
        obtain ⟨w9, hw9⟩ : ∃ x, x = wc := ⟨_, rfl⟩
        rw [← hw9] at H9 HN9 ⊢
        clear hw9
        have k0 := (HOc.out w9 H9.out.up).1
        go_upto_region 45 with fail
        go_cut [203] (fun c wx => wx = w9 ∧ c = .bool (decide (kk = 2) && RB))
        case first =>
          as_aux_lemma =>
            by_cases hk2 : kk = 2
            · have z2 : (kk == 2) = true := by rw [beq_iff_eq]; exact hk2
              have zd : decide (kk = 2) = true := decide_eq_true hk2
              have HZd : Hid _ := zd
              clear hk2 zd hRB1
              go_wp2_with fail
              go_meet
              exact ⟨rfl, by rw [HZd.out]; first | rfl | (simp; done)⟩
            · have z2 : (kk == 2) = false := by rw [beq_eq_false_iff_ne]; exact hk2
              have zd : decide (kk = 2) = false := decide_eq_false hk2
              have HZd : Hid _ := zd
              clear hk2 zd hRB1
              go_wp2_with fail
              go_meet
              exact ⟨rfl, by rw [HZd.out]; first | rfl | (simp; done)⟩
        case rest =>
        obtain ⟨hwx, rfl⟩ := hcut
        rw [hwx]
        clear hwx k0
        by_cases hq : (decide (kk = 2) && RB) = false
        · rw [hq]
          go_wp2_with fail
          go_round
          case rel => exact ⟨i + 1, t7, c7, C2, ⟨by omega, c7l, c79⟩, by go_num, rfl, HN9.out.2.2.1, (H9.out).told (by rw [← HSN.out]; exact HN9.out.1) HN9.out.2.2.2⟩
          case measure => simp [intOf]; omega
        have hq : (decide (kk = 2) && RB) = true := by simpa using hq
        rw [hq]
        obtain ⟨hk2, r1, r2⟩ : kk = 2 ∧ 40960 ≤ aa ∧ aa < 49152 := by
          rw [Bool.and_eq_true] at hq
          exact ⟨of_decide_eq_true hq.1, hRB1 hq.2⟩
        have hC2 : C2 = C.wr aa xv := HSp.out.some hk2
        have HRd : Hid (Calls Tryd.prog 17 #[.pointer (some ⟨A.cb, 0, none⟩), .int .i64 aa] w9 fun e w' => e = .returned (.int .u8 (C2.rd aa)) ∧ Up w9 w') := H9.out.x.read
        have hwr : C2.rd aa = (xv : Int) ∨ C2.rd aa = (xv : Int) % 16 + 240 ∨ (C2.rd aa = 255 ∧ OV = 255) := by
          have h := wr_read (C := C) (x := xv) r1 r2 xv8
          rw [← HOV.out, ← hC2] at h
          exact h
        have HSm : Hid (∀ w, Up w9 w → Calls Tryd.prog 21 #[.slice (some ⟨t7, 0, none⟩) 5 c7, .slice (some ⟨tg, 0, none⟩) 5 tc] w fun e w' => e = .returned (.bool true) ∧ Up w w') := fun w u => same_yes (((HN9.out.1.up u).less hsn5).byts (by omega) HN9.out.2.2.1 (fun k => Ct.st_u8 H9.out.x.ok H9.out.x.std k)) (((H9.out.was.up u).less (by have := HSN.out; omega)).byts (by omega) HTm.out HOs.out) (fun k hk => by rw [hC2]; exact wr_regs r1 hk)
        generalize C2.rd aa = GV at HRd hwr
        have e5c : (5 : Int) ≤ (c7 : Int) := by omega
        have e5t : (5 : Int) ≤ (tc : Int) := by omega
        have em : (xv : Int).tmod 16 = (xv : Int) % 16 := Int.tmod_eq_emod_of_nonneg (by omega)
        clear hq hk2 hC2 hRB1 r1 r2
        go_wp2_with fail
        refine Calls.mono HRd.out ?_
        rintro e a9 ⟨rfl, u9⟩
        have HU9 : Hid (Up w9 a9) := u9
        clear u9 HRd
        go_upto_region 47 with fail
        go_cut [224] (fun c wx => wx = a9 ∧ c = .bool false)
        case first =>
          as_aux_lemma =>
            rcases hwr with hg | hg | ⟨hg, ho⟩
            · have zg : (GV != (xv : Int)) = false := by rw [bne_eq_false_iff_eq]; exact hg
              clear hg
              go_wp2_with fail
              go_meet
              exact ⟨rfl, by first | rfl | (simp; done)⟩
            · have zg : (GV != (xv : Int) % 16 + 240) = false := by rw [bne_eq_false_iff_eq]; exact hg
              clear hg
              cases zt : (GV != (xv : Int)) <;> (go_wp2_with fail; go_meet; exact ⟨rfl, by first | rfl | (simp; done)⟩)
            · have z5 : (GV != 255) = false := by rw [hg]; rfl
              have z6 : (OV != 255) = false := by rw [ho]; rfl
              clear hg ho
              cases zt : (GV != (xv : Int)) <;> cases zs : (GV != (xv : Int) % 16 + 240) <;> (go_wp2_with fail; go_meet; exact ⟨rfl, by first | rfl | (simp; done)⟩)
        case rest =>
        obtain ⟨hwx, rfl⟩ := hcut
        rw [hwx]
        clear hwx hwr
        go_wp2_with fail
        refine wp_region_held_drew (S := fun _ => True) (by kernel_rfl) trivial (fun hHeld => ?_)
        have HUd : Hid (Up w9 a9.drew) := HU9.out.drew
        generalize World.drew a9 = wd at HUd hHeld ⊢
        refine wpAnyH_take (i := 0) (v := ?_) (by simp only [List.getElem?_toArray, List.getElem?_cons_zero]; rfl) (by kernel_rfl) (by kernel_rfl) (by kernel_rfl) (by intro _ _ _ h; exact h) (Or.inl ⟨by rfl, ?_⟩) (by assumption) ?_
        rotate_left
        · (intro w hSw; (try dsimp only at hSw); go_simp <;> with_reducible rfl)
        try simp only [Act.put, List.setIfInBounds_toArray, List.set_cons_zero, List.set_cons_succ]
        refine wpAnyH_take (i := 1) (v := ?_) (by simp only [List.getElem?_toArray, List.getElem?_cons_succ, List.getElem?_cons_zero]; rfl) (by kernel_rfl) (by kernel_rfl) (by kernel_rfl) (by intro _ _ _ h; exact h) (Or.inl ⟨by rfl, ?_⟩) (by assumption) ?_
        rotate_left
        · (intro w hSw; (try dsimp only at hSw); go_simp <;> with_reducible rfl)
        try simp only [Act.put, List.setIfInBounds_toArray, List.set_cons_zero, List.set_cons_succ]
        refine wpAnyH_take (i := 2) (v := ?_) (by simp only [List.getElem?_toArray, List.getElem?_cons_succ, List.getElem?_cons_zero]; rfl) (by kernel_rfl) (by kernel_rfl) (by kernel_rfl) (by intro _ _ _ h; exact h) (Or.inl ⟨by rfl, ?_⟩) (by assumption) ?_
        rotate_left
        · (intro w hSw; (try dsimp only at hSw); go_simp <;> with_reducible rfl)
        try simp only [Act.put, List.setIfInBounds_toArray, List.set_cons_zero, List.set_cons_succ]
        refine wpAnyH_take (i := 3) (v := ?_) (by simp only [List.getElem?_toArray, List.getElem?_cons_succ, List.getElem?_cons_zero]; rfl) (by kernel_rfl) (by kernel_rfl) (by kernel_rfl) (by intro _ _ _ h; exact h) (Or.inl ⟨by rfl, ?_⟩) (by assumption) ?_
        rotate_left
        · (intro w hSw; (try dsimp only at hSw); go_simp <;> with_reducible rfl)
        try simp only [Act.put, List.setIfInBounds_toArray, List.set_cons_zero, List.set_cons_succ]
        refine wpAnyH_ready (rs := [4]) (by kernel_rfl) (by simp) ?_
        refine AllReadyH.cons (by simp only [List.getElem?_toArray, List.getElem?_cons_succ, List.getElem?_cons_zero]; rfl) (fun KK hK => ?_) AllReadyH.nil
        go_simp
        refine (HSm.out wd HUd.out).mono ?_
        rintro e wz ⟨rfl, uz⟩
        have HUz : Hid (Up w9 wz) := HUd.out.trans uz
        clear uz
        refine hK.out _ _ trivial (fun hHeld => ?_)
        clear hK KK
        try simp only [Act.put, List.setIfInBounds_toArray, List.set_cons_zero, List.set_cons_succ]
        refine wpAnyH_take (i := 5) (v := ?_) (by simp only [List.getElem?_toArray, List.getElem?_cons_succ, List.getElem?_cons_zero]; rfl) (by kernel_rfl) (by kernel_rfl) (by kernel_rfl) (by intro _ _ _ h; exact h) (Or.inl ⟨by rfl, ?_⟩) (by assumption) ?_
        rotate_left
        · (intro w hSw; (try dsimp only at hSw); go_simp <;> with_reducible rfl)
        try simp only [Act.put, List.setIfInBounds_toArray, List.set_cons_zero, List.set_cons_succ]
        refine wpAnyH_done (by kernel_rfl) ?_ _
        clear hHeld
        have HA : Hid (Kx W g N f lo hi lo2 hi2 tg RN KD A A2 C2 D7 C.st wz) := H9.out.more HUz.out
        have HNA : Hid (By wz t7 SN C2.st ∧ SN ≤ c7 ∧ c7 ≤ maxLen ∧ hi2 ≤ t7) := ⟨HN9.out.1.up HUz.out, HN9.out.2⟩
        go_wp2_with fail
        go_round
        case rel => exact ⟨i + 1, t7, c7, C2, ⟨by omega, c7l, c79⟩, by go_num, rfl, HNA.out.2.2.1, (HA.out).told (by rw [← HSN.out]; exact HNA.out.1) HNA.out.2.2.2⟩
        case measure => simp [intOf]; omega
      · have hz : ¬ (i : Int) < (on : Int) ∨ ((i : Int) < (on : Int) ∧ ¬ (i : Int) < 400) := by omega
        have HKx : Hid ((SN ≤ tc ∧ tc ≤ maxLen) ∧ Kx W g N f lo hi lo2 hi2 tg RN KD A A2 C D7 C.st wr) := ⟨⟨htc1, HK.out.1⟩, HK.out.2⟩
        clear HK hlt
        rcases hz with hz | ⟨hz, hz2⟩
        · go_wp2_with fail
          go_meet
          exact ⟨tg, tc, C, rfl, HKx⟩
        · go_wp2_with fail
          go_meet
          exact ⟨tg, tc, C, rfl, HKx⟩
  case rest =>
  obtain ⟨tg, tc, C, rfl, HKx⟩ := hcut
  clear HK9 HT9
  obtain ⟨w0, hw0⟩ : ∃ x, x = wc := ⟨_, rfl⟩
  rw [← hw0] at HKx ⊢
  clear hw0
  have htc1 : SN ≤ tc := HKx.out.1.1
  have htc2 : tc ≤ 9223372036854775807 := by have := HKx.out.1.2; unfold maxLen at this; omega
  have HTm : Hid (tc ≤ maxLen) := HKx.out.1.2
  have HK0 : Hid (Kx W g N f lo hi lo2 hi2 tg RN KD A A2 C D7 C.st w0) := HKx.out.2
  have HHd : Hid _ := HK0.out.x.ct.header
  clear HKx
  go_wp2_with fail
  refine Calls.mono HHd.out ?_
  rintro e w1 ⟨rfl, u1⟩
  have HK1 : Hid (Kx W g N f lo hi lo2 hi2 tg RN KD A A2 C D7 C.st w1) := HK0.out.more u1
  clear u1 HK0 HHd
  obtain ⟨BK, hBK⟩ : ∃ b, b = C.bk := ⟨_, rfl⟩
  have hb1 : N = BK * 16384 := by rw [hBK, ← HK1.out.cn.2.2.2.2.1]; exact HK1.out.cn.1.symm
  have zb : (((BK : Int) * 16384) != (N : Int)) = false := by rw [bne_eq_false_iff_eq]; omega
  have zb2 : (BK : Int) ≤ 2097451 := by omega
  rw [← hBK]
  have HNz : Hid (∀ w, Up w1 w → Calls Tryd.prog 15 #[.slice (some ⟨g, 0, none⟩) N N, .slice none 0 0] w fun e w' => Up w w' ∧ ∃ A3 E, e = .returned (.tuple #[.pointer (some ⟨A3.cb, 0, none⟩), .int .i64 0]) ∧ Cz w.heap.size w'.heap.size A3 E w' ∧ E.n = N ∧ E.f = f ∧ NewIs f N E.m.kd E.rm) := fun w u => (new_kept2 (HTb.out.up (HK1.out.up.trans u)) (HK1.out.rom.up u) HB2.out.2 n2).mono fun e w' ⟨q1, q2⟩ => ⟨q1, by
    rcases q2 with ⟨x, _, _, hno⟩ | ⟨A3, E, h1, h2, h3, h4, h5, h6, h7⟩
    · exact absurd HNI.out (hno _ _)
    · exact ⟨A3, E, h1, h2, h3, h4, h7⟩⟩
  clear hBK hb1
  go_wp2_with fail
  refine Calls.mono (HNz.out _ (by first | exact (Up.refl w1).alloc _ | exact Up.refl w1)) ?_
  rintro e w3 ⟨u3, A3, E, rfl, hcz, en, ef, eN⟩
  have HK3 : Hid (Kx W g N f lo hi lo2 hi2 tg RN KD A A2 C D7 C.st w3) := HK1.out.more (((Up.refl w1).alloc _).trans u3)
  have HLd : Hid (Calls Tryd.prog 20 #[.pointer (some ⟨A3.cb, 0, none⟩), .slice (some ⟨tg, 0, none⟩) SN tc] w3 fun e w' => e = .returned (.int .i64 0) ∧ ∃ lo3 hi3 E2, Cz lo3 hi3 A3 E2 w' ∧ Alike C E2 ∧ Kx W g N f lo hi lo2 hi2 tg RN KD A A2 C D7 C.st w') := by
    have h := HK3.out.loads hcz en ef HNI.out eN (Nat.lt_of_lt_of_le HK1.out.was.lt ((Up.refl w1).alloc _).size) (by rw [← HSN.out]; exact htc1) HTm.out
    rw [← HSN.out] at h
    exact h.mono fun e w' ⟨q1, E2, q2, q3, q4⟩ => ⟨q1, _, _, E2, q2, q3, q4⟩
  clear u3 hcz en ef eN HNz HK1 HK3
  go_wp2_with fail
  refine Calls.mono HLd.out ?_
  rintro e w4 ⟨rfl, lo3, hi3, E2, hz3, hal, hk4⟩
  have HK4 : Hid (Cz lo3 hi3 A3 E2 w4 ∧ Kx W g N f lo hi lo2 hi2 tg RN KD A A2 C D7 C.st w4) := ⟨hz3, hk4⟩
  have HAl : Hid (Alike C E2) := hal
  clear hz3 hal hk4 HLd
  go_wp2_with fail
  go_loopw [26] (fun I wr => ∃ (i : Nat), I = .int .i64 ((1111 * i : Nat) : Int) ∧ i ≤ 30 ∧ Hid (Cz lo3 hi3 A3 E2 wr ∧ Kx W g N f lo hi lo2 hi2 tg RN KD A A2 C D7 C.st wr)) (fun I _ => 40000 - (intOf I).toNat)
  case atStart => exact ⟨0, rfl, Nat.zero_le _, HK4⟩
  case round =>
    clear HK4
    obtain ⟨i, rfl, hi30, HK5⟩ := hrel
    by_cases hl5 : 1111 * i < 32768
    · have e5 : ((1111 * i : Nat) : Int) < 32768 := by omega
      obtain ⟨RV, hRV⟩ : ∃ v, v = C.rd ((1111 * i : Nat) : Int) := ⟨_, rfl⟩
      have HRx : Hid (∀ w, Cz lo hi A C w → Calls Tryd.prog 17 #[.pointer (some ⟨A.cb, 0, none⟩), .int .i64 ((1111 * i : Nat) : Int)] w fun e w' => e = .returned (.int .u8 RV) ∧ Up w w') := fun w h => by rw [hRV]; exact h.read
      have HRz : Hid (∀ w, Cz lo3 hi3 A3 E2 w → Calls Tryd.prog 17 #[.pointer (some ⟨A3.cb, 0, none⟩), .int .i64 ((1111 * i : Nat) : Int)] w fun e w' => e = .returned (.int .u8 RV) ∧ Up w w') := fun w h => by rw [hRV, HAl.out.rd]; exact h.read
      have zv : (RV != RV) = false := by simp
      clear hRV
      generalize hXX : ((1111 * i : Nat) : Int) = XX at *
      have hX9 : 0 ≤ XX ∧ XX < 32768 := by omega
      go_wp2_with fail
      refine Calls.mono (HRz.out _ HK5.out.1) ?_
      rintro e w5 ⟨rfl, u5⟩
      have HK6 : Hid (Cz lo3 hi3 A3 E2 w5 ∧ Kx W g N f lo hi lo2 hi2 tg RN KD A A2 C D7 C.st w5) := ⟨HK5.out.1.up u5, HK5.out.2.more u5⟩
      clear u5 HK5 HRz
      go_wp2_with fail
      refine Calls.mono (HRx.out _ HK6.out.2.x) ?_
      rintro e w6 ⟨rfl, u6⟩
      have HK7 : Hid (Cz lo3 hi3 A3 E2 w6 ∧ Kx W g N f lo hi lo2 hi2 tg RN KD A A2 C D7 C.st w6) := ⟨HK6.out.1.up u6, HK6.out.2.more u6⟩
      clear u6 HK6 HRx
      go_wp2_with fail
      go_round
      case rel => exact ⟨i + 1, by rw [← hXX]; go_num, by omega, HK7⟩
      case measure => simp [intOf]; omega
    · have e5 : ¬ ((1111 * i : Nat) : Int) < 32768 := by omega
      have HSz : Hid (Calls Tryd.prog 22 #[.pointer (some ⟨A3.cb, 0, none⟩)] wr (Cop wr SN C.st)) := by
        have h := HK5.out.1.state
        rw [← HAl.out.rm, HK5.out.2.cn.2.2.1, ← HSN.out] at h
        refine h.mono ?_
        rintro e w' ⟨g', cap', q1, q2, q3, q4, q5, q6⟩
        exact ⟨g', cap', q1, q2, q3.congr (fun k hk => (HAl.out.st k (by rw [HK5.out.2.cn.2.2.1, ← HSN.out]; exact hk)).symm), q4, q5, q6⟩
      have HO8 : Hid (∀ k, 0 ≤ C.st k ∧ C.st k ≤ 255) := fun k => Ct.st_u8 HK5.out.2.x.ok HK5.out.2.x.std k
      generalize hXX : ((1111 * i : Nat) : Int) = XX at *
      clear hXX hl5
      go_wp2_with fail
      refine Calls.mono HSz.out ?_
      rintro e w5 ⟨sg, sc, rfl, s1, s2, s3, s4, u5⟩
      have HK6 : Hid (Kx W g N f lo hi lo2 hi2 tg RN KD A A2 C D7 C.st w5) := HK5.out.2.more u5
      have HSm : Hid (Calls Tryd.prog 21 #[.slice (some ⟨sg, 0, none⟩) SN sc, .slice (some ⟨tg, 0, none⟩) SN tc] w5 fun e w' => e = .returned (.bool true) ∧ Up w5 w') := same_yes (s2.byts s3 s4 HO8.out) ((by rw [HSN.out]; exact HK6.out.was : By w5 tg SN C.st).byts htc1 HTm.out HO8.out) (fun k hk => rfl)
      clear s1 s2 s3 s4 u5 HSz HK5
      go_wp2_with fail
      refine Calls.mono HSm.out ?_
      rintro e w6 ⟨rfl, u6⟩
      have HK7 : Hid (Kx W g N f lo hi lo2 hi2 tg RN KD A A2 C D7 C.st w6) := HK6.out.more u6
      clear u6 HK6 HSm
      go_wp2_with fail
      refine Calls.mono (HR7.out _ HK7.out.y) ?_
      rintro e w7 ⟨rfl, u7⟩
      have HU7 : Hid (Up W w7) := HK7.out.up.trans u7
      clear u7 HK7
      go_wp2_with fail
      go_ret
      exact ⟨by first | rfl | (simp; done), HU7.out⟩
end Go.Proofs.YtpiboooiofjigaaDoor
