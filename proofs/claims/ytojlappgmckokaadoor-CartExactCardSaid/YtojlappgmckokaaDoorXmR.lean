/- Proved: for every ROM that a box makes, every save and every list of steps the law CartExact answers true, where the tables of rows and sizes are as the program's text lays them; no other condition. -/
import Derived.Test.YtojlappgmckokaaDoorXmQ
import Derived.Test.YtojlappgmckokaaDoorXmC
import Derived.Test.YtojlappgmckokaaDoorXmL
import Derived.Deep.CutBlock
import Derived.Deep.CutRange
import Derived.Test.YtojlappgmckokaaDoorXmD
import Derived.SizedLaws
/- CartExact: the walk. -/
namespace Go.Proofs.YtojlappgmckokaaDoor
open Go.Shelf Go.RowKit
set_option linter.unusedVariables false
set_option linter.unusedSimpArgs false
variable {W : World}
set_option maxRecDepth 100000 in
set_option maxHeartbeats 4000000 in
theorem exact_walk {ty rc rm sd mo : Int} {raw : Bool} {pa ba sa oa : Option Addr} {pb po pn pc bb' bo bn bc sb so sn sc ob oo on oc : Nat} {pf bf sf : Nat → Int} {q : Nat → Nat → Int} (hT : Tb W) (i1 : I64 ty) (i2 : I64 rc) (i3 : I64 rm) (i4 : I64 sd) (i5 : I64 mo) (hP : Ints W pa pb po pn pc pf) (hB : Ints W ba bb' bo bn bc bf) (hS : Byts W sa sb so sn sc sf) (hsn : sn ≤ 140737488351232) (hO : Ops4 W oa ob oo on oc q) :
    Calls Tryd.prog 10 #[.agg #[.int .i64 ty, .int .i64 rc, .int .i64 rm, .int .i64 sd, .int .i64 mo, .slice pa pn pc, .slice ba bn bc, .bool raw], .slice sa sn sc, .slice oa on oc] W fun e w' => e = .returned (.bool true) ∧ Up W w' := by
  have HTb : Hid (Tb W) := hT
  have HO : Hid (Ops4 W oa ob oo on oc q) := hO
  have olc := hO.lc
  have ocm : oc ≤ 9223372036854775807 := by have := hO.cm; unfold maxLen at this; omega
  have HSv : Hid (Byts W sa sb so sn sc sf) := hS
  have HRg : Hid (∀ w, Up W w → Calls Tryd.prog 12 #[.agg #[.int .i64 ty, .int .i64 rc, .int .i64 rm, .int .i64 sd, .int .i64 mo, .slice pa pn pc, .slice ba bn bc, .bool raw]] w (RomAns w)) := fun w u => romG_any i1 i2 i3 i4 i5 (hP.upI u) (hB.upI u)
  obtain ⟨M, hM⟩ : ∃ M : Nat, M = 65536 := ⟨_, rfl⟩
  have HM : Hid (M = 65536) := hM
  have HRo : Hid (∀ w, Calls Tryd.prog 12 #[.agg #[.int .i64 3, .int .i64 1, .int .i64 2, .int .i64 0, .int .i64 0, .slice none 0 0, .slice none 0 0, .bool false]] w fun e w' => ∃ g, e = .returned (.slice (some ⟨g, 0, none⟩) M M) ∧ w.heap.size ≤ g ∧ By w' g M (romF ((3 : Nat) : Int) ((1 : Nat) : Int) ((2 : Nat) : Int) 0) ∧ Up w w') := fun w => rom_any (W := w) (c := 1) (ty := 3) (rc := 1) (rm := 2) (sd := 0) (by rw [HM.out]) ⟨by decide, by decide⟩ ⟨by decide, by decide⟩ ⟨by decide, by decide⟩ ⟨by decide, by decide⟩ (by decide)
  have HPf : Hid (∀ w g, Tb w → By w g M (romF ((3 : Nat) : Int) ((1 : Nat) : Int) ((2 : Nat) : Int) 0) → Calls Tryd.prog 25 #[.slice (some ⟨g, 0, none⟩) M M, .slice none 0 0] w fun e w' => ∃ fb lo hi A Y C, e = .returned (.tuple #[.pointer (some ⟨fb, 0, none⟩), .bool true]) ∧ Hid (SpC w ⟨fun _ => False, w'⟩ fb lo hi A Y C 0 w' ∧ ((C.wr 0 10).wr 40961 9).rd 40961 = 9 ∧ ((C.wr 0 10).wr 40961 9).rd 40962 = 0 ∧ fb < w'.heap.size)) := fun w g ht hb => by
    refine (pair_any (sf := fun _ => 0) (sb := 0) (so := 0) ht hb (romF_byte _ _ _ _) (by rw [HM.out]; decide) ⟨Nat.le_refl _, Nat.zero_le _, fun q => absurd q (Nat.lt_irrefl _), fun _ => ⟨Int.le_refl _, by decide⟩, fun k q => absurd q (Nat.not_lt_zero _)⟩ (by decide)).mono ?_
    rintro e w' ⟨u, x, oc, hw, hcs⟩
    obtain ⟨rfl, C, rfl, c1, c2, c3⟩ := first_is HM.out hw
    rcases hcs with ⟨q, _⟩ | ⟨fb, lo, hi, A, Y, D, hd, rfl, hp⟩
    · cases q
    injection hd with hd
    subst hd
    exact ⟨fb, lo, hi, A, Y, C, rfl, ⟨_, _, _, _, hp.pw u hw.bat, Nat.zero_le _⟩, (y_nine c1 c2 c3).1, (y_nine c1 c2 c3).2, heap_at hp.blk⟩
  generalize romF ((3 : Nat) : Int) ((1 : Nat) : Int) ((2 : Nat) : Int) 0 = FX at HRo HPf
  clear hT hO hM i1 i2 i3 i4 i5 hP hB hS
  go_enter Tryd.func10, Tryd.ntmps10
  go_wp2_with fail
  have HBx : Hid ((W.alloc (.cells #[.int .i64 ty, .int .i64 rc, .int .i64 rm, .int .i64 sd, .int .i64 mo, .slice pa pn pc, .slice ba bn bc, .bool raw] 27)).heap[W.heap.size]? = some (.cells #[.int .i64 ty, .int .i64 rc, .int .i64 rm, .int .i64 sd, .int .i64 mo, .slice pa pn pc, .slice ba bn bc, .bool raw] 27 (0, 0))) := heap_alloc_new W _
  have HU1 : Hid (Up W (W.alloc (.cells #[.int .i64 ty, .int .i64 rc, .int .i64 rm, .int .i64 sd, .int .i64 mo, .slice pa pn pc, .slice ba bn bc, .bool raw] 27))) := (Up.refl W).alloc _
  generalize World.alloc W _ = w1 at HBx HU1 ⊢
  generalize W.heap.size = bxb at HBx ⊢
  refine (HRo.out _).mono ?_
  rintro e w2 ⟨g2, rfl, _, hb2, u2⟩
  have HB2 : Hid (By w2 g2 M FX ∧ Up w1 w2) := ⟨hb2, u2⟩
  clear hb2 u2 HRo
  go_wp2_with fail
  refine Calls.mono (HPf.out _ _ (HTb.out.up (HU1.out.trans HB2.out.2)) HB2.out.1) ?_
  rintro e w3 ⟨fb, flo, fhi, FA, FY, FC, rfl, hf3⟩
  have HF3 : Hid (SpC w2 ⟨fun _ => False, w3⟩ fb flo fhi FA FY FC 0 w3 ∧ ((FC.wr 0 10).wr 40961 9).rd 40961 = 9 ∧ ((FC.wr 0 10).wr 40961 9).rd 40962 = 0 ∧ Up w1 w2) := ⟨hf3.out.1, hf3.out.2.1, hf3.out.2.2.1, HB2.out.2⟩
  clear hf3 HPf HB2
  go_upto_block 0 with fail
  have HF4 : Hid (SpC w2 ⟨fun b => b = w3.heap.size, w3.alloc (.cells headL.toArray 52)⟩ fb flo fhi FA FY (stC FC 0) 0 (w3.alloc (.cells headL.toArray 52))) := HF3.out.1.setQ _
  have HH4 : Hid ((w3.alloc (.cells headL.toArray 52)).heap[w3.heap.size]? = some (.cells headL.toArray 52 (0, 0))) := heap_alloc_new w3 _
  have ea : headL.toArray = #[.int .i64 2, .int .i64 0, .int .i64 10, .int .i64 0, .int .i64 2, .int .i64 40961, .int .i64 9, .int .i64 0, .int .i64 1, .int .i64 40961, .int .i64 0, .int .i64 0, .int .i64 1, .int .i64 17767, .int .i64 0, .int .i64 0] := rfl
  generalize headL.toArray = HA at ea HF4 HH4
  rw [← ea]
  have HEa : Hid (HA = headL.toArray) := by rw [ea]; rfl
  clear ea
  generalize hw4 : World.alloc w3 _ = w4 at HF4 HH4 ⊢
  clear hw4
  generalize w3.heap.size = hb at HF4 HH4 ⊢
  have HRw : Hid (∀ (w : World) (i : Nat), i < 4 → w.heap[hb]? = w4.heap[hb]? → w.rangeAt hb (i * 4) (rowQ (headQ i).1 (headQ i).2.1 (headQ i).2.2 0)) := fun w i hi e => head_row hi (by rw [e, HH4.out, HEa.out])
  clear HH4 HEa
  go_cut [10, 11] from 38 to 51 (fun _ _ wx => Hid (SpC w2 ⟨fun b => b = hb, w4⟩ fb flo fhi FA FY (stC FC 4) 0 wx))
  case first =>
    go_wp2_with fail
    go_loopw [10, 11] (fun I _ wr => ∃ i : Nat, i ≤ 4 ∧ I = .int .i64 (i : Int) ∧ Hid (SpC w2 ⟨fun b => b = hb, w4⟩ fb flo fhi FA FY (stC FC i) 0 wr)) (fun I _ _ => 4 - (intOf I).toNat)
    case atStart => exact ⟨0, by omega, rfl, HF4⟩
    case round =>
      clear HF4
      obtain ⟨i, hi, rfl, HS⟩ := hrel
      by_cases hlt : i < 4
      · have d1 : (i : Int) < 4 := by omega
        have HR : Hid (wr.rangeAt hb (i * 4) (rowQ (headQ i).1 (headQ i).2.1 (headQ i).2.2 0)) := HRw.out wr i hlt (HS.out.kept rfl)
        have HSt : Hid _ := head_step hlt HS.out
        clear HS
        go_wp2_with (refine wpList_load_mid rfl 52 _ rfl hb (i * 4) rfl (rowQ (headQ i).1 (headQ i).2.1 (headQ i).2.2 0) _ HR.out Tryd.underlying52 rfl (by kernel_rfl) ?_)
        refine Calls.mono HSt.out ?_
        rintro e w5 ⟨rfl, hs⟩
        have HS5 : Hid _ := hs
        clear hs HSt HR
        go_wp2_with fail
        refine ⟨⟨i + 1, by omega, by first | rfl | (simp; done), HS5⟩, ?_⟩
        simp [intOf]
        omega
      · have d1 : ¬ (i : Int) < 4 := by omega
        obtain rfl : i = 4 := by omega
        go_wp2_with fail
        go_meet
        exact HS
  case rest =>
  have HF5 := hcut
  clear hcut HRw HF4
  have HU5 : Hid (Up w1 wc) := HF3.out.2.2.2.trans HF5.out.up
  have H9 : Hid (((FC.wr 0 10).wr 40961 9).rd 40961 = 9 ∧ ((FC.wr 0 10).wr 40961 9).rd 40962 = 0) := ⟨HF3.out.2.1, HF3.out.2.2.1⟩
  have HBr : Hid (wc.rangeAt bxb 0 [.int .i64 ty, .int .i64 rc, .int .i64 rm, .int .i64 sd, .int .i64 mo, .slice pa pn pc, .slice ba bn bc, .bool raw]) := range_up HU5.out (range_heap HBx.out)
  have HU6 : Hid (Up W wc) := HU1.out.trans HU5.out
  clear HF3 HU5 HBx HU1
  generalize hw5 : wc = w5 at HF5 HBr HU6 ⊢
  clear hw5
  go_wp2_with (refine wpList_load_mid rfl 27 _ rfl bxb 0 rfl [.int .i64 ty, .int .i64 rc, .int .i64 rm, .int .i64 sd, .int .i64 mo, .slice pa pn pc, .slice ba bn bc, .bool raw] _ HBr.out Tryd.underlying27 rfl (by kernel_rfl) ?_)
  refine Calls.mono (HRg.out _ HU6.out) ?_
  rintro e w6 ⟨g, N, f, rfl, hg, hb6, h8, n1, n2, u6⟩
  have HU7 : Hid (Up W w6 ∧ Up w5 w6) := ⟨HU6.out.trans u6, u6⟩
  have HPr : Hid _ := pair_any (HTb.out.up HU7.out.1) hb6 h8 n2 (HSv.out.upC HU7.out.1) (by omega)
  have HF6 : Hid (SpC w2 ⟨fun b => b = hb, w4⟩ fb flo fhi FA FY (stC FC 4) 0 w6) := SpC.upW HF5.out u6
  clear hg hb6 h8 u6 HRg HTb HSv HU6 HBr HF5
  go_wp2_with fail
  refine Calls.mono HPr.out ?_
  rintro e w7 ⟨u7, x, oc, hw, hcs⟩
  have HU8 : Hid (Up w6 w7) := u7
  clear HPr u7
  rcases hcs with ⟨_, rfl⟩ | ⟨pq, lo, hi, A, Y, C, rfl, rfl, hp⟩
  · clear hw
    go_wp2_with fail
    go_ret
    exact ⟨by first | rfl | (simp; done), HU7.out.1.trans HU8.out⟩
  have HS8 : Hid (Sp w6 ⟨fun _ => False, w7⟩ pq lo hi A Y 0 w7) := ⟨_, _, _, _, _, hp.pw HU8.out hw.bat, Nat.zero_le _⟩
  clear hw hp
  go_upto_block 2 with fail
  go_cut [13, 14, 15] from 66 to 95 (fun _ _ _ wx => Hid (Sp w6 ⟨fun _ => False, w7⟩ pq lo hi A Y 2400 wx))
  case first =>
    go_wp2_with fail
    go_loopw [13, 14, 15] (fun I _ _ wr => ∃ i : Nat, i ≤ 200 ∧ i ≤ on ∧ I = .int .i64 (i : Int) ∧ Hid (Sp w6 ⟨fun _ => False, w7⟩ pq lo hi A Y (12 * i) wr)) (fun I _ _ _ => 200 - (intOf I).toNat)
    case atStart => exact ⟨0, by omega, by omega, rfl, HS8⟩
    case round =>
      clear HS8
      obtain ⟨i, hi2, hon, rfl, HS⟩ := hrel
      by_cases hlt : i < on
      · have d1 : (i : Int) < (on : Int) := by omega
        by_cases h200 : i < 200
        · have d2 : (i : Int) < 200 := by omega
          obtain rfl := HO.out.ad (by omega)
          have HR : Hid (wr.rangeAt ob (oo + i * 4) (rowQ (q i 0) (q i 1) (q i 2) (q i 3))) := (HO.out.up (HU7.out.1.trans HS.out.up)).row hlt
          have HSt : Hid _ := step_any (kd := q i 0) (a := q i 1) (b := q i 2) (c := q i 3) HS.out (by omega) (HO.out.i64 i 1) (HO.out.i64 i 3)
          clear HS
          go_wp2_with (refine wpList_load_mid rfl 52 _ rfl ob (oo + i * 4) rfl (rowQ (q i 0) (q i 1) (q i 2) (q i 3)) _ HR.out Tryd.underlying52 rfl (by kernel_rfl) ?_)
          refine Calls.mono HSt.out ?_
          rintro e wa ⟨rfl, hs⟩
          have HLk : Hid _ := looks_any hs
          clear hs HSt HR
          go_wp2_with fail
          refine Calls.mono HLk.out ?_
          rintro e wb ⟨rfl, hs⟩
          have HS5 : Hid (Sp w6 ⟨fun _ => False, w7⟩ pq lo hi A Y (12 * (i + 1)) wb) := hs.wide (by omega)
          clear hs HLk
          go_wp2_with fail
          refine ⟨⟨i + 1, by omega, by omega, by first | rfl | (simp; done), HS5⟩, ?_⟩
          simp [intOf]
          omega
        · have d2 : ¬ (i : Int) < 200 := by omega
          go_wp2_with fail
          go_meet
          exact HS.out.wide (by omega)
      · have d1 : ¬ (i : Int) < (on : Int) := by omega
        go_wp2_with fail
        go_meet
        exact HS.out.wide (by omega)
  case rest =>
  have HS9 := hcut
  clear hcut HS8 HO
  go_upto_block 4 with fail
  generalize hwx : wc = wx at HS9 ⊢
  clear hwx
  have HS10 : Hid (Sp w6 ⟨fun b => b = wx.heap.size, wx.alloc (.cells lastL.toArray 52)⟩ pq lo hi A Y 2400 (wx.alloc (.cells lastL.toArray 52))) := HS9.out.setQ _
  have HH9 : Hid ((wx.alloc (.cells lastL.toArray 52)).heap[wx.heap.size]? = some (.cells lastL.toArray 52 (0, 0))) := heap_alloc_new wx _
  have ea : lastL.toArray = #[.int .i64 6, .int .i64 0, .int .i64 0, .int .i64 0, .int .i64 1, .int .i64 0, .int .i64 0, .int .i64 0, .int .i64 1, .int .i64 16384, .int .i64 0, .int .i64 0, .int .i64 1, .int .i64 32767, .int .i64 0, .int .i64 0, .int .i64 1, .int .i64 40960, .int .i64 0, .int .i64 0, .int .i64 3, .int .i64 0, .int .i64 0, .int .i64 0, .int .i64 4, .int .i64 0, .int .i64 0, .int .i64 0] := rfl
  generalize lastL.toArray = HA at ea HS10 HH9
  rw [← ea]
  have HEa : Hid (HA = lastL.toArray) := by rw [ea]; rfl
  clear ea HS9
  generalize hw9 : World.alloc wx _ = w9 at HS10 HH9 ⊢
  clear hw9
  generalize wx.heap.size = lb at HS10 HH9 ⊢
  have HRw : Hid (∀ (w : World) (i : Nat), i < 7 → w.heap[lb]? = w9.heap[lb]? → w.rangeAt lb (i * 4) (rowQ (lastQ i).1 (lastQ i).2 0 0)) := fun w i hi e => last_row hi (by rw [e, HH9.out, HEa.out])
  clear HH9 HEa
  go_cut [17, 18] from 100 to 113 (fun _ _ wx => Hid (Up w6 wx))
  case first =>
    go_wp2_with fail
    go_loopw [17, 18] (fun I _ wr => ∃ i : Nat, i ≤ 7 ∧ I = .int .i64 (i : Int) ∧ Hid (Sp w6 ⟨fun b => b = lb, w9⟩ pq lo hi A Y (2400 + 12 * i) wr)) (fun I _ _ => 7 - (intOf I).toNat)
    case atStart => exact ⟨0, by omega, rfl, HS10⟩
    case round =>
      clear HS10
      obtain ⟨i, hi2, rfl, HS⟩ := hrel
      by_cases hlt : i < 7
      · have d1 : (i : Int) < 7 := by omega
        have HR : Hid (wr.rangeAt lb (i * 4) (rowQ (lastQ i).1 (lastQ i).2 0 0)) := HRw.out wr i hlt (HS.out.kept rfl)
        have HSt : Hid _ := step_any (kd := (lastQ i).1) (a := (lastQ i).2) (b := 0) (c := 0) HS.out (by omega) (last_i64 i) (by unfold I64; decide)
        clear HS
        go_wp2_with (refine wpList_load_mid rfl 52 _ rfl lb (i * 4) rfl (rowQ (lastQ i).1 (lastQ i).2 0 0) _ HR.out Tryd.underlying52 rfl (by kernel_rfl) ?_)
        refine Calls.mono HSt.out ?_
        rintro e wa ⟨rfl, hs⟩
        have HS5 : Hid (Sp w6 ⟨fun b => b = lb, w9⟩ pq lo hi A Y (2400 + 12 * (i + 1)) wa) := hs.wide (by omega)
        clear hs HSt HR
        go_wp2_with fail
        refine ⟨⟨i + 1, by omega, by first | rfl | (simp; done), HS5⟩, ?_⟩
        simp [intOf]
        omega
      · have d1 : ¬ (i : Int) < 7 := by omega
        go_wp2_with fail
        go_meet
        exact HS.out.up
  case rest =>
  have HU11 : Hid (Up w6 wc) := hcut.out
  have HF11 : Hid (SpC w2 ⟨fun b => b = hb, w4⟩ fb flo fhi FA FY (stC FC 4) 0 wc) := SpC.upW HF6.out HU11.out
  have HFn : Hid (∀ w, Up wc w → Up W w) := fun w u => HU7.out.1.trans (HU11.out.trans u)
  clear hcut HS10 HRw HF6 HU7 HU8 HU11
  generalize hw11 : wc = w11 at HF11 HFn ⊢
  clear hw11
  go_wp2_with fail
  refine wp_region_held_drew (S := fun w => w.cell? ⟨fb, 0, none⟩ = some (.pointer (some ⟨FA.cb, 0, none⟩))) (by kernel_rfl) (SpC.c0 (SpC.upW HF11.out ((Up.refl w11).drew))) (fun hHeld => ?_)
  have HFd : Hid (SpC w2 ⟨fun b => b = hb, w4⟩ fb flo fhi FA FY (stC FC 4) 0 w11.drew) := SpC.upW HF11.out ((Up.refl w11).drew)
  have HUd : Hid (Up w11 w11.drew) := (Up.refl w11).drew
  clear HF11
  generalize World.drew w11 = wd at HFd HUd hHeld ⊢
  have HR1 : Hid (∀ w, Up wd w → Calls Tryd.prog 17 #[.pointer (some ⟨FA.cb, 0, none⟩), .int .i64 40961] w fun e w' => e = .returned (.int .u8 9) ∧ Up w w') := fun w u => by
    have := SpC.read (a := 40961) (SpC.upW HFd.out u)
    rw [show (stC FC 4).rd 40961 = 9 from H9.out.1] at this
    exact this
  have HR2 : Hid (∀ w, Up wd w → Calls Tryd.prog 17 #[.pointer (some ⟨FA.cb, 0, none⟩), .int .i64 40962] w fun e w' => e = .returned (.int .u8 0) ∧ Up w w') := fun w u => by
    have := SpC.read (a := 40962) (SpC.upW HFd.out u)
    rw [show (stC FC 4).rd 40962 = 0 from H9.out.2] at this
    exact this
  refine wpAnyH_take (i := 0) (v := ?_) (by simp only [List.getElem?_toArray, List.getElem?_cons_zero]; rfl) (by kernel_rfl) (by kernel_rfl) (by kernel_rfl) (by intro _ _ _ h; exact h) (Or.inl ⟨by rfl, ?_⟩) (by assumption) ?_
  rotate_left
  · (intro w hSw; (try dsimp only at hSw); go_simp <;> with_reducible rfl)
  try simp only [Act.put, List.setIfInBounds_toArray, List.set_cons_zero, List.set_cons_succ]
  refine wpAnyH_take (i := 1) (v := ?_) (by simp only [List.getElem?_toArray, List.getElem?_cons_succ, List.getElem?_cons_zero]; rfl) (by kernel_rfl) (by kernel_rfl) (by kernel_rfl) (by intro _ _ _ h; exact h) (Or.inl ⟨by rfl, ?_⟩) (by assumption) ?_
  rotate_left
  · (intro w hSw; (try dsimp only at hSw); go_simp <;> with_reducible rfl)
  try simp only [Act.put, List.setIfInBounds_toArray, List.set_cons_zero, List.set_cons_succ]
  refine wpAnyH_take (i := 2) (v := ?_) (by simp only [List.getElem?_toArray, List.getElem?_cons_succ, List.getElem?_cons_zero]; rfl) (by kernel_rfl) (by kernel_rfl) (by kernel_rfl) (by intro _ _ _ h; exact h) (Or.inl ⟨by rfl, ?_⟩) (by assumption) ?_
  rotate_left
  · (intro w hSw; (try dsimp only at hSw); go_simp <;> with_reducible rfl)
  try simp only [Act.put, List.setIfInBounds_toArray, List.set_cons_zero, List.set_cons_succ]
  refine wpAnyH_take (i := 3) (v := ?_) (by simp only [List.getElem?_toArray, List.getElem?_cons_succ, List.getElem?_cons_zero]; rfl) (by kernel_rfl) (by kernel_rfl) (by kernel_rfl) (by intro _ _ _ h; exact h) (Or.inl ⟨by rfl, ?_⟩) (by assumption) ?_
  rotate_left
  · (intro w hSw; (try dsimp only at hSw); go_simp <;> with_reducible rfl)
  try simp only [Act.put, List.setIfInBounds_toArray, List.set_cons_zero, List.set_cons_succ]
  refine wpAnyH_take (i := 5) (v := ?_) (by simp only [List.getElem?_toArray, List.getElem?_cons_succ, List.getElem?_cons_zero]; rfl) (by kernel_rfl) (by kernel_rfl) (by kernel_rfl) (by intro _ _ _ h; exact h) (Or.inl ⟨by rfl, ?_⟩) (by assumption) ?_
  rotate_left
  · (intro w hSw; (try dsimp only at hSw); go_simp <;> with_reducible rfl)
  try simp only [Act.put, List.setIfInBounds_toArray, List.set_cons_zero, List.set_cons_succ]
  refine wpAnyH_take (i := 6) (v := ?_) (by simp only [List.getElem?_toArray, List.getElem?_cons_succ, List.getElem?_cons_zero]; rfl) (by kernel_rfl) (by kernel_rfl) (by kernel_rfl) (by intro _ _ _ h; exact h) (Or.inl ⟨by rfl, ?_⟩) (by assumption) ?_
  rotate_left
  · (intro w hSw; (try dsimp only at hSw); go_simp <;> with_reducible rfl)
  try simp only [Act.put, List.setIfInBounds_toArray, List.set_cons_zero, List.set_cons_succ]
  refine wpAnyH_take (i := 7) (v := ?_) (by simp only [List.getElem?_toArray, List.getElem?_cons_succ, List.getElem?_cons_zero]; rfl) (by kernel_rfl) (by kernel_rfl) (by kernel_rfl) (by intro _ _ _ h; exact h) (Or.inl ⟨by rfl, ?_⟩) (by assumption) ?_
  rotate_left
  · (intro w hSw; (try dsimp only at hSw); go_simp <;> with_reducible rfl)
  try simp only [Act.put, List.setIfInBounds_toArray, List.set_cons_zero, List.set_cons_succ]
  refine wpAnyH_take (i := 8) (v := ?_) (by simp only [List.getElem?_toArray, List.getElem?_cons_succ, List.getElem?_cons_zero]; rfl) (by kernel_rfl) (by kernel_rfl) (by kernel_rfl) (by intro _ _ _ h; exact h) (Or.inl ⟨by rfl, ?_⟩) (by assumption) ?_
  rotate_left
  · (intro w hSw; (try dsimp only at hSw); go_simp <;> with_reducible rfl)
  try simp only [Act.put, List.setIfInBounds_toArray, List.set_cons_zero, List.set_cons_succ]
  refine wpAnyH_ready (rs := [4]) (by kernel_rfl) (by simp) ?_
  refine AllReadyH.cons (by simp only [List.getElem?_toArray, List.getElem?_cons_succ, List.getElem?_cons_zero]; rfl) (fun KK hK => ?_) AllReadyH.nil
  go_simp
  refine Calls.mono (HR1.out _ (Up.refl wd)) ?_
  rintro e w12 ⟨rfl, u12⟩
  have HU12 : Hid (Up wd w12) := u12
  refine hK.out _ _ (SpC.c0 (SpC.upW HFd.out HU12.out)) (fun hHeld => ?_)
  clear hK KK u12
  try simp only [Act.put, List.setIfInBounds_toArray, List.set_cons_zero, List.set_cons_succ]
  refine wpAnyH_ready (rs := [9]) (by kernel_rfl) (by simp) ?_
  refine AllReadyH.cons (by simp only [List.getElem?_toArray, List.getElem?_cons_succ, List.getElem?_cons_zero]; rfl) (fun KK hK => ?_) AllReadyH.nil
  go_simp
  refine Calls.mono (HR2.out _ HU12.out) ?_
  rintro e w13 ⟨rfl, u13⟩
  have HU13 : Hid (Up wd w13) := HU12.out.trans u13
  refine hK.out _ _ (SpC.c0 (SpC.upW HFd.out HU13.out)) (fun hHeld => ?_)
  clear hK KK u13 HU12
  try simp only [Act.put, List.setIfInBounds_toArray, List.set_cons_zero, List.set_cons_succ]
  refine wpAnyH_take (i := 10) (v := ?_) (by simp only [List.getElem?_toArray, List.getElem?_cons_succ, List.getElem?_cons_zero]; rfl) (by kernel_rfl) (by kernel_rfl) (by kernel_rfl) (by intro _ _ _ h; exact h) (Or.inl ⟨by rfl, ?_⟩) (by assumption) ?_
  rotate_left
  · (intro w hSw; (try dsimp only at hSw); go_simp <;> with_reducible rfl)
  try simp only [Act.put, List.setIfInBounds_toArray, List.set_cons_zero, List.set_cons_succ]
  refine wpAnyH_take (i := 11) (v := ?_) (by simp only [List.getElem?_toArray, List.getElem?_cons_succ, List.getElem?_cons_zero]; rfl) (by kernel_rfl) (by kernel_rfl) (by kernel_rfl) (by intro _ _ _ h; exact h) (Or.inl ⟨by rfl, ?_⟩) (by assumption) ?_
  rotate_left
  · (intro w hSw; (try dsimp only at hSw); go_simp <;> with_reducible rfl)
  try simp only [Act.put, List.setIfInBounds_toArray, List.set_cons_zero, List.set_cons_succ]
  refine wpAnyH_done (by kernel_rfl) ?_ _
  clear hHeld
  go_wp2_with fail
  go_ret
  exact ⟨by first | rfl | (simp; done), HFn.out _ (HUd.out.trans HU13.out)⟩
end Go.Proofs.YtojlappgmckokaaDoor
/- Proved: for every list of acts and all other arguments the law CartExact answers true, where the tables of types, rows and sizes are as the program's text lays them. -/
namespace Go.Proofs.YtojlappgmckokaaDoor.cartExact
open Go.ChangeShapes Go.WideShapes Go.ChangeAt Go.RowKit Go.Deep
set_option linter.unusedVariables false
theorem cellsU : Tryd.prog.cellsOf 5 = 1 := by kernel_rfl
set_option maxRecDepth 100000 in
/-- Bytes as they come in. -/
theorem bytes_of {H : Type} {enc : TypeId × Value → H} {W : World} {n : Nat} {aa : Option Addr} {len cap : Nat} {x : DataW H × List MemPlace}
    (h2 : DataW.trod enc Tryd.prog W 0 (fun _ => true) true n 24 [.slice aa len cap] = some x) :
    ∃ (ab ao : Nat) (f : Nat → Int), Byts W aa ab ao len cap f := by
  have z0 : (0 : Int) ≤ 0 ∧ (0 : Int) ≤ 255 := by decide
  rcases open_ints Tryd.underlying24 Tryd.underlying5 cellsU h2 with ⟨hcs, hx⟩ | ⟨a, len', cap', zs, hcs, _, hl, hm, hz, hx, hcell, hwz⟩
  · simp at hcs
    obtain ⟨rfl, rfl, rfl⟩ := hcs
    exact ⟨0, 0, fun _ => 0, Nat.le_refl _, Nat.zero_le _, fun h => by omega, fun _ => z0, fun k hk => by omega⟩
  · simp at hcs
    obtain ⟨rfl, rfl, rfl⟩ := hcs
    simp only [if_true] at hz
    by_cases h0 : len = 0
    · subst h0
      exact ⟨0, 0, fun _ => 0, hl, hm, fun h => by omega, fun _ => z0, fun k hk => by omega⟩
    · obtain ⟨b, off, spot⟩ := a
      have hspot : spot = none := by simpa [Addr.add] using World.cell?_spot (hcell 0 (by omega))
      subst hspot
      refine ⟨b, off, fun k => zs.getD k 0, hl, hm, fun _ => rfl, fun k => ?_, fun k hk => by have hc := hcell k (by omega); rw [show (⟨b, off, none⟩ : Addr).add k = ⟨b, off + k, none⟩ by unfold Addr.add; split <;> simp_all] at hc; exact hc⟩
      show 0 ≤ zs.getD k 0 ∧ zs.getD k 0 ≤ 255
      rw [List.getD_eq_getElem?_getD]
      cases h : zs[k]? with
      | none => exact z0
      | some y => exact bounds_u8 (hwz y (List.mem_of_getElem? h))
theorem lits_len (k : IntKind) {H : Type} (zs : List Int) : (lits (H := H) k zs).length = zs.length := by unfold lits; simp
theorem bnd {H : Type} {enc : TypeId × Value → H} {W : World} {n len cap j : Nat} {t e : TypeId} {k : IntKind} {aa : Option Addr} {d : DataW H} {p : List MemPlace} {ts : List TypeId} {ds : List (DataW H)}
    (ht : Tryd.prog.underlying t = some (.slice e)) (he : Tryd.prog.underlying e = some (.int k)) (hc : Tryd.prog.cellsOf e = 1) (hb : 1 ≤ Tryd.prog.bytesOf e)
    (h2 : DataW.trod enc Tryd.prog W 0 (fun _ => true) true n t [.slice aa len cap] = some (d, p)) (hz : (DataW.weightsEach Tryd.prog ts ds).all (· ≤ reachBytes) = true)
    (hj : ts[j]? = some t) (hd : ds[j]? = some d) : len ≤ 140737488351232 := by
  rcases open_ints ht he hc h2 with ⟨h, _⟩ | ⟨a, l, c, zs, h, _, hl, _, hlen, hx, _⟩
  · simp at h
    omega
  · simp at h
    obtain ⟨rfl, rfl, rfl⟩ := h
    obtain ⟨rfl, _⟩ := Prod.mk.inj hx
    have h3 := sized_slice hz hj hd ht
    rw [lits_len, lits_len, ← List.length_append, List.take_append_drop, hlen, if_pos rfl] at h3
    have h4 : len ≤ len * Tryd.prog.bytesOf e := Nat.le_mul_of_pos_right _ hb
    have h5 : len * Tryd.prog.bytesOf e ≤ cap * Tryd.prog.bytesOf e := Nat.mul_le_mul_right _ hl
    have h6 : reachBytes = 140737488351232 := rfl
    omega
/-- The tables. -/
theorem of_laid (W : World) (h : laidMetH Tryd.prog Rows.cartExactRow.laid W) : Tb W := by
  rw [MakeChecks.laidMetH_plain _ _ _ (by kernel_rfl)] at h
  have m1 : ("arcade/cart.rows", DataW.agg (rowsT.map Rw.data)) ∈ Rows.cartExactRow.laid := List.mem_cons.2 (Or.inl rfl)
  have m2 : ("arcade/cart.ramSizes", (DataW.agg [.lit (.int .i64 0), .lit (.int .i64 0), .lit (.int .i64 8192), .lit (.int .i64 32768), .lit (.int .i64 131072), .lit (.int .i64 65536)] : DataW Unit)) ∈ Rows.cartExactRow.laid := List.mem_cons.2 (Or.inr (List.mem_cons.2 (Or.inl rfl)))
  exact ⟨rows_of h m1, rams_of h m2⟩
/-- The door's own heap meets the condition. -/
theorem door_met (os : Os) (args : Array Value) : laidMetH Tryd.prog Rows.cartExactRow.laid ((World.doorLaid Tryd.prog 400 os).forCall (fun _ _ => 0) ⟨#[], args, []⟩).memory :=
  laidMetH_of_parts3 (fuel := 8) (laidMet_of_run' 8 (by kernel_rfl) (by kernel_rfl)) (by kernel_rfl) (by kernel_rfl)
set_option maxRecDepth 100000 in
theorem lifted (os : Os) (started : os.Started) (H : Type) (enc : TypeId × Value → H) :
    ReturnsInHanded {} Tryd.checked os 10 .any (fun w args => (Rows.cartExactSpec.pre enc Tryd.prog Tryd.f10 [] false w args ∧ laidMetH Tryd.prog Rows.cartExactRow.laid w) ∧ sizedMet enc Tryd.prog Tryd.f10 (OpenSpec.ofChange Rows.cartExactSpec) false w args)
      (Rows.cartExactSpec.post enc Tryd.prog Tryd.f10 false true false false) := by
  refine returnsInHanded_of_change_and (C := Tryd.checked) (X := fun w _ => laidMetH Tryd.prog Rows.cartExactRow.laid w) (fun _ _ _ hh h => h.of_heap hh) own started (by kernel_rfl) Tryd.func10
    (ChangeSpec.witness_shaped (enc := enc) (C := Tryd.checked) (os := os) (X := fun w _ => laidMetH Tryd.prog Rows.cartExactRow.laid w) false (World.doorLaid Tryd.prog 400 os) #[.agg #[.int .i64 0, .int .i64 0, .int .i64 0, .int .i64 0, .int .i64 0, .slice none 0 0, .slice none 0 0, .bool false], .slice none 0 0, .slice none 0 0] 8 rfl (World.shaped_of_RefB (by kernel_rfl) (by kernel_rfl)) (by kernel_rfl) (by kernel_rfl) (by kernel_rfl) (door_met os _)) ?_
  intro W base args ds gs before hval0 hW _ hz0 hL _
  have hz : (DataW.weightsEach Tryd.prog (Tryd.f10.params.toList ++ Rows.cartExactSpec.plain.varTypes Tryd.prog) (ds ++ gs)).all (· ≤ reachBytes) = true := hz0
  clear hz0
  have hval : ∀ (j : Nat) t v, Tryd.f10.params[j]? = some t → args[j]? = some v → Value.okWide Tryd.prog W .any base t v := hval0
  have hW' := hW
  obtain ⟨p, q, hA0, hV, rfl, hfz, hnd⟩ := hW
  have hA : DataW.TrodAll enc Tryd.prog W 0 (fun _ => true) true Tryd.f10.params.toList args.toList ds p := hA0
  rw [Tryd.params10] at hA hval
  obtain ⟨v0, vs0, d0, ds0, p0, q0, hargs, rfl, rfl, h0, r0⟩ := trodAll_cons hA
  obtain ⟨v1, vs1, d1, ds1, p1, q1, rfl, rfl, rfl, h1, r1⟩ := trodAll_cons r0
  obtain ⟨v2, vs2, d2, ds2, p2, q2, rfl, rfl, rfl, h2, r2⟩ := trodAll_cons r1
  obtain ⟨rfl, rfl, rfl⟩ := trodAll_nil r2
  obtain rfl : args = #[v0, v1, v2] := by cases args; simp_all
  obtain ⟨rfl, rfl⟩ := trodVars_none hV
  obtain ⟨cs0, rfl, hcs0⟩ := okWide_struct Tryd.underlying27 (hval 0 27 v0 rfl rfl)
  have k0 := h0
  obtain ⟨fuel0, hf0⟩ := h0
  have hlt0 : ∀ x ∈ p0, x.block < W.heap.size := fun x hx => by simpa using hW'.lt x (by simp [hx])
  obtain ⟨cs0⟩ := cs0
  obtain ⟨B0, rfl, A0⟩ := box_of (by rw [← cBx]; exact hcs0) (by simpa [Value.cells] using hf0)
  obtain ⟨bty, brc, brm, bsd, bmo, bpa, bpb, bpo, bpn, bpc, bpf, bba, bbb, bbo, bbn, bbc, bbf, braw⟩ := B0
  obtain ⟨aa1, len1, cap1, rfl⟩ := okWide_slice Tryd.underlying24 (hval 1 24 v1 rfl rfl)
  have k1 := h1
  obtain ⟨fuel1, hf1⟩ := h1
  have hlt1 : ∀ x ∈ p1, x.block < W.heap.size := fun x hx => by simpa using hW'.lt x (by simp [hx])
  obtain ⟨ab1, ao1, f1, A1⟩ := bytes_of (by simpa [Value.cells] using hf1)
  obtain ⟨aa2, len2, cap2, rfl⟩ := okWide_slice Tryd.underlying50 (hval 2 50 v2 rfl rfl)
  have k2 := h2
  obtain ⟨fuel2, hf2⟩ := h2
  have hlt2 : ∀ x ∈ p2, x.block < W.heap.size := fun x hx => by simpa using hW'.lt x (by simp [hx])
  obtain ⟨ab2, ao2, f2, A2⟩ := ops_of (by simpa [Value.cells] using hf2)
  clear hA0 hval0
  refine (exact_walk (of_laid W hL) A0.i1 A0.i2 A0.i3 A0.i4 A0.i5 A0.hP A0.hB A1 (bnd Tryd.underlying24 Tryd.underlying5 (by kernel_rfl) (of_decide_eq_true (by kernel_rfl)) (by simpa [Value.cells] using hf1) hz (j := 1) (by rw [Tryd.params10]; rfl) rfl) A2).mono fun e W' ⟨he, hu⟩ => ?_
  subst he
  have stay0 : DataW.Trod enc Tryd.prog W' 0 (fun b => decide (b < W.heap.size)) true 27 (.agg _) d0 p0 :=
    WideElems.Trod_stays laidOut (by kernel_rfl) (of_decide_eq_true (by kernel_rfl)) k0 (fun x hx => up_same hu (hlt0 x hx)) (fun x hx => by simpa using hlt0 x hx)
  have stay1 : DataW.Trod enc Tryd.prog W' 0 (fun b => decide (b < W.heap.size)) true 24 (.slice aa1 len1 cap1) d1 p1 :=
    WideElems.Trod_stays laidOut (by kernel_rfl) (of_decide_eq_true (by kernel_rfl)) k1 (fun x hx => up_same hu (hlt1 x hx)) (fun x hx => by simpa using hlt1 x hx)
  have stay2 : DataW.Trod enc Tryd.prog W' 0 (fun b => decide (b < W.heap.size)) true 50 (.slice aa2 len2 cap2) d2 p2 :=
    WideElems.Trod_stays laidOut (by kernel_rfl) (of_decide_eq_true (by kernel_rfl)) k2 (fun x hx => up_same hu (hlt2 x hx)) (fun x hx => by simpa using hlt2 x hx)
  exact ⟨_, rfl, _, _, _, [], _, [], hW', trodAll_mk1 (shut_bool Tryd.underlying4 _), (trodAll_cons_mk stay0 (trodAll_cons_mk stay1 (trodAll_cons_mk stay2 trodAll_mk0))), rfl, World.keptBut_mono (fun _ f => f.elim) (grownOf hu), fun h => by cases h⟩
theorem over : Rows.cartExactRow.holds Tryd.pinned (OpenSpec.ofChange Rows.cartExactSpec) :=
  OpenClaim.holds_of_wide 10 Tryd.f10 rfl rfl rfl rfl rfl rfl rfl ⟨rfl, rfl, rfl, rfl, rfl⟩ rfl rfl rfl rfl rfl (by kernel_rfl) Tryd.func10 (by kernel_rfl)
    (of_decide_eq_true (by kernel_rfl)) (by unfold Func.isWrapper; first | (rw [if_pos (by decide +kernel)]; kernel_rfl) | (rw [if_neg (by decide +kernel)]; exact ⟨rfl, rfl⟩))
    (fun os started H enc _ => lifted os started H enc)
theorem proved : Rows.CartExactSaid := over
/-- The card: the row, its table tied to the program's text. -/
theorem card : Rows.CartExactCardSaid :=
  Claim7.holds_tied_plain_at .later [] [.data, .data] true (true, "f6d4fad835ca792670c72d1ebafe4a1b59612f0a13e2676546f4fb9beb766307") true
    proved (fun _ h => by cases h) (by kernel_rfl) (fun _ h => by cases h) cartExact_row_tie rfl ⟨rfl, rfl⟩ (by kernel_rfl) rfl
    (fun f fn hf hfn => by
      obtain rfl : f = 10 := Option.some.inj ((show Tryd.prog.funcNamed "arcade/arcadelaw4.CartExact" = some 10 by kernel_rfl).symm.trans hf) |>.symm
      obtain rfl : fn = Tryd.f10 := (Option.some.inj (Tryd.func10.symm.trans hfn)).symm
      exact ⟨by kernel_rfl, fun j t ht => by
        rw [Tryd.params10] at ht
        have hm : t ∈ [27, 24, 50] := by simpa using Array.mem_of_getElem? ht
        have hall : ([27, 24, 50].all fun u => !Tryd.prog.wantsStandIn u) = true := by kernel_rfl
        exact (show Tryd.prog.wantsStandIn t = false by simpa using List.all_eq_true.1 hall t hm)⟩)
    (by kernel_rfl)
end Go.Proofs.YtojlappgmckokaaDoor.cartExact
namespace Go.Proofs.YtojlappgmckokaaDoor
theorem cartExact_card : Rows.CartExactCardSaid := cartExact.card
#print axioms cartExact_card
end Go.Proofs.YtojlappgmckokaaDoor
