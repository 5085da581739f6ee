/- PpuPure: the walk. -/
import Derived.Test.YtnbhifbenfgeeaaPgJ
namespace Go.Proofs.Ytnbhifbenfgeeaa
open Go.RowKit
set_option linter.unusedVariables false
variable {b : Nat} {p : Pic}
set_option maxRecDepth 100000 in
set_option maxHeartbeats 4000000 in
theorem pure_walk {W : World} {s t : Sce} {n0 : Int} (D : ScAt W s) (E : ScAt W t) (hn : I64 n0) :
    Calls Try.prog 7 #[s.val, t.val, .int .i64 n0] W fun e w' => e = .returned (.bool true) ∧ Up W w' := by
  obtain ⟨M, hM⟩ : ∃ M, M = 40 := ⟨_, rfl⟩
  have HM : Hid (M = 40) := hM
  clear hM
  have HD : Hid (∀ w', Up W w' → ScAt w' s) := fun w' u => D.up u
  have HE : Hid (∀ w', Up W w' → ScAt w' t) := fun w' u => E.up u
  have HPn : Hid (∀ W, Calls Try.prog 19 #[.int .i64 n0, .int .i64 20000] W fun e w' => e = .returned (.int .i64 (pickI n0 20000)) ∧ w' = W) := fun W => pick_any n0 20000 W hn (by decide) (by decide)
  have n1 := pickI_lo n0 20000 (by decide)
  have n2 := pickI_hi n0 20000 (by decide)
  have HSh : Hid (∀ w, ScAt w s → Calls Try.prog 26 #[s.val] w fun e w' => ∃ g, e = .returned (.tuple #[.slice (some ⟨g, 0, none⟩) 23040 23040, .bool true]) ∧ w.heap.size ≤ g ∧ NmAt w' g 23040 (s.frame M) ∧ Up w w') := fun w h => shotS_any HM.out s h
  clear D E hn
  generalize pickI n0 20000 = NI at *
  obtain ⟨n, rfl⟩ := Int.eq_ofNat_of_zero_le n1
  unfold Sce.val at *
  go_enter Try.func7, Try.ntmps7
  go_wp2_with fail
  have u1 : Up W ((W.alloc (Obj.cells #[.slice s.ra s.rl s.rc, .slice s.oa s.ol s.oc, .slice s.pa s.pl s.pc] 37)).alloc (Obj.cells #[.slice t.ra t.rl t.rc, .slice t.oa t.ol t.oc, .slice t.pa t.pl t.pc] 37)) := ((Up.refl W).alloc _).alloc _
  have k1 : ((W.alloc (Obj.cells #[.slice s.ra s.rl s.rc, .slice s.oa s.ol s.oc, .slice s.pa s.pl s.pc] 37)).alloc (Obj.cells #[.slice t.ra t.rl t.rc, .slice t.oa t.ol t.oc, .slice t.pa t.pl t.pc] 37)).heap[W.heap.size]? = some (.cells #[.slice s.ra s.rl s.rc, .slice s.oa s.ol s.oc, .slice s.pa s.pl s.pc] 37 (0, 0)) := (Below.heap_alloc _ _ _ (by simp)).trans (heap_alloc_new W _)
  have k2 : ((W.alloc (Obj.cells #[.slice s.ra s.rl s.rc, .slice s.oa s.ol s.oc, .slice s.pa s.pl s.pc] 37)).alloc (Obj.cells #[.slice t.ra t.rl t.rc, .slice t.oa t.ol t.oc, .slice t.pa t.pl t.pc] 37)).heap[W.heap.size + 1]? = some (.cells #[.slice t.ra t.rl t.rc, .slice t.oa t.ol t.oc, .slice t.pa t.pl t.pc] 37 (0, 0)) := by
    have := heap_alloc_new (W.alloc (Obj.cells #[.slice s.ra s.rl s.rc, .slice s.oa s.ol s.oc, .slice s.pa s.pl s.pc] 37)) (Obj.cells #[.slice t.ra t.rl t.rc, .slice t.oa t.ol t.oc, .slice t.pa t.pl t.pc] 37)
    simpa using this
  generalize World.alloc (World.alloc W _) _ = w1 at u1 k1 k2 ⊢
  have HR : Hid (∀ w', Up w1 w' → w'.rangeAt W.heap.size 0 [.slice s.ra s.rl s.rc, .slice s.oa s.ol s.oc, .slice s.pa s.pl s.pc] ∧ w'.rangeAt (W.heap.size + 1) 0 [.slice t.ra t.rl t.rc, .slice t.oa t.ol t.oc, .slice t.pa t.pl t.pc]) := fun w' u => by
    have h1 := (u.block _ (Array.getElem?_eq_some_iff.1 k1).1).trans k1
    have h2 := (u.block _ (Array.getElem?_eq_some_iff.1 k2).1).trans k2
    exact ⟨range3 (by rw [cell_of_row _ _ _ _ _ _ h1]; rfl) (by rw [cell_of_row _ _ _ _ _ _ h1]; rfl) (by rw [cell_of_row _ _ _ _ _ _ h1]; rfl), range3 (by rw [cell_of_row _ _ _ _ _ _ h2]; rfl) (by rw [cell_of_row _ _ _ _ _ _ h2]; rfl) (by rw [cell_of_row _ _ _ _ _ _ h2]; rfl)⟩
  have H1 : Hid (Up W w1) := u1
  clear u1 k1 k2
  generalize hsb : W.heap.size = sb at HR ⊢
  clear hsb
  refine (HSh.out w1 (HD.out _ H1.out)).mono ?_
  rintro e w2 ⟨g1, rfl, hg1, n1', u2⟩
  have H2 : Hid (NmAt w2 g1 23040 (s.frame M) ∧ Up w1 w2) := ⟨n1', u2⟩
  clear n1' u2 hg1 HSh
  go_wp2_with fail
  have HN : Hid _ := newP_any w2
  generalize hb : w2.heap.size = b at HN
  have HQ : Hid (w2.heap.size = b) := hb
  clear hb
  refine Calls.mono HN.out ?_
  rintro e w3 ⟨rfl, h3, u3⟩
  have H3 : Hid (PxAt w3 b newPic ∧ Up w1 w3 ∧ NmAt w3 g1 23040 (s.frame M) ∧ g1 ≠ b ∧ w1.heap.size ≤ b) := ⟨h3, H2.out.2.trans u3, H2.out.1.of_block (u3.block _ H2.out.1.lt), by have := H2.out.1.lt; have := HQ.out; omega, by have := H2.out.2.size; have := HQ.out; omega⟩
  clear h3 u3 HN H2 HQ
  have HU : Hid (∀ w', Fr b w3 w' → Up w1 w' ∧ NmAt w' g1 23040 (s.frame M)) := fun w' f => ⟨Fr.up H3.out.2.1 H3.out.2.2.2.2 f, H3.out.2.2.1.of_block (f.block _ H3.out.2.2.1.lt H3.out.2.2.2.1)⟩
  have HRt : Hid _ := (HR.out _ H3.out.2.1).2
  have HSt : Hid _ := setS_any t newPic_sane newPic_bl H3.out.1 (fun w' f => HE.out w' (H1.out.trans (HU.out w' f).1))
  unfold Sce.val at HSt
  go_wp2_with (refine wpList_load_mid rfl 37 _ rfl (sb + 1) 0 rfl [.slice t.ra t.rl t.rc, .slice t.oa t.ol t.oc, .slice t.pa t.pl t.pc] _ HRt.out Try.underlying37 rfl (by kernel_rfl) ?_)
  refine Calls.mono HSt.out ?_
  rintro e w4 ⟨rfl, ⟨q0, h4, hq⟩, F4⟩
  have HQ0 : Hid (Scn t q0) := hq
  have H4 : Hid (Lp w3 b q0 w4) := ⟨⟨q0, h4, hq.sane, Kp.refl q0⟩, F4⟩
  clear h4 hq F4 HSt HRt HE
  go_wp2_with fail
  refine (HPn.out _).mono ?_
  rintro e w' ⟨rfl, hw'⟩
  obtain rfl := hw'.symm
  clear HPn
  go_wp2_with fail
  go_loopw [10] (fun I wr => ∃ i : Nat, i ≤ n ∧ I = .int .i64 i ∧ Hid (Lp w3 b q0 wr)) (fun I _ => (intOf I).toNat)
  case atStart => exact ⟨n, by omega, rfl, H4⟩
  case round =>
    clear H4
    obtain ⟨i, hi, rfl, M0⟩ := hrel
    by_cases hlt : 0 < i
    · have d1 : decide ((0 : Int) < (i : Int)) = true := decide_eq_true (by omega)
      have e1 : (0 : Int) < (i : Int) := by omega
      obtain ⟨i2, rfl⟩ : ∃ i2, i = i2 + 1 := ⟨i - 1, by omega⟩
      have HT : Hid _ := M0.out.tick HM.out
      clear HR HU HD H3
      go_wp2_with fail
      refine Calls.mono HT.out ?_
      rintro e w5 ⟨⟨v, rfl⟩, h5⟩
      have H5 : Hid _ := h5
      clear h5 HT M0
      go_wp2_with fail
      refine ⟨⟨i2, by omega, ?_, H5⟩, ?_⟩
      · first | rfl | (simp; done) | (simp; omega)
      · simp [intOf]
    · have d1 : decide ((0 : Int) < (i : Int)) = false := decide_eq_false (by omega)
      obtain rfl : i = 0 := by omega
      obtain ⟨q1, h5, s5, kp⟩ := M0.out.at'
      have F5 := M0.out.fr
      have HK : Hid (Kp q0 q1 ∧ Fr b w3 wr) := ⟨kp, F5⟩
      have HW : Hid _ := Sf.start s5 h5
      clear M0 h5 s5 kp F5 hlt hi n1 n2
      go_wp2_with fail
      refine Calls.mono HW.out ?_
      rintro e w5 ⟨rfl, h5⟩
      have H5 : Hid (Sf wr b (wiped q1.vr 0) q1.oa (offR q1.rg) w5) := by rw [← wiped0]; exact h5
      clear h5 HW
      go_wp2_with fail
      obtain ⟨wo, hwo⟩ : ∃ wo, wo = wr := ⟨_, rfl⟩
      rw [← hwo] at H5 HK
      clear hwo
      go_loopw [11] (fun I wr => ∃ i : Nat, i ≤ 8192 ∧ I = .int .i64 i ∧ Hid (Sf wo b (wiped q1.vr i) q1.oa (offR q1.rg) wr)) (fun I _ => 8192 - (intOf I).toNat)
      case atStart => exact ⟨0, by omega, rfl, H5⟩
      case round =>
        clear H5
        obtain ⟨i, hi, rfl, M1⟩ := hrel
        by_cases hlt : i < 8192
        · have d1 : decide ((i : Int) < 8192) = true := decide_eq_true (by omega)
          have e1 : (i : Int) < 8192 := by omega
          have HT : Hid _ := Sf.wipe (show offR q1.rg 0 = 0 from rfl) i hlt M1.out
          clear HR HU HD H3
          go_wp2_with fail
          refine Calls.mono HT.out ?_
          rintro e w6 ⟨rfl, h6⟩
          have H6 : Hid _ := h6
          clear h6 HT M1
          go_wp2_with fail
          refine ⟨⟨i + 1, by omega, ?_, H6⟩, ?_⟩
          · first | rfl | (simp; done)
          · simp [intOf]
            omega
        · have d1 : decide ((i : Int) < 8192) = false := decide_eq_false (by omega)
          obtain rfl : i = 8192 := by omega
          obtain ⟨q2, h6, s6, b6⟩ := Sf.bl HQ0.out HK.out.1 M1.out
          have F6 : Fr b w3 wr := HK.out.2.trans M1.out.fr
          have HF6 : Hid (Fr b w3 wr) := F6
          have HRs : Hid _ := (HR.out _ (HU.out _ F6).1).1
          have HSs : Hid _ := setS_any s s6 b6 h6 (fun w' f => HD.out w' (H1.out.trans (HU.out w' (F6.trans f)).1))
          unfold Sce.val at HSs
          clear M1 h6 s6 b6 F6 HK HQ0 hlt hi
          go_wp2_with (refine wpList_load_mid rfl 37 _ rfl sb 0 rfl [.slice s.ra s.rl s.rc, .slice s.oa s.ol s.oc, .slice s.pa s.pl s.pc] _ HRs.out Try.underlying37 rfl (by kernel_rfl) ?_)
          refine Calls.mono HSs.out ?_
          rintro e w7 ⟨rfl, ⟨q, h7, hq⟩, F7⟩
          obtain ⟨N, hN⟩ : ∃ N, N = 16416 := ⟨_, rfl⟩
          have HNN : Hid (N = 16416) := hN
          have HO : Hid _ := oneS_any HM.out hN hq w7 h7
          have HQs : Hid (Scn s q ∧ Fr b w3 w7) := ⟨hq, HF6.out.trans F7⟩
          have HBL : Hid (b < w7.heap.size) := h7.lt
          clear h7 hq F7 HSs HRs hN HF6
          go_wp2_with fail
          refine Calls.mono HO.out ?_
          rintro e w8 ⟨⟨g2, rfl, hg2, n8⟩, h8, F8⟩
          have H8 : Hid (NmAt w8 g2 23040 (s.frame M) ∧ g2 ≠ b) := ⟨n8, by have := HBL.out; omega⟩
          have HT8 : Hid (Ts M w8 b q (N + 0) w8) := ⟨h8, Fr.refl b w8⟩
          have HF8 : Hid (Fr b w3 w8) := HQs.out.2.trans F8
          clear h8 n8 F8 hg2 HO
          go_wp2_with fail
          go_loopw [13] (fun I wr => ∃ i : Nat, i ≤ 1140 ∧ I = .int .i64 i ∧ Hid (Ts M w8 b q (N + i) wr)) (fun I _ => 1140 - (intOf I).toNat)
          case atStart => exact ⟨0, by omega, rfl, HT8⟩
          case round =>
            clear HT8
            obtain ⟨i, hi, rfl, M2⟩ := hrel
            by_cases hlt : i < 1140
            · have d1 : decide ((i : Int) < 1140) = true := decide_eq_true (by omega)
              have e1 : (i : Int) < 1140 := by omega
              have HT : Hid _ := M2.out.tick HM.out HQs.out.1.sane
              clear HR HU HD H3
              go_wp2_with fail
              refine Calls.mono HT.out ?_
              rintro e w9 ⟨rfl, h9⟩
              have H9 : Hid (Ts M w8 b q (N + (i + 1)) w9) := h9
              clear h9 HT M2
              go_wp2_with fail
              refine ⟨⟨i + 1, by omega, ?_, H9⟩, ?_⟩
              · first | rfl | (simp; done)
              · simp [intOf]
                omega
            · have d1 : decide ((i : Int) < 1140) = false := decide_eq_false (by omega)
              have hq2 : Scn s (tickN M q (N + i)) := HQs.out.1.round (by have := HNN.out; omega)
              have HO : Hid _ := oneS_any HM.out HNN.out hq2 wr M2.out.px
              have HB2 : Hid (b < wr.heap.size ∧ Fr b w8 wr) := ⟨M2.out.px.lt, M2.out.fr⟩
              clear M2 hq2 hlt hi
              go_wp2_with fail
              refine Calls.mono HO.out ?_
              rintro e w9 ⟨⟨g3, rfl, hg3, n9⟩, h9, F9⟩
              have F39 : Fr b w3 w9 := HF8.out.trans (HB2.out.2.trans F9)
              have c1 := (HU.out _ F39).2.conv 23040
              have c2 := (H8.out.1.of_block ((HB2.out.2.trans F9).block _ H8.out.1.lt H8.out.2)).conv 23040
              have c3 := n9.conv 23040
              have HUp : Hid (Up W w9) := H1.out.trans (HU.out _ F39).1
              clear h9 n9 F9 F39 hg3 HO HB2 HF8 H8 HQs HU HR HD H3
              generalize strN 23040 (s.frame M) = S at *
              go_wp2_with fail
              go_ret
              exact ⟨by first | rfl | (simp; done), HUp.out⟩
end Go.Proofs.Ytnbhifbenfgeeaa
