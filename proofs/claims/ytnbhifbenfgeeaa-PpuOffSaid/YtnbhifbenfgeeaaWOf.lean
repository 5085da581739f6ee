/- PpuOff: the walk. -/
import Derived.Test.YtnbhifbenfgeeaaPgK
namespace Go.Proofs.Ytnbhifbenfgeeaa
open Go.RowKit
set_option linter.unusedVariables false
variable {b : Nat} {p : Pic}
set_option maxRecDepth 100000 in
set_option maxHeartbeats 4000000 in
theorem off_walk {W : World} {s : Sce} {n0 m0 : Int} (D : ScAt W s) (hn : I64 n0) (hm : I64 m0) :
    Calls Try.prog 13 #[s.val, .int .i64 n0, .int .i64 m0] W fun e w' => e = .returned (.bool true) ∧ Up W w' := by
  obtain ⟨M, hM⟩ : ∃ M, M = 40 := ⟨_, rfl⟩
  have HM : Hid (M = 40) := hM
  clear hM
  have HD : Hid (∀ w', Up W w' → ScAt w' s) := fun w' u => D.up u
  have HPn : Hid (∀ W, Calls Try.prog 19 #[.int .i64 n0, .int .i64 40000] W fun e w' => e = .returned (.int .i64 (pickI n0 40000)) ∧ w' = W) := fun W => pick_any n0 40000 W hn (by decide) (by decide)
  have HPm : Hid (∀ W, Calls Try.prog 19 #[.int .i64 m0, .int .i64 300] W fun e w' => e = .returned (.int .i64 (pickI m0 300)) ∧ w' = W) := fun W => pick_any m0 300 W hm (by decide) (by decide)
  have n1 := pickI_lo n0 40000 (by decide)
  have n2 := pickI_hi n0 40000 (by decide)
  have m1 := pickI_lo m0 300 (by decide)
  have m2 := pickI_hi m0 300 (by decide)
  have HSh : Hid (∀ w, ScAt w s → Calls Try.prog 26 #[s.val] w fun e w' => ∃ g, e = .returned (.tuple #[.slice (some ⟨g, 0, none⟩) 23040 23040, .bool true]) ∧ w.heap.size ≤ g ∧ NmAt w' g 23040 (s.frame M) ∧ Up w w') := fun w h => shotS_any HM.out s h
  clear D hn hm
  generalize pickI n0 40000 = NI at *
  generalize pickI m0 300 = MI at *
  obtain ⟨n, rfl⟩ := Int.eq_ofNat_of_zero_le n1
  obtain ⟨m, rfl⟩ := Int.eq_ofNat_of_zero_le m1
  unfold Sce.val at *
  go_enter Try.func13, Try.ntmps13
  go_wp2_with fail
  have u1 : Up W (W.alloc (Obj.cells #[.slice s.ra s.rl s.rc, .slice s.oa s.ol s.oc, .slice s.pa s.pl s.pc] 37)) := (Up.refl W).alloc _
  have k1 : (W.alloc (Obj.cells #[.slice s.ra s.rl s.rc, .slice s.oa s.ol s.oc, .slice s.pa s.pl s.pc] 37)).heap[W.heap.size]? = some (.cells #[.slice s.ra s.rl s.rc, .slice s.oa s.ol s.oc, .slice s.pa s.pl s.pc] 37 (0, 0)) := heap_alloc_new W _
  generalize World.alloc W _ = w1 at u1 k1 ⊢
  have HR : Hid (∀ w', Up w1 w' → w'.rangeAt W.heap.size 0 [.slice s.ra s.rl s.rc, .slice s.oa s.ol s.oc, .slice s.pa s.pl s.pc]) := fun w' u => by
    have h1 := (u.block _ (Array.getElem?_eq_some_iff.1 k1).1).trans k1
    exact range3 (by rw [cell_of_row _ _ _ _ _ _ h1]; rfl) (by rw [cell_of_row _ _ _ _ _ _ h1]; rfl) (by rw [cell_of_row _ _ _ _ _ _ h1]; rfl)
  have H1 : Hid (Up W w1) := u1
  clear u1 k1
  generalize hsb : W.heap.size = sb at HR ⊢
  clear hsb
  refine (known_any w1).mono ?_
  rintro e w2 ⟨rfl, u2⟩
  have H2 : Hid (Up w1 w2) := u2
  clear u2
  go_wp2_with fail
  have HN : Hid _ := newP_any w2
  generalize hb : w2.heap.size = b at HN
  have HQ : Hid (w2.heap.size = b) := hb
  clear hb
  refine Calls.mono HN.out ?_
  rintro e w3 ⟨rfl, h3, u3⟩
  have H3 : Hid (PxAt w3 b newPic ∧ Up w1 w3 ∧ w1.heap.size ≤ b) := ⟨h3, H2.out.trans u3, by have := H2.out.size; have := HQ.out; omega⟩
  clear h3 u3 HN H2 HQ
  have HU : Hid (∀ w', Fr b w3 w' → Up w1 w') := fun w' f => Fr.up H3.out.2.1 H3.out.2.2 f
  have HRt : Hid _ := HR.out _ H3.out.2.1
  have HSt : Hid _ := setS_any s newPic_sane newPic_bl H3.out.1 (fun w' f => HD.out w' (H1.out.trans (HU.out w' f)))
  unfold Sce.val at HSt
  go_wp2_with (refine wpList_load_mid rfl 37 _ rfl sb 0 rfl [.slice s.ra s.rl s.rc, .slice s.oa s.ol s.oc, .slice s.pa s.pl s.pc] _ HRt.out Try.underlying37 rfl (by kernel_rfl) ?_)
  refine Calls.mono HSt.out ?_
  rintro e w4 ⟨rfl, ⟨q0, h4, hq⟩, F4⟩
  have HQ0 : Hid (Scn s q0) := hq
  have H4 : Hid (Lp w3 b q0 w4) := ⟨⟨q0, h4, hq.sane, Kp.refl q0⟩, F4⟩
  clear h4 hq F4 HSt HRt
  go_wp2_with fail
  refine (HPn.out _).mono ?_
  rintro e w' ⟨rfl, hw'⟩
  obtain rfl := hw'.symm
  clear HPn
  go_wp2_with fail
  go_loopw [9] (fun I wr => ∃ i : Nat, i ≤ n ∧ I = .int .i64 i ∧ Hid (Lp w3 b q0 wr)) (fun I _ => (intOf I).toNat)
  case atStart => exact ⟨n, by omega, rfl, H4⟩
  case round =>
    clear H4
    obtain ⟨i, hi, rfl, M0⟩ := hrel
    by_cases hlt : 0 < i
    · have d1 : decide ((0 : Int) < (i : Int)) = true := decide_eq_true (by omega)
      have e1 : (0 : Int) < (i : Int) := by omega
      obtain ⟨i2, rfl⟩ : ∃ i2, i = i2 + 1 := ⟨i - 1, by omega⟩
      have HT : Hid _ := M0.out.tick HM.out
      clear HR HU HD H3
      go_wp2_with fail
      refine Calls.mono HT.out ?_
      rintro e w5 ⟨⟨v, rfl⟩, h5⟩
      have H5 : Hid _ := h5
      clear h5 HT M0
      go_wp2_with fail
      refine ⟨⟨i2, by omega, ?_, H5⟩, ?_⟩
      · first | rfl | (simp; done) | (simp; omega)
      · simp [intOf]
    · have d1 : decide ((0 : Int) < (i : Int)) = false := decide_eq_false (by omega)
      obtain rfl : i = 0 := by omega
      obtain ⟨q1, h5, s5, kp⟩ := M0.out.at'
      have HF5 : Hid (Fr b w3 wr) := M0.out.fr
      have r0 : q1.rg 0 = s.R 0 := (kp.rg 0 (by decide)).trans (by rw [HQ0.out.rg])
      have rb := s.R_b 0
      have HOf : Hid _ := offd_of HQ0.out kp s5
      have HRd : Hid (∀ w, PxAt w b q1 → Calls Try.prog 20 #[.pointer (some ⟨b, 0, none⟩), .int .i64 65344] w fun e w' => e = .returned (.int .i64 (s.R 0)) ∧ w' = w) := fun w h => by
        have := readR_any 0 (by decide) 65344 (q1.rg 0) (by decide) (by rw [r0]; exact rb.1) (by rw [r0]; exact rb.2) w h (fun W h => rreg0_any W h)
        rw [r0] at this
        exact this
      have HP5 : Hid (PxAt wr b q1) := h5
      clear M0 h5 s5 kp hlt hi n1 n2 HQ0 r0
      generalize hL : s.R 0 = L at *
      have HL : Hid (s.R 0 = L) := hL
      clear hL
      obtain ⟨L0, L1⟩ := rb
      go_wp2_with fail
      refine (HRd.out _ HP5.out).mono ?_
      rintro e w' ⟨rfl, hw'⟩
      obtain rfl := hw'.symm
      clear HRd
      go_wp2_with fail
      refine (write_any 65345 120 _ HP5.out).mono ?_
      rintro e w6 ⟨rfl, h6, F6⟩
      have H6 : Hid (PxAt w6 b (q1.wr 65345 120) ∧ Fr b w3 w6) := ⟨h6, HF5.out.trans F6⟩
      clear h6 F6 HF5 HP5
      go_wp2_with fail
      refine (write_any 65344 (bits .and .i64 L 127) _ H6.out.1).mono ?_
      rintro e w7 ⟨rfl, h7, F7⟩
      have H7 : Hid (PxAt w7 b ((q1.wr 65345 120).wr 65344 (bits .and .i64 L 127)) ∧ Fr b w3 w7) := ⟨h7, H6.out.2.trans F7⟩
      clear h7 F7 H6
      generalize (q1.wr 65345 120).wr 65344 (bits .and .i64 L 127) = q3 at *
      go_wp2_with fail
      refine (HPm.out _).mono ?_
      rintro e w' ⟨rfl, hw'⟩
      obtain rfl := hw'.symm
      clear HPm
      go_wp2_with fail
      go_loopw [11] (fun I wr => ∃ i : Nat, i ≤ m ∧ I = .int .i64 i ∧ Hid (PxAt wr b q3 ∧ Fr b w3 wr)) (fun I _ => (intOf I).toNat)
      case atStart => exact ⟨m, by omega, rfl, H7⟩
      case round =>
        clear H7
        obtain ⟨i, hi, rfl, M1⟩ := hrel
        by_cases hlt : 0 < i
        · have d1 : decide ((0 : Int) < (i : Int)) = true := decide_eq_true (by omega)
          have e1 : (0 : Int) < (i : Int) := by omega
          obtain ⟨i2, rfl⟩ : ∃ i2, i = i2 + 1 := ⟨i - 1, by omega⟩
          have HT : Hid _ := HOf.out.tick HM.out wr M1.out.1
          have HF1 : Hid (Fr b w3 wr) := M1.out.2
          clear HR HU HD H3 M1
          go_wp2_with fail
          refine Calls.mono HT.out ?_
          rintro e w8 ⟨rfl, h8, F8⟩
          have H8 : Hid (PxAt w8 b q3 ∧ Fr b w3 w8) := ⟨h8, HF1.out.trans F8⟩
          clear h8 F8 HT HF1
          go_wp2_with fail
          refine ⟨⟨i2, by omega, ?_, H8⟩, ?_⟩
          · first | rfl | (simp; done) | (simp; omega)
          · simp [intOf]
        · have d1 : decide ((0 : Int) < (i : Int)) = false := decide_eq_false (by omega)
          obtain rfl : i = 0 := by omega
          clear hlt hi m1 m2
          have of := HOf.out.sane.off HOf.out.off
          have HLi : Hid _ := line_any HOf.out.sane.inn wr M1.out.1
          rw [of.1, of.2.1] at HLi
          have HLi2 : Hid (∀ w p, Sane p → PxAt w b p → p.rg 4 = 0 → p.clk = 0 → Calls Try.prog 23 #[.pointer (some ⟨b, 0, none⟩)] w fun e w' => e = .returned (.tuple #[.int .i64 0, .int .i64 0]) ∧ ∃ n, w' = w.drewN n) := fun w p sp hp h4 hc => by
            have := line_any sp.inn w hp
            rw [h4, hc] at this
            exact this
          have HR1 : Hid (∀ w, PxAt w b q3 → Calls Try.prog 20 #[.pointer (some ⟨b, 0, none⟩), .int .i64 65345] w fun e w' => e = .returned (.int .i64 252) ∧ ∃ n, w' = w.drewN n) := fun w h => by
            have := readStatR_any HOf.out.sane.inn w h
            rw [HOf.out.stat] at this
            exact this
          have HR4 : Hid (∀ w, PxAt w b q3 → Calls Try.prog 20 #[.pointer (some ⟨b, 0, none⟩), .int .i64 65348] w fun e w' => e = .returned (.int .i64 0) ∧ w' = w) := fun w h => by
            have := readR_any 4 (by decide) 65348 (q3.rg 4) (by decide) (by rw [of.1]; decide) (by rw [of.1]; decide) w h (fun W h => rreg4_any W h)
            rw [of.1] at this
            exact this
          have e0 : q3.rg 0 = bits .and .i64 L 127 := by rw [HOf.out.rg 0, if_pos rfl, HL.out]
          have HR0 : Hid (∀ w, PxAt w b q3 → Calls Try.prog 20 #[.pointer (some ⟨b, 0, none⟩), .int .i64 65344] w fun e w' => e = .returned (.int .i64 (bits .and .i64 L 127)) ∧ w' = w) := fun w h => by
            have a := and127 L L0 L1
            have := readR_any 0 (by decide) 65344 (q3.rg 0) (by decide) (by rw [e0]; exact a.1.1) (by rw [e0]; omega) w h (fun W h => rreg0_any W h)
            rw [e0] at this
            exact this
          have HFr : Hid (∀ w, PxAt w b q3 → Calls Try.prog 33 #[.pointer (some ⟨b, 0, none⟩)] w fun e w' => (∃ g, e = .returned (.slice (some ⟨g, 0, none⟩) 23040 23040) ∧ w.heap.size ≤ g ∧ NmAt w' g 23040 (fun _ => 0)) ∧ Up w w') := fun w h => (frame_any w h).mono fun e w' ⟨a1, a2, a3⟩ => ⟨⟨_, a1, Nat.le_refl _, a2.congr (fun k hk => of.2.2 k hk)⟩, a3⟩
          clear of e0
          go_wp2_with fail
          refine Calls.mono HLi.out ?_
          rintro e w8 ⟨rfl, m8, rfl⟩
          have u8 := Up.drewN wr m8
          generalize wr.drewN m8 = w8 at u8 ⊢
          have H8 : Hid (PxAt w8 b q3 ∧ Fr b w3 w8) := ⟨M1.out.1.up u8, M1.out.2.trans (Fr.ofUp u8)⟩
          clear u8 HLi M1
          go_wp2_with fail
          refine (HFr.out _ H8.out.1).mono ?_
          rintro e w9 ⟨⟨g, rfl, hg, n9⟩, u9⟩
          have H9 : Hid (PxAt w9 b q3 ∧ Fr b w3 w9 ∧ NmAt w9 g 23040 (fun _ => 0)) := ⟨H8.out.1.up u9, H8.out.2.trans (Fr.ofUp u9), n9⟩
          clear u9 n9 hg H8 HFr
          go_wp2_with fail
          go_loopw [16] (fun I wr => ∃ i : Nat, i ≤ 23040 ∧ I = .int .i64 i ∧ Hid (PxAt wr b q3 ∧ Fr b w3 wr ∧ NmAt wr g 23040 (fun _ => 0))) (fun I _ => 23040 - (intOf I).toNat)
          case atStart => exact ⟨0, by omega, rfl, H9⟩
          case round =>
            clear H9
            obtain ⟨i, hi, rfl, H9⟩ := hrel
            by_cases hlt : i < 23040
            · have d1 : decide ((i : Int) < 23040) = true := decide_eq_true (by omega)
              have e1 : (i : Int) < 23040 := by omega
              have kc := H9.out.2.2.cell i hlt
              clear HR HU HD H3
              go_wp2_with fail
              refine ⟨⟨i + 1, by omega, ?_, H9⟩, ?_⟩
              · first | rfl | (simp; done)
              · simp [intOf]
                omega
            · have d1 : decide ((i : Int) < 23040) = false := decide_eq_false (by omega)
              clear hlt hi
              go_wp2_with fail
              refine (HR1.out _ H9.out.1).mono ?_
              rintro e w10 ⟨rfl, m10, rfl⟩
              have u10 := Up.drewN wr m10
              generalize wr.drewN m10 = w10 at u10 ⊢
              have H10 : Hid (PxAt w10 b q3 ∧ Fr b w3 w10) := ⟨H9.out.1.up u10, H9.out.2.1.trans (Fr.ofUp u10)⟩
              clear u10 HR1
              go_wp2_with fail
              refine (HR4.out _ H10.out.1).mono ?_
              rintro e w' ⟨rfl, hw'⟩
              obtain rfl := hw'.symm
              clear HR4
              go_wp2_with fail
              refine (HR0.out _ H10.out.1).mono ?_
              rintro e w' ⟨rfl, hw'⟩
              obtain rfl := hw'.symm
              clear HR0
              go_wp2_with fail
              refine (write_any 65345 0 _ H10.out.1).mono ?_
              rintro e w11 ⟨rfl, h11, F11⟩
              have H11 : Hid (PxAt w11 b (q3.wr 65345 0) ∧ Fr b w3 w11) := ⟨h11, H10.out.2.trans F11⟩
              clear h11 F11 H10 H9
              go_wp2_with fail
              refine (write_any 65344 L _ H11.out.1).mono ?_
              rintro e w12 ⟨rfl, h12, F12⟩
              have hag := HOf.out.again
              rw [HL.out] at hag
              have H12 : Hid (PxAt w12 b ((q3.wr 65345 0).wr 65344 L) ∧ Fr b w3 w12 ∧ Scn s ((q3.wr 65345 0).wr 65344 L)) := ⟨h12, H11.out.2.trans F12, hag⟩
              clear h12 F12 H11 hag HOf
              generalize (q3.wr 65345 0).wr 65344 L = q5 at *
              have HL5 : Hid _ := HLi2.out _ _ H12.out.2.2.sane H12.out.1 H12.out.2.2.r4 H12.out.2.2.clk
              clear HLi2
              go_wp2_with fail
              refine Calls.mono HL5.out ?_
              rintro e w13 ⟨rfl, m13, rfl⟩
              have u13 := Up.drewN w12 m13
              generalize w12.drewN m13 = w13 at u13 ⊢
              have hp13 : PxAt w13 b q5 := H12.out.1.up u13
              have HO : Hid _ := oneS_any HM.out (N := 16416) rfl H12.out.2.2 w13 hp13
              have H13 : Hid (Fr b w3 w13 ∧ b < w13.heap.size) := ⟨H12.out.2.1.trans (Fr.ofUp u13), hp13.lt⟩
              clear hp13 u13 HL5 H12
              go_wp2_with fail
              refine Calls.mono HO.out ?_
              rintro e w14 ⟨⟨g2, rfl, hg2, n14⟩, _, F14⟩
              have F3 : Fr b w3 w14 := H13.out.1.trans F14
              have H14 : Hid (NmAt w14 g2 23040 (s.frame M) ∧ Up W w14) := ⟨n14, H1.out.trans (HU.out _ F3)⟩
              have HRs : Hid _ := HR.out _ (HU.out _ F3)
              clear n14 F14 F3 hg2 HO H13 HR HU H3
              go_wp2_with (refine wpList_load_mid rfl 37 _ rfl sb 0 rfl [.slice s.ra s.rl s.rc, .slice s.oa s.ol s.oc, .slice s.pa s.pl s.pc] _ HRs.out Try.underlying37 rfl (by kernel_rfl) ?_)
              refine (HSh.out _ (HD.out _ H14.out.2)).mono ?_
              rintro e w15 ⟨g3, rfl, hg3, n15, u15⟩
              have c1 := (H14.out.1.of_block (u15.block _ H14.out.1.lt)).conv 23040
              have c2 := n15.conv 23040
              have HUp : Hid (Up W w15) := H14.out.2.trans u15
              clear n15 u15 hg3 H14 HSh HD HRs
              generalize strN 23040 (s.frame M) = S at *
              go_wp2_with fail
              go_ret
              exact ⟨by first | rfl | (simp; done), HUp.out⟩
end Go.Proofs.Ytnbhifbenfgeeaa
