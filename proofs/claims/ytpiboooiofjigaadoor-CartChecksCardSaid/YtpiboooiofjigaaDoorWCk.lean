/- CartChecks: the walk. -/
import Derived.Test.YtpiboooiofjigaaDoorCcD
import Derived.Test.YtpiboooiofjigaaDoorCbR
namespace Go.Proofs.YtpiboooiofjigaaDoor
open Go.Shelf Go.RowKit
set_option linter.unusedVariables false
set_option linter.unusedSimpArgs false
variable {W : World}
theorem check_first {N : Nat} (hN : N = 65536) {w : World} {g : Nat} (hT : Tb w) (h : By w g N (romF ((3 : Nat) : Int) ((1 : Nat) : Int) ((3 : Nat) : Int) 0)) : Calls Tryd.prog 13 #[.slice (some ⟨g, 0, none⟩) N N] w fun e w' => ∃ t a b c d q, e = .returned (.tuple #[.agg #[.string t, .int .i64 a, .int .i64 b, .int .i64 c, .int .i64 d, .bool q], .int .i64 0]) ∧ Up w w' := by
  refine (check_any hT h (by omega) (by omega) (Nat.le_refl _) (by omega) (romF_byte _ _ _ _)).mono ?_
  rintro e w' ⟨R, b, mk, hr, hm, u, hcs⟩
  obtain ⟨rfl, h0, _, _⟩ := fault_none (n := N) (R0 := ⟨3, 1, 128, 2, 3, true⟩) (by simp [rowsT]) rfl (by decide) (by decide) (by decide) (by decide) (by rw [hN]) (by decide) (by decide) hr hm
  rcases hcs with ⟨h1, _⟩ | ⟨_, m, _, he⟩
  · exact absurd h0 h1
  · exact ⟨_, _, _, _, _, _, he, u⟩
set_option maxRecDepth 100000 in
set_option maxHeartbeats 2000000 in
theorem checks_walk {oa : Option Addr} {ob oo on oc : Nat} {q : Nat → Bx} (hT : Tb W) (hO : Boxes W oa ob oo on oc q) : Calls Tryd.prog 3 #[.slice oa on oc] W fun e w' => e = .returned (.bool true) ∧ Up W w' := by
  have HTb : Hid (Tb W) := hT
  have HO : Hid (Boxes W oa ob oo on oc q) := hO
  have olc := hO.lc
  have ocm : oc ≤ 9223372036854775807 := by have := hO.cm; unfold maxLen at this; omega
  obtain ⟨M, hM⟩ : ∃ M : Nat, M = 65536 := ⟨_, rfl⟩
  have HM : Hid (M = 65536) := hM
  have HRo : Hid (∀ w, Calls Tryd.prog 12 #[.agg #[.int .i64 3, .int .i64 1, .int .i64 3, .int .i64 0, .int .i64 0, .slice none 0 0, .slice none 0 0, .bool false]] w fun e w' => ∃ g, e = .returned (.slice (some ⟨g, 0, none⟩) M M) ∧ w.heap.size ≤ g ∧ By w' g M (romF ((3 : Nat) : Int) ((1 : Nat) : Int) ((3 : Nat) : Int) 0) ∧ Up w w') := fun w => rom_any (W := w) (c := 1) (ty := 3) (rc := 1) (rm := 3) (sd := 0) (by rw [HM.out]) ⟨by decide, by decide⟩ ⟨by decide, by decide⟩ ⟨by decide, by decide⟩ ⟨by decide, by decide⟩ (by decide)
  have HCk : Hid (∀ w g, Tb w → By w g M (romF ((3 : Nat) : Int) ((1 : Nat) : Int) ((3 : Nat) : Int) 0) → Calls Tryd.prog 13 #[.slice (some ⟨g, 0, none⟩) M M] w fun e w' => ∃ t a b c d q, e = .returned (.tuple #[.agg #[.string t, .int .i64 a, .int .i64 b, .int .i64 c, .int .i64 d, .bool q], .int .i64 0]) ∧ Up w w') := fun w g ht hb => check_first HM.out ht hb
  have HCd : Hid (∀ w g, Tb w → By w g M (romF ((3 : Nat) : Int) ((1 : Nat) : Int) ((3 : Nat) : Int) 0) → Calls Tryd.prog 11 #[.slice (some ⟨g, 0, none⟩) M M] w fun e w' => e = .returned (.bool true) ∧ Up w w') := fun w g ht hb => checked_any ht hb (romF_byte _ _ _ _) (by rw [HM.out]; decide) (by rw [HM.out]; decide)
  generalize romF ((3 : Nat) : Int) ((1 : Nat) : Int) ((3 : Nat) : Int) 0 = FX at HRo HCk HCd
  clear hT hO hM
  go_enter Tryd.func3, Tryd.ntmps3
  go_wp2_with fail
  refine (HRo.out _).mono ?_
  rintro e w1 ⟨g1, rfl, _, hb1, u1⟩
  have H1 : Hid (By w1 g1 M FX ∧ Up W w1) := ⟨hb1, u1⟩
  clear hb1 u1
  go_wp2_with fail
  refine (HCd.out _ _ (HTb.out.up H1.out.2) H1.out.1).mono ?_
  rintro e w2 ⟨rfl, u2⟩
  have H2 : Hid (Up W w2) := H1.out.2.trans u2
  clear u2 H1
  go_wp2_with fail
  refine (HRo.out _).mono ?_
  rintro e w3 ⟨g3, rfl, _, hb3, u3⟩
  have H3 : Hid (By w3 g3 M FX ∧ Up W w3) := ⟨hb3, H2.out.trans u3⟩
  clear hb3 u3 H2
  go_wp2_with fail
  refine (HCk.out _ _ (HTb.out.up H3.out.2) H3.out.1).mono ?_
  rintro e w4 ⟨t, a, b, c, d, qq, rfl, u4⟩
  have H4 : Hid (Up W w4) := H3.out.2.trans u4
  clear u4 H3 HRo HCk HCd
  go_wp2_with fail
  have H5 : Hid (∀ x, Up W (w4.alloc x)) := fun x => H4.out.alloc x
  go_loopw [3, 6] (fun B I wr => ∃ i : Nat, i ≤ on ∧ i ≤ 6 ∧ I = .int .i64 (i : Int) ∧ B = .bool true ∧ Hid (Up W wr)) (fun _ I _ => 6 - (intOf I).toNat)
  case atStart => exact ⟨0, Nat.zero_le _, Nat.zero_le _, rfl, by first | rfl | (simp; done), H5.out _⟩
  case round =>
    clear H4 H5
    obtain ⟨i, hi, hi6, rfl, rfl, HU⟩ := hrel
    by_cases hlt : i < on ∧ i < 6
    · have e1 : (i : Int) < (on : Int) := by omega
      have e2 : (i : Int) < 6 := by omega
      obtain rfl : oa = some ⟨ob, oo, none⟩ := HO.out.ad (by omega)
      have HX : Hid (BxAt W (q i)) := HO.out.box i hlt.1
      have HC : Hid (wr.rangeAt ob (oo + i * 8) (q i).cells) := range_up HU.out (HO.out.cell i hlt.1)
      generalize q i = Q at HX HC
      obtain ⟨bty, brc, brm, bsd, bmo, bpa, bpb, bpo, bpn, bpc, bpf, bba, bbb, bbo, bbn, bbc, bbf, braw⟩ := Q
      have k0 : wr.cell? ⟨ob, oo + i * 8, none⟩ = some (.int .i64 bty) := HC.out 0 _ rfl
      have k1 : wr.cell? ⟨ob, oo + i * 8 + 1, none⟩ = some (.int .i64 brc) := HC.out 1 _ rfl
      have k2 : wr.cell? ⟨ob, oo + i * 8 + 2, none⟩ = some (.int .i64 brm) := HC.out 2 _ rfl
      have k3 : wr.cell? ⟨ob, oo + i * 8 + 3, none⟩ = some (.int .i64 bsd) := HC.out 3 _ rfl
      have k4 : wr.cell? ⟨ob, oo + i * 8 + 4, none⟩ = some (.int .i64 bmo) := HC.out 4 _ rfl
      have k5 : wr.cell? ⟨ob, oo + i * 8 + 5, none⟩ = some (.slice bpa bpn bpc) := HC.out 5 _ rfl
      have k6 : wr.cell? ⟨ob, oo + i * 8 + 6, none⟩ = some (.slice bba bbn bbc) := HC.out 6 _ rfl
      have k7 : wr.cell? ⟨ob, oo + i * 8 + 7, none⟩ = some (.bool braw) := HC.out 7 _ rfl
      have HRm : Hid (Calls Tryd.prog 12 #[.agg #[.int .i64 bty, .int .i64 brc, .int .i64 brm, .int .i64 bsd, .int .i64 bmo, .slice bpa bpn bpc, .slice bba bbn bbc, .bool braw]] wr (RomAns wr)) := romG_any HX.out.i1 HX.out.i2 HX.out.i3 HX.out.i4 HX.out.i5 (HX.out.hP.upI HU.out) (HX.out.hB.upI HU.out)
      clear HX HC
      go_wp2_with fail
      refine Calls.mono HRm.out ?_
      rintro e w5 ⟨g, N, f, rfl, hg, hb, h8, n1, n2, u5⟩
      have H6 : Hid (Up W w5) := HU.out.trans u5
      have HCc : Hid (Calls Tryd.prog 11 #[.slice (some ⟨g, 0, none⟩) N N] w5 fun e w' => e = .returned (.bool true) ∧ Up w5 w') := checked_any (HTb.out.up H6.out) hb h8 n1 n2
      clear hg hb h8 u5 HU HRm k0 k1 k2 k3 k4 k5 k6 k7
      go_wp2_with fail
      refine Calls.mono HCc.out ?_
      rintro e w6 ⟨rfl, u6⟩
      have H7 : Hid (Up W w6) := H6.out.trans u6
      clear u6 H6 HCc
      go_wp2_with fail
      go_round
      case rel => exact ⟨i + 1, by omega, by omega, by go_num, rfl, H7⟩
      case measure => simp [intOf]; omega
    · have hz : ¬ (i : Int) < (on : Int) ∨ ((i : Int) < (on : Int) ∧ ¬ (i : Int) < 6) := by omega
      rcases hz with hz | ⟨hz, hz2⟩
      · go_wp2_with fail
        go_ret
        exact ⟨by first | rfl | (simp; done), HU.out⟩
      · go_wp2_with fail
        go_ret
        exact ⟨by first | rfl | (simp; done), HU.out⟩
end Go.Proofs.YtpiboooiofjigaaDoor
