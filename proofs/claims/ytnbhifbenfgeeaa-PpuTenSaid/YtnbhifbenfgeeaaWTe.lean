/- PpuTen: the walk. -/
import Derived.Test.YtnbhifbenfgeeaaKTe
namespace Go.Proofs.Ytnbhifbenfgeeaa
open Go.RowKit
set_option linter.unusedVariables false
variable {b : Nat} {p : Pic}
set_option maxRecDepth 100000 in
set_option maxHeartbeats 4000000 in
theorem ten_walk {W : World} {ta ca ma : Option Addr} {tb to' tl tc cb co cl cc mb mo ml mc : Nat} {f fc fm : Nat → Int} {r0 : Int} (D : Byts W ta tb to' tl tc f) (hr : I64 r0) (E : Byts W ca cb co cl cc fc) (K : Byts W ma mb mo ml mc fm) :
    Calls Try.prog 12 #[.slice ta tl tc, .int .i64 r0, .slice ca cl cc, .slice ma ml mc] W fun e w' => e = .returned (.bool true) ∧ Up W w' := by
  obtain ⟨M, hM⟩ : ∃ M, M = 40 := ⟨_, rfl⟩
  have HM : Hid (M = 40) := hM
  clear hM
  have HPr : Hid (∀ W, Calls Try.prog 19 #[.int .i64 r0, .int .i64 130] W fun e w' => e = .returned (.int .i64 (pickI r0 130)) ∧ w' = W) := fun W => pick_any r0 130 W hr (by decide) (by decide)
  have r1 := pickI_lo r0 130 (by decide)
  have r2 := pickI_hi r0 130 (by decide)
  have HD : Hid (∀ w', Up W w' → Byts w' ta tb to' tl tc f) := fun w' u => D.upS u
  have HE : Hid (∀ w', Up W w' → Byts w' ca cb co cl cc fc) := fun w' u => E.upS u
  have HK : Hid (∀ w', Up W w' → Byts w' ma mb mo ml mc fm) := fun w' u => K.upS u
  have c1 := E.lc
  have c2 : cc ≤ 9223372036854775807 := by have := E.cm; unfold maxLen at this; omega
  have k1 := K.lc
  have k2 : mc ≤ 9223372036854775807 := by have := K.cm; unfold maxLen at this; omega
  have HG : Hid (∀ m, 0 ≤ tileOf tl f m ∧ tileOf tl f m ≤ 255) := tileOf_b D.u8
  have HC : Hid (∀ k, 0 ≤ colsOf cl fc k ∧ colsOf cl fc k ≤ 255) := fun k => by
    unfold colsOf
    split
    · exact E.u8 k
    · decide
  have HY : Hid (∀ k, 0 ≤ fm k ∧ fm k ≤ 255) := K.u8
  clear D E K hr
  generalize pickI r0 130 = RI at *
  have ew : IntKind.u8.wrap (16 + RI) = 16 + RI := by simp [IntKind.wrap, IntKind.bits, IntKind.signed]; omega
  obtain ⟨r, hrr⟩ : ∃ r, r = 16 + RI := ⟨_, rfl⟩
  have rb : 0 ≤ r ∧ r ≤ 255 := by omega
  have HRB : Hid (0 ≤ r ∧ r ≤ 255) := rb
  have hie : Try.prog.info? 5 = some Try.t5 := by kernel_rfl
  go_enter Try.func12, Try.ntmps12
  go_wp2_with fail
  refine (HPr.out _).mono ?_
  rintro e w' ⟨rfl, hw'⟩
  obtain rfl := hw'.symm
  clear HPr
  go_wp2_with fail
  try rw [ew]
  rw [← hrr]
  clear ew hrr r1 r2 rb
  have H0 : Hid (Ow W (tenF r (colsOf cl fc)) 0 (.slice none 0 0) W) := ⟨World.ownsRow_nil _ _ _ _, Up.refl W⟩
  go_loopw [10, 11] (fun V I wr => ∃ i : Nat, i ≤ 10 ∧ I = .int .i64 i ∧ Hid (Ow W (tenF r (colsOf cl fc)) (4 * i) V wr)) (fun _ I _ => 10 - (intOf I).toNat)
  case atStart => exact ⟨0, by omega, rfl, H0⟩
  case round =>
    clear H0
    obtain ⟨i, hi, rfl, M0⟩ := hrel
    by_cases hlt : i < 10
    · have d1 : decide ((i : Int) < 10) = true := decide_eq_true (by omega)
      have e1 : (i : Int) < 10 := by omega
      have HN : Hid (rowL (tenF r (colsOf cl fc)) (4 * (i + 1)) = rowL (tenF r (colsOf cl fc)) (4 * i) ++ [.int .u8 r, .int .u8 (colsOf cl fc i), .int .u8 1, .int .u8 0]) := by
        show _ = _
        rw [show 4 * (i + 1) = 4 * i + 4 by omega, rowL_four]
        have a0 : tenF r (colsOf cl fc) (4 * i) = r := by unfold tenF; rw [if_pos (by omega)]
        have a1 : tenF r (colsOf cl fc) (4 * i + 1) = colsOf cl fc i := by unfold tenF; rw [if_neg (by omega), if_pos (by omega), show (4 * i + 1) / 4 = i by omega]
        have a2 : tenF r (colsOf cl fc) (4 * i + 2) = 1 := by unfold tenF; rw [if_neg (by omega), if_neg (by omega), if_pos (by omega)]
        have a3 : tenF r (colsOf cl fc) (4 * i + 3) = 0 := by unfold tenF; rw [if_neg (by omega), if_neg (by omega), if_neg (by omega)]
        rw [a0, a1, a2, a3]
      have HSz : Hid (W.heap.size ≤ wr.heap.size) := M0.out.up.size
      by_cases hc : i < cl
      · have d2 : decide ((i : Int) < (cl : Int)) = true := decide_eq_true (by omega)
        have e2 : (i : Int) < (cl : Int) := by omega
        have bc := HE.out wr M0.out.up
        obtain rfl := bc.ad (by omega)
        have kc := bc.cell i hc
        have ec : colsOf cl fc i = fc i := if_pos hc
        rw [ec] at HN
        clear bc ec
        go_wp2_with (at_builtin; refine wpList_append_own _ rfl _ _ 23 rfl W.heap.size 5 Try.t5 (.int .u8 0) 1 1 Try.underlying23 hie rfl rfl rfl rfl (by decide) _ _ _ rfl (M0.out.own.alloc _) ⟨wr.heap.size, 0, none⟩ 4 4 [.int .u8 r, .int .u8 (fc i), .int .u8 1, .int .u8 0] rfl rfl ?c1 ?c2 ?c3 ?c4 ?c5 ?_)
        case c1 =>
          intro j u hu
          match j, hu with
          | 0, hu => simp at hu; subst hu; simp [Addr.add]
          | 1, hu => simp at hu; subst hu; simp [Addr.add]
          | 2, hu => simp at hu; subst hu; simp [Addr.add]
          | 3, hu => simp at hu; subst hu; simp [Addr.add]
        case c2 => intro u hu; simp at hu; rcases hu with rfl | rfl | rfl | rfl <;> rfl
        case c3 => unfold maxLen; omega
        case c4 => omega
        case c5 => have := HSz.out; simp; omega
        · intro v' w1 hown' hgrow _
          have HA : Hid (Ow W (tenF r (colsOf cl fc)) (4 * (i + 1)) v' w1) := M0.out.app hgrow (by rw [HN.out, show 4 * (i + 1) = 4 * i + 4 by omega]; exact hown')
          clear hgrow hown' M0 HN
          go_wp2_with fail
          refine ⟨⟨i + 1, by omega, ?_, HA⟩, ?_⟩
          · first | rfl | (simp; done)
          · simp [intOf]
            omega
      · have d2 : decide ((i : Int) < (cl : Int)) = false := decide_eq_false (by omega)
        have ec : colsOf cl fc i = 0 := if_neg hc
        rw [ec] at HN
        clear ec
        go_wp2_with (at_builtin; refine wpList_append_own _ rfl _ _ 23 rfl W.heap.size 5 Try.t5 (.int .u8 0) 1 1 Try.underlying23 hie rfl rfl rfl rfl (by decide) _ _ _ rfl (M0.out.own.alloc _) ⟨wr.heap.size, 0, none⟩ 4 4 [.int .u8 r, .int .u8 0, .int .u8 1, .int .u8 0] rfl rfl ?c1 ?c2 ?c3 ?c4 ?c5 ?_)
        case c1 =>
          intro j u hu
          match j, hu with
          | 0, hu => simp at hu; subst hu; simp [Addr.add]
          | 1, hu => simp at hu; subst hu; simp [Addr.add]
          | 2, hu => simp at hu; subst hu; simp [Addr.add]
          | 3, hu => simp at hu; subst hu; simp [Addr.add]
        case c2 => intro u hu; simp at hu; rcases hu with rfl | rfl | rfl | rfl <;> rfl
        case c3 => unfold maxLen; omega
        case c4 => omega
        case c5 => have := HSz.out; simp; omega
        · intro v' w1 hown' hgrow _
          have HA : Hid (Ow W (tenF r (colsOf cl fc)) (4 * (i + 1)) v' w1) := M0.out.app hgrow (by rw [HN.out, show 4 * (i + 1) = 4 * i + 4 by omega]; exact hown')
          clear hgrow hown' M0 HN
          go_wp2_with fail
          refine ⟨⟨i + 1, by omega, ?_, HA⟩, ?_⟩
          · first | rfl | (simp; done)
          · simp [intOf]
            omega
    · have d1 : decide ((i : Int) < 10) = false := decide_eq_false (by omega)
      have ei : i = 10 := by omega
      subst ei
      obtain ⟨oa, ob, oc, rfl, hby, hob⟩ := own_byts M0.out.own (tenF_b HRB.out HC.out)
      obtain ⟨hob1, rfl, hob3⟩ := hob (by omega)
      have hol := World.block_lt_of_cell? _ _ (hby.cell 0 (by omega))
      have HB1 : Hid (Byts wr (some ⟨ob, 0, none⟩) ob 0 40 oc (tenF r (colsOf cl fc))) := hby
      have HU1 : Hid (Up W wr) := M0.out.up
      clear hby hob hob1 hob3 M0 d1 hlt hi
      obtain ⟨w5, hw5⟩ : ∃ w5, w5 = wr := ⟨_, rfl⟩
      have HN0 : Hid (rowL (allF r (colsOf cl fc) fm) 40 = rowL (tenF r (colsOf cl fc)) 40) := rowL_congr 40 (fun k hk => by unfold allF; rw [if_pos hk])
      have HZ : Hid (∀ v' w1, wr.grownBy w1 none → w1.ownsRow wr.heap.size 5 1 v' (0 + 40) ([] ++ rowL (tenF r (colsOf cl fc)) 40) → Ow wr (allF r (colsOf cl fc) fm) (40 + 4 * 0) v' w1) := fun v' w1 hg ho => by
        refine ⟨?_, ⟨hg.os, hg.output, hg.size, fun k hk => hg.block k hk (by simp)⟩⟩
        show w1.ownsRow wr.heap.size 5 1 v' 40 (rowL (allF r (colsOf cl fc) fm) 40)
        rw [HN0.out]
        exact ho
      have HL40 : Hid ((rowL (tenF r (colsOf cl fc)) 40).length = 40 * 1) := rowL_len _ 40
      have HO40 : Hid (∀ v ∈ rowL (tenF r (colsOf cl fc)) 40, v.oneCell' = true) := rowL_one _ 40
      have HA40 : Hid (∀ j u, (rowL (tenF r (colsOf cl fc)) 40)[j]? = some u → wr.cell? ((⟨ob, 0, none⟩ : Addr).add j) = some u) := fun j u hu => by
        have hj : j < 40 := by
          have := (List.getElem?_eq_some_iff.1 hu).1
          rw [rowL_len] at this
          exact this
        rw [rowL_at _ 40 j hj] at hu
        rw [Addr.add_lit, ← hu]
        exact HB1.out.cell j hj
      generalize rowL (tenF r (colsOf cl fc)) 40 = XL at *
      go_wp2_with (at_builtin; refine wpList_append_own _ rfl _ _ 23 rfl wr.heap.size 5 Try.t5 (.int .u8 0) 1 1 Try.underlying23 hie rfl rfl rfl rfl (by decide) (.slice none 0 0) 0 [] rfl (World.ownsRow_nil _ _ _ _) ⟨ob, 0, none⟩ 40 oc XL rfl HL40.out HA40.out HO40.out (by unfold maxLen; omega) (by omega) (Nat.le_refl _) ?_; intro v' w1 hown' hgrow _)
      have HA : Hid (Ow wr (allF r (colsOf cl fc) fm) (40 + 4 * 0) v' w1) := HZ.out v' w1 hgrow hown'
      clear hgrow hown' HZ HL40 HO40 HA40 HN0
      rw [← hw5] at HA HB1 HU1 hol
      clear hw5
      go_loopw [13, 14] (fun V I wr => ∃ j : Nat, j ≤ 30 ∧ j ≤ ml ∧ I = .int .i64 j ∧ Hid (Ow w5 (allF r (colsOf cl fc) fm) (40 + 4 * j) V wr)) (fun _ I _ => 30 - (intOf I).toNat)
      case atStart => exact ⟨0, by omega, by omega, rfl, HA⟩
      case round =>
        clear HA
        obtain ⟨j, hj, hjm, rfl, M1⟩ := hrel
        by_cases h1 : j < ml
        · have d2 : decide ((j : Int) < (ml : Int)) = true := decide_eq_true (by omega)
          have e2 : (j : Int) < (ml : Int) := by omega
          by_cases h2 : j < 30
          · have d3 : decide ((j : Int) < 30) = true := decide_eq_true (by omega)
            have HN : Hid (rowL (allF r (colsOf cl fc) fm) (40 + 4 * (j + 1)) = rowL (allF r (colsOf cl fc) fm) (40 + 4 * j) ++ [.int .u8 r, .int .u8 (fm j), .int .u8 1, .int .u8 16]) := by
              show _ = _
              rw [show 40 + 4 * (j + 1) = 40 + 4 * j + 4 by omega, rowL_four]
              have a0 : allF r (colsOf cl fc) fm (40 + 4 * j) = r := by unfold allF; rw [if_neg (by omega), if_pos (by omega)]
              have a1 : allF r (colsOf cl fc) fm (40 + 4 * j + 1) = fm j := by unfold allF; rw [if_neg (by omega), if_neg (by omega), if_pos (by omega), show (40 + 4 * j + 1) / 4 - 10 = j by omega]
              have a2 : allF r (colsOf cl fc) fm (40 + 4 * j + 2) = 1 := by unfold allF; rw [if_neg (by omega), if_neg (by omega), if_neg (by omega), if_pos (by omega)]
              have a3 : allF r (colsOf cl fc) fm (40 + 4 * j + 3) = 16 := by unfold allF; rw [if_neg (by omega), if_neg (by omega), if_neg (by omega), if_neg (by omega)]
              rw [a0, a1, a2, a3]
            have HSz : Hid (w5.heap.size ≤ wr.heap.size) := M1.out.up.size
            have bc := HK.out wr (HU1.out.trans M1.out.up)
            obtain rfl := bc.ad (by omega)
            have kc := bc.cell j h1
            clear bc
            go_wp2_with (at_builtin; refine wpList_append_own _ rfl _ _ 23 rfl w5.heap.size 5 Try.t5 (.int .u8 0) 1 1 Try.underlying23 hie rfl rfl rfl rfl (by decide) _ _ _ rfl (M1.out.own.alloc _) ⟨wr.heap.size, 0, none⟩ 4 4 [.int .u8 r, .int .u8 (fm j), .int .u8 1, .int .u8 16] rfl rfl ?c1 ?c2 ?c3 ?c4 ?c5 ?_)
            case c1 =>
              intro j u hu
              match j, hu with
              | 0, hu => simp at hu; subst hu; simp [Addr.add]
              | 1, hu => simp at hu; subst hu; simp [Addr.add]
              | 2, hu => simp at hu; subst hu; simp [Addr.add]
              | 3, hu => simp at hu; subst hu; simp [Addr.add]
            case c2 => intro u hu; simp at hu; rcases hu with rfl | rfl | rfl | rfl <;> rfl
            case c3 => unfold maxLen; omega
            case c4 => omega
            case c5 => have := HSz.out; simp; omega
            · intro v' w1 hown' hgrow _
              have HA : Hid (Ow w5 (allF r (colsOf cl fc) fm) (40 + 4 * (j + 1)) v' w1) := M1.out.app hgrow (by rw [HN.out, show 40 + 4 * (j + 1) = 40 + 4 * j + 4 by omega]; exact hown')
              clear hgrow hown' M1 HN
              go_wp2_with fail
              refine ⟨⟨j + 1, by omega, by omega, ?_, HA⟩, ?_⟩
              · first | rfl | (simp; done)
              · simp [intOf]
                omega
          · have d3 : decide ((j : Int) < 30) = false := decide_eq_false (by omega)
            obtain ⟨oa2, ob2, oc2, rfl, hby2, _⟩ := own_byts M1.out.own (allF_b HRB.out HC.out HY.out)
            have HF : Hid (Up W wr ∧ Up w5 wr) := ⟨HU1.out.trans M1.out.up, M1.out.up⟩
            have HLo : Hid (∀ w oa ol oc, Up W w → Calls Try.prog 31 #[.slice ta tl tc, .slice oa ol oc] w fun e w' => ∃ rg pb tb ty, e = .returned (.agg #[.slice (some ⟨rg, 0, none⟩) 12 12, .slice oa ol oc, .slice (some ⟨pb, 0, none⟩) 1 1]) ∧ RgAt w' rg loneR ∧ NmAt w' tb 16 (tileOf tl f) ∧ w'.heap[pb]? = some (.cells #[.int .i64 16, .slice (some ⟨tb, 0, none⟩) 16 16] ty (0, 0)) ∧ Up w w') := fun w oa ol oc u => lone_any (HD.out w u) oa ol oc
            have HS1 : Hid (∀ (w : World) (rg pb tb : Nat) (ty : TypeId), Up wr w → RgAt w rg loneR → NmAt w tb 16 (tileOf tl f) → w.heap[pb]? = some (.cells #[.int .i64 16, .slice (some ⟨tb, 0, none⟩) 16 16] ty (0, 0)) → Calls Try.prog 26 #[.agg #[.slice (some ⟨rg, 0, none⟩) 12 12, .slice (some ⟨ob, 0, none⟩) 40 oc, .slice (some ⟨pb, 0, none⟩) 1 1]] w fun e w' => ∃ g, e = .returned (.tuple #[.slice (some ⟨g, 0, none⟩) 23040 23040, .bool true]) ∧ w.heap.size ≤ g ∧ NmAt w' g 23040 (fun i => ptT M (loneV (tileOf tl f)) (oamTo (tenF r (colsOf cl fc)) 40 160) loneR (i / 160) (i % 160)) ∧ Up w w') := fun w rg pb tb ty u a1 a2 a3 => tenShot_any HM.out HG.out a1 a2 a3 (HB1.out.upS (HF.out.2.trans u))
            have HS2 : Hid (∀ (w : World) (rg pb tb : Nat) (ty : TypeId), Up wr w → RgAt w rg loneR → NmAt w tb 16 (tileOf tl f) → w.heap[pb]? = some (.cells #[.int .i64 16, .slice (some ⟨tb, 0, none⟩) 16 16] ty (0, 0)) → Calls Try.prog 26 #[.agg #[.slice (some ⟨rg, 0, none⟩) 12 12, .slice oa2 (40 + 4 * j) oc2, .slice (some ⟨pb, 0, none⟩) 1 1]] w fun e w' => ∃ g, e = .returned (.tuple #[.slice (some ⟨g, 0, none⟩) 23040 23040, .bool true]) ∧ w.heap.size ≤ g ∧ NmAt w' g 23040 (fun i => ptT M (loneV (tileOf tl f)) (oamTo (allF r (colsOf cl fc) fm) (40 + 4 * j) 160) loneR (i / 160) (i % 160)) ∧ Up w w') := fun w rg pb tb ty u a1 a2 a3 => tenShot_any HM.out HG.out a1 a2 a3 (hby2.upS u)
            clear hby2 M1
            go_wp2_with fail
            refine (HLo.out _ _ _ _ HF.out.1).mono ?_
            rintro e w6 ⟨rg, pb, tb2, ty, rfl, R6, N6, P6, u6⟩
            have H6 : Hid (RgAt w6 rg loneR ∧ NmAt w6 tb2 16 (tileOf tl f) ∧ w6.heap[pb]? = some (.cells #[.int .i64 16, .slice (some ⟨tb2, 0, none⟩) 16 16] ty (0, 0)) ∧ Up wr w6) := ⟨R6, N6, P6, u6⟩
            clear R6 N6 P6 u6
            go_wp2_with fail
            refine (HS1.out _ _ _ _ _ H6.out.2.2.2 H6.out.1 H6.out.2.1 H6.out.2.2.1).mono ?_
            rintro e w7 ⟨g1, rfl, _, n7, u7⟩
            have H7 : Hid (NmAt w7 g1 23040 (fun i => ptT M (loneV (tileOf tl f)) (oamTo (tenF r (colsOf cl fc)) 40 160) loneR (i / 160) (i % 160)) ∧ Up wr w7) := ⟨n7, H6.out.2.2.2.trans u7⟩
            clear n7 u7 H6
            go_wp2_with fail
            refine (HLo.out _ _ _ _ (HF.out.1.trans H7.out.2)).mono ?_
            rintro e w8 ⟨rg2, pb2, tb3, ty2, rfl, R8, N8, P8, u8⟩
            have H8 : Hid (RgAt w8 rg2 loneR ∧ NmAt w8 tb3 16 (tileOf tl f) ∧ w8.heap[pb2]? = some (.cells #[.int .i64 16, .slice (some ⟨tb3, 0, none⟩) 16 16] ty2 (0, 0)) ∧ Up w7 w8) := ⟨R8, N8, P8, u8⟩
            clear R8 N8 P8 u8
            go_wp2_with fail
            refine (HS2.out _ _ _ _ _ (H7.out.2.trans H8.out.2.2.2) H8.out.1 H8.out.2.1 H8.out.2.2.1).mono ?_
            rintro e w9 ⟨g2, rfl, _, n9, u9⟩
            have u79 := H8.out.2.2.2.trans u9
            have s1 := (H7.out.1.of_block (u79.block _ H7.out.1.lt)).convT 23040
            have s2 := n9.convT 23040
            have ee : (fun i => ptT M (loneV (tileOf tl f)) (oamTo (tenF r (colsOf cl fc)) 40 160) loneR (i / 160) (i % 160)) = (fun i => ptT M (loneV (tileOf tl f)) (oamTo (allF r (colsOf cl fc) fm) (40 + 4 * j) 160) loneR (i / 160) (i % 160)) := funext fun i => ten_all HM.out (tileOf tl f) r (colsOf cl fc) fm j _ _
            rw [ee] at s1
            have HUp : Hid (Up W w9) := (HF.out.1.trans H7.out.2).trans u79
            clear ee n9 u9 u79 H7 H8 HS1 HS2 HLo HF
            generalize strT 23040 _ = S at *
            go_wp2_with fail
            go_ret
            exact ⟨by first | rfl | (simp; done), HUp.out⟩
        · have d2 : decide ((j : Int) < (ml : Int)) = false := decide_eq_false (by omega)
          obtain ⟨oa2, ob2, oc2, rfl, hby2, _⟩ := own_byts M1.out.own (allF_b HRB.out HC.out HY.out)
          have HF : Hid (Up W wr ∧ Up w5 wr) := ⟨HU1.out.trans M1.out.up, M1.out.up⟩
          have HLo : Hid (∀ w oa ol oc, Up W w → Calls Try.prog 31 #[.slice ta tl tc, .slice oa ol oc] w fun e w' => ∃ rg pb tb ty, e = .returned (.agg #[.slice (some ⟨rg, 0, none⟩) 12 12, .slice oa ol oc, .slice (some ⟨pb, 0, none⟩) 1 1]) ∧ RgAt w' rg loneR ∧ NmAt w' tb 16 (tileOf tl f) ∧ w'.heap[pb]? = some (.cells #[.int .i64 16, .slice (some ⟨tb, 0, none⟩) 16 16] ty (0, 0)) ∧ Up w w') := fun w oa ol oc u => lone_any (HD.out w u) oa ol oc
          have HS1 : Hid (∀ (w : World) (rg pb tb : Nat) (ty : TypeId), Up wr w → RgAt w rg loneR → NmAt w tb 16 (tileOf tl f) → w.heap[pb]? = some (.cells #[.int .i64 16, .slice (some ⟨tb, 0, none⟩) 16 16] ty (0, 0)) → Calls Try.prog 26 #[.agg #[.slice (some ⟨rg, 0, none⟩) 12 12, .slice (some ⟨ob, 0, none⟩) 40 oc, .slice (some ⟨pb, 0, none⟩) 1 1]] w fun e w' => ∃ g, e = .returned (.tuple #[.slice (some ⟨g, 0, none⟩) 23040 23040, .bool true]) ∧ w.heap.size ≤ g ∧ NmAt w' g 23040 (fun i => ptT M (loneV (tileOf tl f)) (oamTo (tenF r (colsOf cl fc)) 40 160) loneR (i / 160) (i % 160)) ∧ Up w w') := fun w rg pb tb ty u a1 a2 a3 => tenShot_any HM.out HG.out a1 a2 a3 (HB1.out.upS (HF.out.2.trans u))
          have HS2 : Hid (∀ (w : World) (rg pb tb : Nat) (ty : TypeId), Up wr w → RgAt w rg loneR → NmAt w tb 16 (tileOf tl f) → w.heap[pb]? = some (.cells #[.int .i64 16, .slice (some ⟨tb, 0, none⟩) 16 16] ty (0, 0)) → Calls Try.prog 26 #[.agg #[.slice (some ⟨rg, 0, none⟩) 12 12, .slice oa2 (40 + 4 * j) oc2, .slice (some ⟨pb, 0, none⟩) 1 1]] w fun e w' => ∃ g, e = .returned (.tuple #[.slice (some ⟨g, 0, none⟩) 23040 23040, .bool true]) ∧ w.heap.size ≤ g ∧ NmAt w' g 23040 (fun i => ptT M (loneV (tileOf tl f)) (oamTo (allF r (colsOf cl fc) fm) (40 + 4 * j) 160) loneR (i / 160) (i % 160)) ∧ Up w w') := fun w rg pb tb ty u a1 a2 a3 => tenShot_any HM.out HG.out a1 a2 a3 (hby2.upS u)
          clear hby2 M1
          go_wp2_with fail
          refine (HLo.out _ _ _ _ HF.out.1).mono ?_
          rintro e w6 ⟨rg, pb, tb2, ty, rfl, R6, N6, P6, u6⟩
          have H6 : Hid (RgAt w6 rg loneR ∧ NmAt w6 tb2 16 (tileOf tl f) ∧ w6.heap[pb]? = some (.cells #[.int .i64 16, .slice (some ⟨tb2, 0, none⟩) 16 16] ty (0, 0)) ∧ Up wr w6) := ⟨R6, N6, P6, u6⟩
          clear R6 N6 P6 u6
          go_wp2_with fail
          refine (HS1.out _ _ _ _ _ H6.out.2.2.2 H6.out.1 H6.out.2.1 H6.out.2.2.1).mono ?_
          rintro e w7 ⟨g1, rfl, _, n7, u7⟩
          have H7 : Hid (NmAt w7 g1 23040 (fun i => ptT M (loneV (tileOf tl f)) (oamTo (tenF r (colsOf cl fc)) 40 160) loneR (i / 160) (i % 160)) ∧ Up wr w7) := ⟨n7, H6.out.2.2.2.trans u7⟩
          clear n7 u7 H6
          go_wp2_with fail
          refine (HLo.out _ _ _ _ (HF.out.1.trans H7.out.2)).mono ?_
          rintro e w8 ⟨rg2, pb2, tb3, ty2, rfl, R8, N8, P8, u8⟩
          have H8 : Hid (RgAt w8 rg2 loneR ∧ NmAt w8 tb3 16 (tileOf tl f) ∧ w8.heap[pb2]? = some (.cells #[.int .i64 16, .slice (some ⟨tb3, 0, none⟩) 16 16] ty2 (0, 0)) ∧ Up w7 w8) := ⟨R8, N8, P8, u8⟩
          clear R8 N8 P8 u8
          go_wp2_with fail
          refine (HS2.out _ _ _ _ _ (H7.out.2.trans H8.out.2.2.2) H8.out.1 H8.out.2.1 H8.out.2.2.1).mono ?_
          rintro e w9 ⟨g2, rfl, _, n9, u9⟩
          have u79 := H8.out.2.2.2.trans u9
          have s1 := (H7.out.1.of_block (u79.block _ H7.out.1.lt)).convT 23040
          have s2 := n9.convT 23040
          have ee : (fun i => ptT M (loneV (tileOf tl f)) (oamTo (tenF r (colsOf cl fc)) 40 160) loneR (i / 160) (i % 160)) = (fun i => ptT M (loneV (tileOf tl f)) (oamTo (allF r (colsOf cl fc) fm) (40 + 4 * j) 160) loneR (i / 160) (i % 160)) := funext fun i => ten_all HM.out (tileOf tl f) r (colsOf cl fc) fm j _ _
          rw [ee] at s1
          have HUp : Hid (Up W w9) := (HF.out.1.trans H7.out.2).trans u79
          clear ee n9 u9 u79 H7 H8 HS1 HS2 HLo HF
          generalize strT 23040 _ = S at *
          go_wp2_with fail
          go_ret
          exact ⟨by first | rfl | (simp; done), HUp.out⟩
end Go.Proofs.Ytnbhifbenfgeeaa
