/- Proto: ProtoReplies's walk. -/
import Derived.Test.YtnengokobkehfaaPrZ
namespace Go.Proofs.Ytnengokobkehfaa
open Go.RowKit
set_option linter.unusedVariables false
variable {w w' W : World}
set_option maxRecDepth 100000 in
set_option maxHeartbeats 2000000 in
theorem replies_walk {aa ba : Option Addr} {ab ao n ac bb bo bn bc : Nat} {ms : List (C × Value)} {cut : Int} {f : Nat → Int} (D : Reps W aa ab ao n ac ms) (hn : n ≤ 1048576) (hq : I64 cut) (Db : Byts W ba bb bo bn bc f) (hnil : ba = none → bc = 0) (hbn : bn ≤ 1048576) :
    Calls Try.prog 6 #[.slice aa n ac, .int .i64 cut, .slice ba bn bc] W fun e w' => e = .returned (.bool true) ∧ Up W w' := by
  have HD : Hid (Reps W aa ab ao n ac ms) := D
  have HDb : Hid (Byts W ba bb bo bn bc f) := Db
  have HNil : Hid (ba = none → bc = 0) := hnil
  have HQ : Hid (I64 cut) := hq
  have hlc := D.lc
  have hlb := Db.lc
  have hni : (n : Int) ≤ 1048576 := by omega
  have hbi : (bn : Int) ≤ 1048576 := by omega
  clear D hq Db hnil
  go_enter Try.func6, Try.ntmps6
  go_wp2_with fail
  refine (fed_any W).mono ?_
  rintro e w1 ⟨rfl, hU1⟩
  have HU1 : Hid (Up W w1) := hU1
  clear hU1
  go_wp2_with fail
  go_loopw [8, 9, 10, 11] (fun av ev wv i wr => ∃ (k : Nat) (sel : List (C × Value)) (bs : List (List Int)), k ≤ n ∧ i = .int .i64 k ∧ Hid (RpSt w1 ms k wv av ev sel bs wr)) (fun _ _ _ i _ => n - (intOf i).toNat)
  case atStart => exact ⟨0, [], [], Nat.zero_le _, rfl, ⟨rfl, fun x h => (by cases h), World.ownsRow_nil _ _ _ _, World.ownsRow_nil _ _ _ _, World.ownsRow_nil _ _ _ _, Up.refl _, Nat.le_refl _, Nat.le_refl _, L8.nil⟩⟩
  case round =>
    obtain ⟨k, sel, bs, hk, rfl, hB⟩ := hrel
    obtain ⟨ga, gn, gc, hav⟩ := own_slice3 hB.out.aown
    obtain ⟨va, vn, vc, hwv⟩ := own_slice3 hB.out.wown
    obtain ⟨ea, en, ec, hev⟩ := own_slice3 hB.out.eown
    subst hav hwv hev
    have hcnt := hB.out.cnt
    have hlen := hB.out.len
    have hbsl : bs.length = sel.length := by have := congrArg List.length hB.out.ok; simpa using this.symm
    by_cases hlt : k < n
    · have g1 : k < ms.length := by rw [HD.out.leq]; exact hlt
      obtain ⟨c, d, hx⟩ : ∃ c d, ms[k]? = some (c, d) := ⟨ms[k].1, ms[k].2, by rw [List.getElem?_eq_getElem g1]⟩
      obtain ⟨r1, b1⟩ := HD.out.at_ k _ hx
      have b1 : Bs 0 W d c.data.bs := b1
      obtain ⟨da, _, _, dc, hde, _⟩ := b1.ex
      obtain ⟨dl, hdl⟩ : ∃ dl, dl = c.data.bs.length := ⟨_, rfl⟩
      rw [← hdl] at hde
      subst hde
      have HXm : Hid ((c, Value.slice da dl dc) ∈ ms) := List.mem_of_getElem? hx
      have huw := HU1.out.trans hB.out.up
      have HRg : Hid (∀ w', Up wr w' → w'.rangeAt ab (ao + k * 4) (rC c (.slice da dl dc))) := fun w' u => range_up r1 (huw.trans u)
      have HCl : Hid (toR c).cl := toR_cl b1.u8
      have HEn : Hid (Calls Try.prog 15 #[.agg (rC c (.slice da dl dc)).toArray] wr (EncAns wr (encF repT (toR c)))) := encodeR_any wr (b1.up huw)
      have HOne : Hid (∀ v ∈ rC c (.slice da dl dc), v.oneCell' = true) := one_rC c rfl
      have ea := HD.out.ad (by omega)
      subst ea
      have hki : (k : Int) < n := by omega
      clear hx r1 b1 huw g1 hdl
      go_wp2_with (refine wpList_load_mid rfl 44 _ rfl ab (ao + k * 4) rfl (rC c (.slice da dl dc)) _ (HRg.out _ (Up.refl _)) Try.underlying44 rfl (by kernel_rfl) ?_)
      refine Calls.mono HEn.out ?_
      cases hE : encF repT (toR c) with
      | error x =>
        rintro e w7 ⟨rfl, hu7⟩
        have HB7 : Hid (RpSt w1 ms (k + 1) (.slice va vn vc) (.slice ga gn gc) (.slice ea en ec) sel bs w7) := ⟨hB.out.ok, hB.out.src, ownsRow_up hB.out.wown hu7, ownsRow_up hB.out.aown hu7, ownsRow_up hB.out.eown hu7, hB.out.up.trans hu7, by omega, hlen, hB.out.u8⟩
        have hx := enc_err hE
        clear hE hu7
        rcases hx with rfl | rfl
        all_goals
          go_wp2_with fail
          go_roundw
          case rel => exact ⟨k + 1, sel, bs, by omega, by go_num, HB7⟩
          case measure => simp [intOf]; omega
      | ok b =>
        have hbl := enc_leT rep_ok HCl.out hE
        have HE : Hid (encF repT (toR c) = .ok b) := hE
        rintro e w7 ⟨⟨v7, rfl, ho7⟩, hu7⟩
        have HO7 : Hid (w7.ownsRow wr.heap.size 5 1 v7 b.length (u8s b)) := ho7
        have HU7 : Hid (Up wr w7) := hu7
        obtain ⟨xa, xn, xc, hv7⟩ := own_slice3 ho7
        subst hv7
        have HXn : Hid (xn = b.length) := by
          show _ = _
          rcases own_cases ho7 with ⟨e1, e2, _⟩ | ⟨g, cap, e1, _⟩
          · omega
          · injection e1
        have hs7 := HU7.out.size
        have hsw := hB.out.up.size
        have HX : Hid (∀ j v, (rC c (.slice da dl dc))[j]? = some v → (w7.alloc (.cells (rC c (.slice da dl dc)).toArray 44)).cell? ((⟨w7.heap.size, 0, none⟩ : Addr).add j) = some v) := fun j v hj => by
          rw [addr_add, Nat.zero_add]
          refine heap_cell (heap_alloc_new w7 _) ?_
          simpa using hj
        have HOw : Hid (∀ o, (w7.alloc o).ownsRow w1.heap.size 44 4 (.slice va vn vc) sel.length (rrC sel)) := fun o => ownsRow_up hB.out.wown (HU7.out.alloc o)
        have HKp : Hid (∀ w8 : World, (w7.alloc (.cells (rC c (.slice da dl dc)).toArray 44)).grownBy w8 (Value.slice va vn vc).ownBlock → w8.ownsRow w1.heap.size 5 1 (.slice ga gn gc) bs.flatten.length (u8s bs.flatten) ∧ Src w8 (.slice xa xn xc) b ∧ w1.heap.size ≤ w8.heap.size ∧ w8.ownsRow w1.heap.size 3 1 (.slice ea en ec) bs.length (endsV bs)) := fun w8 hg => by
          have ww := HOw.out (.cells (rC c (.slice da dl dc)).toArray 44)
          have a7 := ownsRow_up hB.out.aown (HU7.out.alloc (.cells (rC c (.slice da dl dc)).toArray 44))
          have v7 := ownsRow_up HO7.out ((Up.refl w7).alloc (.cells (rC c (.slice da dl dc)).toArray 44))
          have e7 := ownsRow_up hB.out.eown (HU7.out.alloc (.cells (rC c (.slice da dl dc)).toArray 44))
          refine ⟨ownsRow_block a7 fun g hg' => hg.block g (a7.lt g hg').2 (fun e => own_ty a7 ww (by decide) hg' e.symm), Src.of_own (ownsRow_block v7 fun g hg' => hg.block g (v7.lt g hg').2 (fun e => own_ty v7 ww (by decide) hg' e.symm)), ?_, ownsRow_block e7 fun g hg' => hg.block g (e7.lt g hg').2 (fun e => own_ty e7 ww (by decide) hg' e.symm)⟩
          have := hg.size
          simp at this
          omega
        have HPs : Hid (∀ (v8 v9 v10 : Value) (w8 w9 w10 : World) (z : Nat) (o2 : Obj), z = (bs.flatten ++ b).length → w8.ownsRow w1.heap.size 44 4 v8 (sel.length + 1) (rrC sel ++ rC c (.slice da dl dc)) → (w7.alloc (.cells (rC c (.slice da dl dc)).toArray 44)).grownBy w8 (Value.slice va vn vc).ownBlock → w9.ownsRow w1.heap.size 5 1 v9 (bs.flatten ++ b).length (u8s (bs.flatten ++ b)) → w8.grownBy w9 (Value.slice ga gn gc).ownBlock → w10.ownsRow w1.heap.size 3 1 v10 (bs.length + 1) (endsV bs ++ [.int .i64 (z : Int)]) → (w9.alloc o2).grownBy w10 (Value.slice ea en ec).ownBlock → RpSt w1 ms (k + 1) v8 v9 v10 (sel ++ [(c, .slice da dl dc)]) (bs ++ [b]) w10) := fun v8 v9 v10 w8 w9 w10 z o2 hz h1 h2 h3 h4 h5 h6 => by
          subst hz
          exact hB.out.push HXm.out HE.out hbl.2.1 hbl.2.2 (HU7.out.alloc _) h1 h2 h3 h4 h5 h6
        have hfl : bs.flatten.length + b.length ≤ 1099511627776 := by omega
        clear hE ho7 hu7
        unfold rC at *
        go_wp2_with (first
          | (refine wpList_load_mid rfl 44 _ rfl ab (ao + k * 4) rfl _ _ (HRg.out _ HU7.out) Try.underlying44 rfl (by kernel_rfl) ?_)
          | (refine wpList_append_own_at2 _ rfl _ _ 41 41 rfl w1.heap.size 44 Try.t44 _ 4 48 Try.underlying41 Try.underlying41 (by kernel_rfl) rfl rfl rfl rfl (by decide) (.slice va vn vc) sel.length (rrC sel) rfl (HOw.out _) ⟨w7.heap.size, 0, none⟩ 1 1 _ rfl (by simp) HX.out HOne.out (by unfold maxLen; omega) (by omega) (by simp; omega) (fun v8 w8 ho hg hw => ?_)
             have hk8 := HKp.out w8 hg
             have HK8 : Hid _ := hk8
             have HP8 : Hid _ := fun v9 v10 w9 w10 z o2 hz => HPs.out v8 v9 v10 w8 w9 w10 z o2 hz ho hg
             clear ho hg hw hk8)
          | (refine wpList_append_bytes rfl _ _ rfl w1.heap.size (.slice ga gn gc) bs.flatten rfl HK8.out.1 (.slice xa xn xc) b rfl HK8.out.2.1 (by omega) HK8.out.2.2.1 (fun v9 w9 ho hg hw => ?_)
             have HP9 : Hid _ := fun v10 w10 z o2 hz => HP8.out v9 v10 w9 w10 z o2 hz ho hg
             have HE9 : Hid (w9.ownsRow w1.heap.size 3 1 (.slice ea en ec) bs.length (endsV bs) ∧ w1.heap.size ≤ w9.heap.size) := ⟨ownsRow_block HK8.out.2.2.2 fun g hg' => hg.block g (HK8.out.2.2.2.lt g hg').2 (fun e => own_ty HK8.out.2.2.2 HK8.out.1 (by decide) hg' e.symm), Nat.le_trans HK8.out.2.2.1 hg.size⟩
             obtain ⟨pa, pn, pc, hp9⟩ := own_slice3 ho
             subst hp9
             have HPn : Hid (pn = (bs.flatten ++ b).length) := by
               show _ = _
               rcases own_cases ho with ⟨e1, e2, _⟩ | ⟨g, cap, e1, _⟩
               · injection e1 with _ e1 _
                 omega
               · injection e1
             have HX9 : Hid (∀ j v, ([Value.int .i64 (pn : Int)] : List Value)[j]? = some v → (w9.alloc (.cells #[.int .i64 (pn : Int)] 3)).cell? ((⟨w9.heap.size, 0, none⟩ : Addr).add j) = some v) := fun j v hj => by
               rw [addr_add, Nat.zero_add]
               refine heap_cell (heap_alloc_new w9 _) ?_
               simpa using hj
             clear ho hg hw)
          | (refine wpList_append_own_at2 _ rfl _ _ 23 23 rfl w1.heap.size 3 Try.t3 _ 1 8 Try.underlying23 Try.underlying23 (by kernel_rfl) rfl rfl rfl rfl (by decide) (.slice ea en ec) bs.length (endsV bs) rfl (ownsRow_up HE9.out.1 ((Up.refl w9).alloc _)) ⟨w9.heap.size, 0, none⟩ 1 1 [.int .i64 (pn : Int)] rfl (by simp) HX9.out (by simp [Value.oneCell']) (by unfold maxLen; omega) (by omega) (by have := HE9.out.2; simp; omega) (fun v10 w10 ho hg hw => ?_)
             have HN : Hid (RpSt w1 ms (k + 1) v8 (.slice pa pn pc) v10 (sel ++ [(c, .slice da dl dc)]) (bs ++ [b]) w10) := HP9.out v10 w10 pn _ HPn.out ho hg
             clear ho hg hw))
        go_roundw
        case rel => exact ⟨k + 1, _, bs ++ [b], by omega, by go_num, HN⟩
        case measure => simp [intOf]; omega
    · skip
      have ek : k = n := by omega
      subst ek
      have huw := HU1.out.trans hB.out.up
      have HUW : Hid (Up W wr) := huw
      have HSl : Hid (∀ x ∈ sel, Bs 0 W x.2 x.1.data.bs) := fun x hx => by
        obtain ⟨j, hj⟩ := List.getElem?_of_mem (hB.out.src x hx)
        exact (HD.out.at_ j x hj).2
      obtain ⟨A, hA⟩ : ∃ A, A = bs.flatten := ⟨_, rfl⟩
      have HAe : Hid (A = bs.flatten) := hA
      have HA : Hid (wr.ownsRow w1.heap.size 5 1 (.slice ga gn gc) A.length (u8s A)) := by rw [hA]; exact hB.out.aown
      have HWn : Hid (wr.ownsRow w1.heap.size 44 4 (.slice va vn vc) sel.length (rrC sel)) := hB.out.wown
      have HEn : Hid (wr.ownsRow w1.heap.size 3 1 (.slice ea en ec) bs.length (endsV bs)) := hB.out.eown
      have hgn : gn = A.length := by
        rcases own_cases HA.out with ⟨e1, e2, _⟩ | ⟨g, cap, e1, _⟩
        · injection e1 with _ e1 _
          omega
        · injection e1
      have hvn : vn = sel.length := by
        rcases own_cases HWn.out with ⟨e1, e2, _⟩ | ⟨g, cap, e1, _⟩
        · injection e1 with _ e1 _
          omega
        · injection e1
      have hen : en = bs.length := by
        rcases own_cases HEn.out with ⟨e1, e2, _⟩ | ⟨g, cap, e1, _⟩
        · injection e1 with _ e1 _
          omega
        · injection e1
      have hgc : gn ≤ gc := by
        rcases own_cases HA.out with ⟨e1, e2, _⟩ | ⟨g, cap, e1, e2, _⟩
        · injection e1 with _ e1 e3
          omega
        · injection e1 with _ e1 e3
          omega
      rw [← hA] at hlen
      have hTb : gn ≤ 1099511627775 := by omega
      have hTi : (gn : Int) ≤ 1099511627775 := by omega
      have hA8 : L8 A := by rw [hA]; exact hB.out.u8
      have HA8 : Hid (F8 (fn A)) := fn_u8 hA8
      have HOK : Hid (sel.map (fun x => encF repT (toR x.1)) = bs.map Except.ok) := hB.out.ok
      have hcs : ∀ x ∈ sel.map (fun x => toR x.1), x.cl := fun y hy => by
        obtain ⟨x, hx, rfl⟩ := List.mem_map.1 hy
        exact toR_cl (HSl.out x hx).u8
      have hokm : (sel.map (fun x => toR x.1)).map (encF repT) = bs.map Except.ok := by rw [List.map_map]; exact HOK.out
      have hp0 := pickI_lo cut ((gn : Int) + 1) (by omega)
      have hp1 := pickI_hi cut ((gn : Int) + 1) (by omega)
      have HPk : Hid (∀ w2, Calls Try.prog 10 #[.int .i64 cut, .int .i64 ((gn : Int) + 1)] w2 fun e w' => e = .returned (.int .i64 (pickI cut ((gn : Int) + 1))) ∧ w' = w2) := fun w2 => pick_any cut ((gn : Int) + 1) w2 HQ.out (by omega) (by omega)
      obtain ⟨p, hp⟩ := Int.eq_ofNat_of_zero_le hp0
      rw [hp] at HPk hp1
      have hpg : p ≤ gn := by omega
      obtain ⟨m, hm1, hm2, hm3, hm4⟩ := rep_dec (A := A) (sel.map (fun x => toR x.1)) bs 0 p hcs hokm (by rw [← hA, bl_fn A 0 _ (by omega)]; simp) (Nat.zero_le _) (by rw [← hA]; omega)
      rw [Nat.zero_add] at hm2 hm3
      have HM2 : Hid (Dec repT (fn A) p 0 ((sel.map (fun x => toR x.1)).take m) (bs.take m).flatten.length 0) := hm2
      have HM4 : Hid (∀ j, m ≤ j → j < bs.length → p < (bs.take (j + 1)).flatten.length) := fun j h1 h2 => by have := hm4 j h1 h2; omega
      have HM3 : Hid ((bs.take m).flatten.length ≤ p) := hm3
      have HEb : Hid (Calls Try.prog 15 #[.agg #[.int .i64 2, .int .i64 0, .int .i64 0, .slice none 0 0]] wr (EncAns wr (.ok [0, 0, 0, 1, 2]))) := by
        have := encodeR_any (c := ⟨2, V0, V0, V0, V0, V0⟩) (d := .slice none 0 0) wr (Bs.nil 0 wr)
        rw [busy_enc] at this
        exact this
      have HGn : Hid (gn = A.length) := hgn
      have HVn : Hid (vn = sel.length) := hvn
      have HEl : Hid (en = bs.length) := hen
      have HBS : Hid (bs.length = sel.length) := hbsl
      have hml : m ≤ en := by omega
      have hei : (en : Int) ≤ 1048576 := by omega
      clear huw hA hB hcs hokm hp0 hp hm1 hm2 hm3 hm4 hgn hvn hen hbsl hlen hA8
      go_wp2_with fail
      refine Calls.mono HEb.out ?_
      rintro e w2 ⟨⟨v2, rfl, ho2⟩, hu2⟩
      have HU2 : Hid (Up wr w2) := hu2
      have hv2 : ∃ xa xc, v2 = .slice xa 5 xc := by
        rcases own_cases ho2 with ⟨e1, e2, _⟩ | ⟨g, cap, e1, _⟩
        · simp at e2
        · exact ⟨_, _, e1⟩
      obtain ⟨xa, xc, hv2⟩ := hv2
      subst hv2
      clear ho2 hu2 HEb
      go_wp2_with fail
      refine Calls.mono (HPk.out w2) ?_
      rintro e w3 ⟨rfl, hw3⟩
      have hw3 : w3 = w2 := hw3
      subst hw3
      have HE : Hid ((w3.alloc (.cells #[] 5)).ownsRow w3.heap.size 5 1 (.slice (some ⟨w3.heap.size, 0, none⟩) 0 0) 0 (u8s [])) := own_empty2 w3 _ _ (Nat.le_refl _)
      have HSh : Hid (∀ w', Up w3 w' → Src w' (.slice ga p gc) (bl (fn A) 0 p)) := fun w' u => src_h HA.out (by have := HGn.out; omega) (HU2.out.trans u)
      go_wp2_with (refine wpList_append_bytes rfl _ _ rfl w3.heap.size (.slice (some ⟨w3.heap.size, 0, none⟩) 0 0) [] rfl HE.out (.slice ga p gc) (bl (fn A) 0 p) rfl (HSh.out _ ((Up.refl w3).alloc _)) (by rw [bl_len]; simp <;> omega) (by simp) (fun v4 w4 ho hg hw => ?_))
      have u4 : Up w3 w4 := grown_up2 hg
      rw [List.nil_append] at ho
      refine (decodeR_any w4 ho (bl_u8 HA8.out _ _) (by rw [bl_len]; omega)).mono ?_
      rintro e w5 ⟨lv, rs, r, er, rfl, hDc, hRw, hu5⟩
      rw [bl_len] at hDc
      obtain ⟨hc1, hc2, hc3⟩ := (hDc.congr (g := fn A) fun k hk => by rw [fn_bl (fn A) 0 p k hk, Nat.zero_add]).det HM2.out
      subst hc3
      have HRz : Hid (r = (bs.take m).flatten.length) := hc2
      clear hc2
      have HU5 : Hid (Up wr w5) := HU2.out.trans (u4.trans hu5)
      have HRs : Hid (rs.map (·.1) = (sel.map (fun x => toR x.1)).take m) := hc1
      have HRw : Hid (RowsR (fun b => w4.heap.size ≤ b ∧ lv.ownBlock ≠ some b) w4.heap.size w5 lv rs) := hRw
      obtain ⟨la, ln, lc, hl⟩ := own_slice3 hRw.own
      subst hl
      have hln : m = ln := by
        have h1 : rs.length = m := by have := congrArg List.length hc1; have h2 := HBS.out; have h3 := HEl.out; simp at this; omega
        rcases own_cases hRw.own with ⟨e1, e2, _⟩ | ⟨g, cap, e1, _⟩
        · injection e1 with _ e1 _
          omega
        · injection e1 with _ e1 _
          omega
      have HLm : Hid (rs.length = m) := by show _ = _; have := congrArg List.length hc1; have h2 := HBS.out; have h3 := HEl.out; simp at this; omega
      subst hln
      clear hDc hRw hu5 u4 ho hg hw HE HSh hc1 HPk
      obtain ⟨wA, hwA⟩ : ∃ wA, wA = wr := ⟨wr, rfl⟩
      subst hwA
      obtain ⟨ea', eg, ec', ee, el, em, ead, eat⟩ := ends_at (ownsRow_up HEn.out HU5.out)
      injection ee with ee1 ee2 ee3
      subst ee1 ee3
      have HAe2 : Hid (0 < bs.length → ea = some ⟨eg, 0, none⟩) := ead
      have HEt : Hid (∀ k, k < bs.length → w5.cell? ⟨eg, k, none⟩ = some (.int .i64 (((bs.take (k + 1)).flatten.length : Nat) : Int))) := eat
      rw [← HEl.out] at el
      clear ead eat ee2
      go_wp2_with fail
      go_loopw [20, 21, 22] (fun mv ev i w6 => ∃ k : Nat, k ≤ en ∧ i = .int .i64 k ∧ mv = .int .i64 ((min k m : Nat) : Int) ∧ ev = .int .i64 (((bs.take (min k m)).flatten.length : Nat) : Int) ∧ Hid (Up w5 w6)) (fun _ _ i _ => en - (intOf i).toNat)
      case atStart => exact ⟨0, Nat.zero_le _, rfl, by simp, by simp, Up.refl _⟩
      case round =>
        obtain ⟨k, hk, rfl, rfl, rfl, hU⟩ := hrel
        by_cases hlt : k < en
        · have ea_ := HAe2.out (by have := HEl.out; omega)
          subst ea_
          have x00 := HEt.out k (by have := HEl.out; omega)
          have x0 := (hU.out.cell (World.block_lt_of_cell? _ _ x00)).trans x00
          clear x00
          have hki : (k : Int) < en := by omega
          obtain ⟨z, hz⟩ : ∃ z, z = (bs.take (k + 1)).flatten.length := ⟨_, rfl⟩
          rw [← hz] at x0
          by_cases hkm : k < m
          · have hzp : (z : Int) ≤ p := by have h1 := flat_mono (bs := bs) (i := k + 1) (j := m) (by omega); have h2 := HM3.out; omega
            have e1 : min (k + 1) m = k + 1 := by omega
            have HZ : Hid (z = (bs.take (min (k + 1) m)).flatten.length) := by show _ = _; rw [e1]; exact hz
            have HE1 : Hid (min (k + 1) m = k + 1) := e1
            clear hz e1
            go_wp2_with fail
            go_roundw
            case rel => exact ⟨k + 1, by omega, by go_num, by rw [HE1.out]; go_num, by rw [HZ.out], hU⟩
            case measure => simp [intOf]; omega
          · have hzp : ¬ ((z : Int) ≤ p) := by have h2 := HM4.out k (by omega) (by have := HEl.out; omega); omega
            have HE1 : Hid (min (k + 1) m = min k m) := by show _ = _; omega
            clear hz
            go_wp2_with fail
            go_roundw
            case rel => exact ⟨k + 1, by omega, by go_num, by rw [HE1.out], by rw [HE1.out], hU⟩
            case measure => simp [intOf]; omega
        · have ek2 : min k m = m := by omega
          rw [ek2]
          obtain ⟨w6, hw6⟩ : ∃ w6, w6 = wr := ⟨wr, rfl⟩
          subst hw6
          have HU6 : Hid (Up wA w6) := HU5.out.trans hU.out
          obtain ⟨xa3, xg, xc3, xe, xl, xm, xad, xat⟩ := (HRw.out.up hU.out).at
          injection xe with xe1 xe2 xe3
          subst xe1 xe3
          obtain ⟨ya3, yg, yc3, ye, yl, ym, yad, yat⟩ := (rep_want HWn.out HSl.out HU6.out (HUW.out.trans HU6.out)).at
          injection ye with ye1 ye2 ye3
          subst ye1 ye3
          have HXat : Hid (∀ (k : Nat) (x : C × Value), rs[k]? = some x → w6.rangeAt xg (k * 4) (rC x.1 x.2) ∧ Bs 0 w6 x.2 x.1.data.bs) := xat
          have HYat : Hid (∀ (k : Nat) (x : C × Value), sel[k]? = some x → w6.rangeAt yg (k * 4) (rC x.1 x.2) ∧ Bs 0 w6 x.2 x.1.data.bs) := yat
          have HAx : Hid (0 < rs.length → la = some ⟨xg, 0, none⟩) := xad
          have HAy : Hid (0 < sel.length → va = some ⟨yg, 0, none⟩) := yad
          rw [HLm.out] at xl
          rw [← HVn.out] at yl
          have hmv : m ≤ vn := by have := HVn.out; have := HBS.out; have := HEl.out; omega
          have hmi : (m : Int) ≤ 1048576 := by omega
          clear xat yat xad yad xe2 ye2 hU HRw HEt HAe2 HM4 ek2
          rw [← HRz.out]
          go_wp2_with fail
          generalize w6 = wo at *
          go_loopw [23] (fun i w8 => ∃ k : Nat, k ≤ m ∧ i = .int .i64 k ∧ Hid (Up wo w8)) (fun i _ => m - (intOf i).toNat)
          case atStart => exact ⟨0, Nat.zero_le _, rfl, Up.refl _⟩
          case round =>
            obtain ⟨k, hk, rfl, hU⟩ := hrel
            by_cases hlt : k < m
            · have g1 : k < rs.length := by rw [HLm.out]; exact hlt
              have g2 : k < sel.length := by have := HVn.out; omega
              obtain ⟨c0, d1, hx⟩ : ∃ c d, rs[k]? = some (c, d) := ⟨rs[k].1, rs[k].2, by rw [List.getElem?_eq_getElem g1]⟩
              obtain ⟨c, d2, hy⟩ : ∃ c d, sel[k]? = some (c, d) := ⟨sel[k].1, sel[k].2, by rw [List.getElem?_eq_getElem g2]⟩
              have exy : c0 = toR c := by
                have := congrArg (·[k]?) HRs.out
                simp only [List.getElem?_take, hlt, if_true, List.getElem?_map, hx, hy, Option.map_some] at this
                injection this
              subst exy
              obtain ⟨r1, b1⟩ := HXat.out k _ hx
              obtain ⟨r2, b2⟩ := HYat.out k _ hy
              have ea := HAx.out (by omega)
              subst ea
              have eb := HAy.out (by omega)
              subst eb
              have R1 : Hid (wo.rangeAt xg (k * 4) (rC c d1)) := r1
              have R2 : Hid (wo.rangeAt yg (k * 4) (rC c d2)) := r2
              have B1 : Hid (Bs 0 wo d1 c.data.bs) := b1
              have B2 : Hid (Bs 0 wo d2 c.data.bs) := b2
              obtain ⟨p1, _, _, q1, s1, _⟩ := B1.out.ex
              obtain ⟨p2, _, _, q2, s2, _⟩ := B2.out.ex
              subst s1 s2
              have hki : (k : Int) < m := by omega
              clear r1 r2 b1 b2 hx hy g1 g2
              go_wp2_with fail
              refine wp_still2 8 (by kernel_rfl) (by kernel_rfl) ?_
              intro w9 hw9
              have u9 : Up wo w9 := hU.out.trans (by rw [hw9]; exact (Up.refl _).drew)
              have x0 : w9.cell? ⟨xg, k * 4 + 0, none⟩ = some (.int .i64 c.kind) := range_up R1.out u9 0 _ rfl
              have x1 : w9.cell? ⟨xg, k * 4 + 1, none⟩ = some (.int .i64 c.n.num) := range_up R1.out u9 1 _ rfl
              have x2 : w9.cell? ⟨xg, k * 4 + 2, none⟩ = some (.int .i64 c.m.num) := range_up R1.out u9 2 _ rfl
              have x3 : w9.cell? ⟨xg, k * 4 + 3, none⟩ = some (.slice p1 c.data.bs.length q1) := range_up R1.out u9 3 _ rfl
              have y0 : w9.cell? ⟨yg, k * 4 + 0, none⟩ = some (.int .i64 c.kind) := range_up R2.out u9 0 _ rfl
              have y1 : w9.cell? ⟨yg, k * 4 + 1, none⟩ = some (.int .i64 c.n.num) := range_up R2.out u9 1 _ rfl
              have y2 : w9.cell? ⟨yg, k * 4 + 2, none⟩ = some (.int .i64 c.m.num) := range_up R2.out u9 2 _ rfl
              have y3 : w9.cell? ⟨yg, k * 4 + 3, none⟩ = some (.slice p2 c.data.bs.length q2) := range_up R2.out u9 3 _ rfl
              have U9 : Hid (Up wo w9) := u9
              have HSm : Hid _ := sameR_yes w9 (B1.out.up u9) (B2.out.up u9)
              clear hw9 u9
              rw [Nat.add_zero] at x0 y0
              simp only [List.take_succ_cons, List.take_zero, List.drop_succ_cons, List.drop_zero]
              repeat (go_big_quiet_step (fail))
              refine wpQuiet_nil ?_
              go_wp2_with fail
              refine Calls.mono HSm.out ?_
              rintro e w10 ⟨rfl, hU10⟩
              have U10 : Hid (Up wo w10) := U9.out.trans hU10
              clear hU10 x0 x1 x2 x3 y0 y1 y2 y3
              go_wp2_with fail
              go_roundw
              case rel => exact ⟨k + 1, by omega, by go_num, U10⟩
              case measure => simp [intOf]; omega
            · have ek : k = m := by omega
              subst ek
              obtain ⟨w7, hw7⟩ : ∃ w7, w7 = wr := ⟨wr, rfl⟩
              subst hw7
              have HU7 : Hid (Up wA w7) := HU6.out.trans hU.out
              clear hU HXat HYat HAx HAy
              have H8 : Hid (F8 f) := HDb.out.u8
              have HUb : Hid (Up W w7) := HUW.out.trans HU7.out
              have HSb : Hid (∀ w', Up w7 w' → Src w' (.slice ba bn bc) (bl f 0 bn)) := fun w' u => src_arg2 HDb.out HNil.out (HUb.out.trans u)
              have HEb : Hid ((w7.alloc (.cells #[] 5)).ownsRow w7.heap.size 5 1 (.slice (some ⟨w7.heap.size, 0, none⟩) 0 0) 0 (u8s [])) := own_empty2 w7 _ _ (Nat.le_refl _)
              go_wp2_with (refine wpList_append_bytes rfl _ _ rfl w7.heap.size (.slice (some ⟨w7.heap.size, 0, none⟩) 0 0) [] rfl HEb.out (.slice ba bn bc) (bl f 0 bn) rfl (HSb.out _ ((Up.refl w7).alloc _)) (by rw [bl_len]; simp; omega) (by simp) (fun v8 w8 ho hg hw => ?_))
              have u8 : Up w7 w8 := grown_up2 hg
              rw [List.nil_append] at ho
              refine (decodeR_any w8 ho (bl_u8 H8.out _ _) (by rw [bl_len]; omega)).mono ?_
              rintro e w9 ⟨kv, rs2, r2, er2, rfl, hDc, hRw, hu9⟩
              rw [bl_len] at hDc
              have hde : Dec repT f bn 0 (rs2.map (·.1)) r2 er2 := hDc.congr fun k hk => by rw [fn_bl f 0 bn k hk, Nat.zero_add]
              have HU9 : Hid (Up W w9) := HUb.out.trans (u8.trans hu9)
              obtain ⟨bs2, hbs, hfl, hcl⟩ := hde.enc rep_ok H8.out
              rw [Nat.sub_zero] at hfl
              have HBS2 : Hid ((rs2.map (·.1)).map (encF repT) = bs2.map Except.ok) := hbs
              have HFL : Hid (bs2.flatten = bl f 0 r2) := hfl
              have HCL : Hid (∀ c ∈ rs2.map (·.1), c.cl) := hcl
              have HGD : Hid (∀ c ∈ rs2.map (·.1), c.get .tenant = V0 ∧ c.get .name = V0) := fun c hc => ⟨(hde.good rep_ok H8.out .tenant (by decide +kernel) c hc).1, (hde.good rep_ok H8.out .name (by decide +kernel) c hc).1⟩
              have hmany := hde.many
              have hrn : r2 ≤ bn := hde.le.2 (Nat.zero_le _)
              rw [List.length_map] at hmany
              obtain ⟨ka, kg, kc, hke, ll, lm, lad, lat⟩ := hRw.at
              subst hke
              have HLA : Hid (0 < rs2.length → ka = some ⟨kg, 0, none⟩) := lad
              have HLT : Hid (∀ (k : Nat) (x : C × Value), rs2[k]? = some x → w9.rangeAt kg (k * 4) (rC x.1 x.2) ∧ Bs 0 w9 x.2 x.1.data.bs) := lat
              obtain ⟨N, hN⟩ : ∃ N, N = rs2.length := ⟨_, rfl⟩
              have HN : Hid (N = rs2.length) := hN
              have hNn : N ≤ 1048576 := by omega
              have hNi : (N : Int) ≤ 1048576 := by omega
              have HBL : Hid (bs2.length = N) := by show _ = _; have := congrArg List.length hbs; simp at this; omega
              rw [← hN] at ll ⊢
              clear hRw hu9 hDc u8 ho hg hw hde hbs hfl hcl lad lat hmany hN lm HSb HEb HUb HU7 HU6 HU5 HU2 HA HWn HEn
              go_wp2_with fail
              go_loopw [28, 29] (fun av i wr => ∃ k : Nat, k ≤ N ∧ i = .int .i64 k ∧ Hid (wr.ownsRow w9.heap.size 5 1 av (bs2.take k).flatten.length (u8s (bs2.take k).flatten)) ∧ Hid (Up w9 wr)) (fun _ i _ => N - (intOf i).toNat)
              case atStart => exact ⟨0, Nat.zero_le _, rfl, World.ownsRow_nil _ _ _ _, Up.refl _⟩
              case round =>
                obtain ⟨k, hk, rfl, hO, hU⟩ := hrel
                obtain ⟨qa, qn, qc, hav⟩ := own_slice3 hO.out
                subst hav
                have hfk : (bs2.take k).flatten.length ≤ r2 := by have h1 := flat_le (bs := bs2) k; rw [HFL.out, bl_len] at h1; exact h1
                by_cases hlt : k < N
                · have g1 : k < rs2.length := by rw [← HN.out]; exact hlt
                  obtain ⟨c, d, hx⟩ : ∃ c d, rs2[k]? = some (c, d) := ⟨rs2[k].1, rs2[k].2, by rw [List.getElem?_eq_getElem g1]⟩
                  have hcm : c ∈ rs2.map (·.1) := List.mem_map.2 ⟨(c, d), List.mem_of_getElem? hx, rfl⟩
                  obtain ⟨b, hb, hec⟩ := map_get HBS2.out k c (by rw [List.getElem?_map, hx]; rfl)
                  have hft := flat_take hb
                  have hfk1 : (bs2.take (k + 1)).flatten.length ≤ r2 := by have h1 := flat_le (bs := bs2) (k + 1); rw [HFL.out, bl_len] at h1; exact h1
                  have htm : toR c = c := toR_id (HCL.out c hcm) (HGD.out c hcm).1 (HGD.out c hcm).2
                  obtain ⟨r1, b1⟩ := HLT.out k _ hx
                  have HRg : Hid (wr.rangeAt kg (k * 4) (rC c d)) := range_up r1 hU.out
                  have HEn : Hid (Calls Try.prog 15 #[.agg (rC c d).toArray] wr (EncAns wr (.ok b))) := by
                    have := encodeR_any (c := c) (d := d) wr (b1.up hU.out)
                    rw [htm, hec] at this
                    exact this
                  have HFT : Hid ((bs2.take (k + 1)).flatten = (bs2.take k).flatten ++ b) := hft
                  have hbl : (bs2.take k).flatten.length + b.length ≤ r2 := by rw [hft, List.length_append] at hfk1; exact hfk1
                  have ea := HLA.out (by omega)
                  subst ea
                  have hki : (k : Int) < N := by omega
                  clear hx hcm hb hec hft hfk1 htm r1 b1 g1
                  go_wp2_with (refine wpList_load_mid rfl 44 _ rfl kg (k * 4) rfl (rC c d) _ HRg.out Try.underlying44 rfl (by kernel_rfl) ?_)
                  refine Calls.mono HEn.out ?_
                  rintro e w11 ⟨⟨v11, rfl, ho11⟩, hu11⟩
                  have HO11 : Hid (w11.ownsRow w9.heap.size 5 1 (.slice qa qn qc) (bs2.take k).flatten.length (u8s (bs2.take k).flatten)) := ownsRow_up hO.out hu11
                  have HS11 : Hid (Src w11 v11 b) := Src.of_own ho11
                  have HU11 : Hid (Up w9 w11) := hU.out.trans hu11
                  have HAl : Hid (∀ g, (Value.slice qa qn qc).ownBlock = some g → w9.heap.size ≤ g) := fun g hg => (hO.out.lt g hg).1
                  obtain ⟨za, zn, zc, hv11⟩ := own_slice3 ho11
                  subst hv11
                  clear ho11 hu11
                  go_wp2_with (refine wpList_append_bytes rfl _ _ rfl w9.heap.size (.slice qa qn qc) (bs2.take k).flatten rfl HO11.out (.slice za zn zc) b rfl HS11.out (by omega) HU11.out.size (fun v12 w12 ho hg hw => ?_)
                               have HU12 : Hid (Up w9 w12) := ⟨hg.os.trans HU11.out.os, hg.output.trans HU11.out.output, Nat.le_trans HU11.out.size hg.size, fun x hx => (hg.block x (Nat.lt_of_lt_of_le hx HU11.out.size) (fun e => by have := HAl.out x e.symm; omega)).trans (HU11.out.block x hx)⟩
                               have HO12 : Hid (w12.ownsRow w9.heap.size 5 1 v12 (bs2.take (k + 1)).flatten.length (u8s (bs2.take (k + 1)).flatten)) := by rw [HFT.out]; exact ho
                               clear ho hg hw)
                  go_roundw
                  case rel => exact ⟨k + 1, by omega, by go_num, HO12, HU12⟩
                  case measure => simp [intOf]; omega
                · have ek : k = N := by omega
                  subst ek
                  have hall : (bs2.take k).flatten = bl f 0 r2 := by rw [← HBL.out, List.take_length]; exact HFL.out
                  have ho := hO.out
                  rw [hall, bl_len] at ho
                  have HAn : Hid (qn = r2) := by
                    show _ = _
                    rcases own_cases ho with ⟨e1, e2, _⟩ | ⟨g, cap, e1, _⟩
                    · injection e1 with _ e1 _
                      omega
                    · injection e1
                  have HBa : Hid (Bs 0 wr (.slice qa qn qc) (bl f 0 r2)) := Bs.of_own (base := w9.heap.size) (by rw [bl_len]; exact ho) (Nat.zero_le _) (bl_u8 H8.out _ _)
                  have HBb : Hid (Bs 0 wr (.slice ba r2 bc) (bl f 0 r2)) := bs_arg HDb.out hrn (HU9.out.trans hU.out)
                  have e2 := HAn.out
                  subst e2
                  clear hall ho
                  have hri : (qn : Int) ≤ bn := by omega
                  have hss := str_self
                  have HUZ : Hid (Up W wr) := HU9.out.trans hU.out
                  have hri2 : decide ((qn : Int) ≤ (bn : Int)) = true := decide_eq_true (by omega)
                  have hri3 : decide ((0 : Int) ≤ (qn : Int)) = true := decide_eq_true (by omega)
                  have hri4 : decide (qn ≤ bn) = true := decide_eq_true (by omega)
                  go_wp2_with fail
                  first
                    | refine wp_still2 17 (by kernel_rfl) (by decide +kernel) ?_
                    | refine wp_still2 18 (by kernel_rfl) (by decide +kernel) ?_
                    | refine wp_still2 16 (by kernel_rfl) (by decide +kernel) ?_
                  intro w9_ hw9_
                  have u9_ : Up wr w9_ := by rw [hw9_]; exact (Up.refl _).drew
                  have c1 : (convert 22 9 (.slice qa qn qc)).run Try.prog w9_ = .ok (.string (strOfNums (bl f 0 qn))) w9_ := (HBa.out.up u9_).conv
                  have c2 : (convert 22 9 (.slice ba qn bc)).run Try.prog w9_ = .ok (.string (strOfNums (bl f 0 qn))) w9_ := (HBb.out.up u9_).conv
                  generalize strOfNums (bl f 0 qn) = S at c1 c2
                  have U9 : Hid (Up wr w9_) := u9_
                  clear hw9_ u9_
                  simp only [List.take_succ_cons, List.take_zero, List.drop_succ_cons, List.drop_zero]
                  repeat (go_big_quiet_step (fail))
                  refine wpQuiet_nil ?_
                  go_wp2_with fail
                  go_ret
                  exact ⟨rfl, HUZ.out.trans U9.out⟩
end Go.Proofs.Ytnengokobkehfaa
