/- Proto: ProtoBack's walk. -/
import Derived.Test.YtnengokobkehfaaPrX
namespace Go.Proofs.Ytnengokobkehfaa
open Go.RowKit
set_option linter.unusedVariables false
variable {w w' W : World}
def lastL (bs : List (List Int)) : Nat := (bs.getLast?.getD []).length
set_option maxRecDepth 100000 in
set_option maxHeartbeats 2000000 in
theorem back_walk {aa : Option Addr} {ab ao n ac : Nat} {ms : List (C × Value)} {less : Int} (D : Msgs W aa ab ao n ac ms) (hn : n ≤ 1048576) (hq : I64 less) :
    Calls Try.prog 5 #[.slice aa n ac, .int .i64 less] W fun e w' => e = .returned (.bool true) ∧ Up W w' := by
  have HD : Hid (Msgs W aa ab ao n ac ms) := D
  have HQ : Hid (I64 less) := hq
  have hlc := D.lc
  have hni : (n : Int) ≤ 1048576 := by omega
  clear D hq
  go_enter Try.func5, Try.ntmps5
  go_wp2_with fail
  refine (fed_any W).mono ?_
  rintro e w1 ⟨rfl, hU1⟩
  have HU1 : Hid (Up W w1) := hU1
  clear hU1
  go_wp2_with fail
  go_loopw [6, 7, 8, 9] (fun av wv la i wr => ∃ (k : Nat) (sel : List (C × Value)) (bs : List (List Int)), k ≤ n ∧ i = .int .i64 k ∧ la = .int .i64 (lastL bs : Nat) ∧ Hid (BkSt w1 ms k wv av sel bs wr)) (fun _ _ _ i _ => n - (intOf i).toNat)
  case atStart => exact ⟨0, [], [], Nat.zero_le _, rfl, rfl, ⟨rfl, fun x h => (by cases h), World.ownsRow_nil _ _ _ _, World.ownsRow_nil _ _ _ _, Up.refl _, Nat.le_refl _, Nat.le_refl _, L8.nil⟩⟩
  case round =>
    obtain ⟨k, sel, bs, hk, rfl, rfl, hB⟩ := hrel
    obtain ⟨ga, gn, gc, hav⟩ := own_slice3 hB.out.aown
    obtain ⟨va, vn, vc, hwv⟩ := own_slice3 hB.out.wown
    subst hav hwv
    have hcnt := hB.out.cnt
    have hlen := hB.out.len
    by_cases hlt : k < n
    · have g1 : k < ms.length := by rw [HD.out.leq]; exact hlt
      obtain ⟨c, d, hx⟩ : ∃ c d, ms[k]? = some (c, d) := ⟨ms[k].1, ms[k].2, by rw [List.getElem?_eq_getElem g1]⟩
      obtain ⟨r1, b1, n8, nl⟩ := HD.out.at_ k _ hx
      have b1 : Bs 0 W d c.data.bs := b1
      obtain ⟨da, _, _, dc, hde, _⟩ := b1.ex
      obtain ⟨dl, hdl⟩ : ∃ dl, dl = c.data.bs.length := ⟨_, rfl⟩
      rw [← hdl] at hde
      subst hde
      have HXm : Hid ((c, Value.slice da dl dc) ∈ ms) := List.mem_of_getElem? hx
      have huw := HU1.out.trans hB.out.up
      have HRg : Hid (∀ w', Up wr w' → w'.rangeAt ab (ao + k * 5) (mC c (.slice da dl dc))) := fun w' u => range_up r1 (huw.trans u)
      have HCl : Hid (toM c).cl := toM_cl n8 b1.u8
      have HEn : Hid (Calls Try.prog 14 #[.agg (mC c (.slice da dl dc)).toArray] wr (EncAns wr (encF msgT (toM c)))) := encodeM_any wr (b1.up huw) n8 (by have h : c.name.bs.length ≤ 1048576 := nl; omega)
      have HOne : Hid (∀ v ∈ mC c (.slice da dl dc), v.oneCell' = true) := one_mC c rfl
      have ea := HD.out.ad (by omega)
      subst ea
      have hki : (k : Int) < n := by omega
      clear hx r1 b1 n8 nl huw g1 hdl
      go_wp2_with (refine wpList_load_mid rfl 35 _ rfl ab (ao + k * 5) rfl (mC c (.slice da dl dc)) _ (HRg.out _ (Up.refl _)) Try.underlying35 rfl (by kernel_rfl) ?_)
      refine Calls.mono HEn.out ?_
      cases hE : encF msgT (toM c) with
      | error x =>
        rintro e w7 ⟨rfl, hu7⟩
        have HB7 : Hid (BkSt w1 ms (k + 1) (.slice va vn vc) (.slice ga gn gc) sel bs w7) := ⟨hB.out.ok, hB.out.src, ownsRow_up hB.out.wown hu7, ownsRow_up hB.out.aown hu7, hB.out.up.trans hu7, by omega, hlen, hB.out.u8⟩
        have hx := enc_err hE
        clear hE hu7
        rcases hx with rfl | rfl
        all_goals
          go_wp2_with fail
          go_roundw
          case rel => exact ⟨k + 1, sel, bs, by omega, by go_num, rfl, HB7⟩
          case measure => simp [intOf]; omega
      | ok b =>
        have hbl := enc_le HCl.out hE
        have HE : Hid (encF msgT (toM c) = .ok b) := hE
        rintro e w7 ⟨⟨v7, rfl, ho7⟩, hu7⟩
        have HO7 : Hid (w7.ownsRow wr.heap.size 5 1 v7 b.length (u8s b)) := ho7
        have HU7 : Hid (Up wr w7) := hu7
        obtain ⟨xa, xn, xc, hv7⟩ := own_slice3 ho7
        subst hv7
        have HXn : Hid (xn = b.length) := by
          show _ = _
          rcases own_cases ho7 with ⟨e1, e2, _⟩ | ⟨g, cap, e1, _⟩
          · omega
          · injection e1
        have hs7 := HU7.out.size
        have hsw := hB.out.up.size
        have HX : Hid (∀ j v, (mC c (.slice da dl dc))[j]? = some v → (w7.alloc (.cells (mC c (.slice da dl dc)).toArray 35)).cell? ((⟨w7.heap.size, 0, none⟩ : Addr).add j) = some v) := fun j v hj => by
          rw [addr_add, Nat.zero_add]
          refine heap_cell (heap_alloc_new w7 _) ?_
          simpa using hj
        have HOw : Hid (∀ o, (w7.alloc o).ownsRow w1.heap.size 35 5 (.slice va vn vc) sel.length (mrC sel)) := fun o => ownsRow_up hB.out.wown (HU7.out.alloc o)
        have HKp : Hid (∀ w8 : World, (w7.alloc (.cells (mC c (.slice da dl dc)).toArray 35)).grownBy w8 (Value.slice va vn vc).ownBlock → w8.ownsRow w1.heap.size 5 1 (.slice ga gn gc) bs.flatten.length (u8s bs.flatten) ∧ Src w8 (.slice xa xn xc) b ∧ w1.heap.size ≤ w8.heap.size) := fun w8 hg => by
          have ww := HOw.out (.cells (mC c (.slice da dl dc)).toArray 35)
          have a7 := ownsRow_up hB.out.aown (HU7.out.alloc (.cells (mC c (.slice da dl dc)).toArray 35))
          have v7 := ownsRow_up HO7.out ((Up.refl w7).alloc (.cells (mC c (.slice da dl dc)).toArray 35))
          refine ⟨ownsRow_block a7 fun g hg' => hg.block g (a7.lt g hg').2 (fun e => own_ty a7 ww (by decide) hg' e.symm), Src.of_own (ownsRow_block v7 fun g hg' => hg.block g (v7.lt g hg').2 (fun e => own_ty v7 ww (by decide) hg' e.symm)), ?_⟩
          have := hg.size
          simp at this
          omega
        have HPs : Hid (∀ (v8 v9 : Value) (w8 w9 : World), w8.ownsRow w1.heap.size 35 5 v8 (sel.length + 1) (mrC sel ++ mC c (.slice da dl dc)) → (w7.alloc (.cells (mC c (.slice da dl dc)).toArray 35)).grownBy w8 (Value.slice va vn vc).ownBlock → w9.ownsRow w1.heap.size 5 1 v9 (bs.flatten ++ b).length (u8s (bs.flatten ++ b)) → w8.grownBy w9 (Value.slice ga gn gc).ownBlock → BkSt w1 ms (k + 1) v8 v9 (sel ++ [(c, .slice da dl dc)]) (bs ++ [b]) w9) := fun v8 v9 w8 w9 h1 h2 h3 h4 => hB.out.push HXm.out HE.out hbl.2.1 hbl.2.2 (HU7.out.alloc _) h1 h2 h3 h4
        have HLL : Hid (lastL (bs ++ [b]) = xn) := by show _ = _; rw [HXn.out]; unfold lastL; simp
        have hfl : bs.flatten.length + b.length ≤ 1099511627776 := by omega
        clear hE ho7 hu7
        unfold mC at *
        go_wp2_with (first
          | (refine wpList_load_mid rfl 35 _ rfl ab (ao + k * 5) rfl _ _ (HRg.out _ HU7.out) Try.underlying35 rfl (by kernel_rfl) ?_)
          | (refine wpList_append_own_at2 _ rfl _ _ 27 27 rfl w1.heap.size 35 Try.t35 _ 5 64 Try.underlying27 Try.underlying27 (by kernel_rfl) rfl rfl rfl rfl (by decide) (.slice va vn vc) sel.length (mrC sel) rfl (HOw.out _) ⟨w7.heap.size, 0, none⟩ 1 1 _ rfl (by simp) HX.out HOne.out (by unfold maxLen; omega) (by omega) (by simp; omega) (fun v8 w8 ho hg hw => ?_)
             have hk8 := HKp.out w8 hg
             have HK8 : Hid _ := hk8
             have HP8 : Hid _ := fun v9 w9 => HPs.out v8 v9 w8 w9 ho hg
             clear ho hg hw hk8)
          | (refine wpList_append_bytes rfl _ _ rfl w1.heap.size (.slice ga gn gc) bs.flatten rfl HK8.out.1 (.slice xa xn xc) b rfl HK8.out.2.1 (by omega) HK8.out.2.2 (fun v9 w9 ho hg hw => ?_)
             have HN : Hid (BkSt w1 ms (k + 1) v8 v9 (sel ++ [(c, .slice da dl dc)]) (bs ++ [b]) w9) := HP8.out v9 w9 ho hg
             clear ho hg hw))
        go_roundw
        case rel => exact ⟨k + 1, _, bs ++ [b], by omega, by go_num, by rw [HLL.out], HN⟩
        case measure => simp [intOf]; omega
    · skip
      have ek : k = n := by omega
      subst ek
      have huw := HU1.out.trans hB.out.up
      have HUW : Hid (Up W wr) := huw
      have HSl : Hid (∀ x ∈ sel, L8 x.1.name.bs ∧ Bs 0 W x.2 x.1.data.bs) := fun x hx => by
        obtain ⟨j, hj⟩ := List.getElem?_of_mem (hB.out.src x hx)
        have := HD.out.at_ j x hj
        exact ⟨this.2.2.1, this.2.1⟩
      have HA : Hid (wr.ownsRow w1.heap.size 5 1 (.slice ga gn gc) bs.flatten.length (u8s bs.flatten)) := hB.out.aown
      have HWn : Hid (wr.ownsRow w1.heap.size 35 5 (.slice va vn vc) sel.length (mrC sel)) := hB.out.wown
      obtain ⟨A, hA⟩ : ∃ A, A = bs.flatten := ⟨_, rfl⟩
      have HAe : Hid (A = bs.flatten) := hA
      have hgn : gn = A.length := by
        rw [hA]
        rcases own_cases HA.out with ⟨e1, e2, _⟩ | ⟨g, cap, e1, _⟩
        · injection e1 with _ e1 _
          omega
        · injection e1
      have hvn : vn = sel.length := by
        rcases own_cases HWn.out with ⟨e1, e2, _⟩ | ⟨g, cap, e1, _⟩
        · injection e1 with _ e1 _
          omega
        · injection e1
      have hgc : gn ≤ gc := by
        rcases own_cases HA.out with ⟨e1, e2, _⟩ | ⟨g, cap, e1, e2, _⟩
        · injection e1 with _ e1 e3
          omega
        · injection e1 with _ e1 e3
          omega
      rw [← hA] at HA hlen
      have hTb : gn ≤ 1099511627776 := by omega
      have hTi : (gn : Int) ≤ 1099511627776 := by omega
      have hA8 : L8 A := by rw [hA]; exact hB.out.u8
      have HA8 : Hid (F8 (fn A)) := fn_u8 hA8
      have HOK : Hid (sel.map (fun x => encF msgT (toM x.1)) = bs.map Except.ok) := hB.out.ok
      clear huw hA hB
      go_wp2_with fail
      refine (newDecoder_any wr).mono ?_
      rintro e w2 ⟨rfl, hDd, hU2, hs2⟩
      obtain ⟨dd, hdd⟩ : ∃ dd, dd = wr.heap.size := ⟨_, rfl⟩
      rw [← hdd] at hDd ⊢
      have HDd : Hid (Dcr w2 dd (.slice none 0 0) [] false) := hDd
      have HU2 : Hid (Up wr w2) := hU2
      have HZd : Hid (wr.heap.size ≤ dd ∧ dd < w2.heap.size) := ⟨by omega, by omega⟩
      have HE : Hid ((w2.alloc (.cells #[] 5)).ownsRow w2.heap.size 5 1 (.slice (some ⟨w2.heap.size, 0, none⟩) 0 0) 0 (u8s [])) := own_empty2 w2 _ _ (Nat.le_refl _)
      have hcs : ∀ x ∈ sel.map (fun x => toM x.1), x.cl := fun y hy => by
        obtain ⟨x, hx, rfl⟩ := List.mem_map.1 hy
        exact toM_cl (HSl.out x hx).1 (HSl.out x hx).2.u8
      have hokm : (sel.map (fun x => toM x.1)).map (encF msgT) = bs.map Except.ok := by rw [List.map_map]; exact HOK.out
      have hsel : sel.length ≤ 1048576 := by omega
      clear hDd hU2 hs2 hdd
      rcases List.eq_nil_or_concat bs with hb0 | ⟨bs', b, hb0⟩
      · have hA0 : A = [] := by rw [HAe.out, hb0]; rfl
        have hs0 : sel = [] := by
          have := congrArg List.length HOK.out
          rw [hb0] at this
          simpa using this
        have hL0 : lastL bs = 0 := by rw [hb0]; rfl
        rw [hL0]
        have hg0 : gn = 0 := by rw [hgn, hA0]; rfl
        have hv0 : vn = 0 := by rw [hvn, hs0]; rfl
        subst hg0
        have HGn : Hid (A.length = 0) := hgn.symm
        have HVn : Hid (vn = sel.length) := hvn
        have HS0 : Hid (sel = []) := hs0
        have hvb : vn ≤ 1048576 := by omega
        have HF1 : Hid (Dec msgT (fn A) 0 0 [] 0 0) := Dec.none (Nat.le_refl _)
        have HSh : Hid (∀ w', Up w2 w' → Src w' (.slice ga 0 gc) (bl (fn A) 0 0)) := fun w' u => src_h HA.out (Nat.zero_le _) (HU2.out.trans u)
        clear hcs hokm hL0 hgn hvn hs0 hA0 hb0 hv0
        rw [show ((0 : Nat) : Int) = 0 from rfl]
        go_wp2_with (refine wpList_append_bytes rfl _ _ rfl w2.heap.size (.slice (some ⟨w2.heap.size, 0, none⟩) 0 0) [] rfl HE.out (.slice ga 0 gc) (bl (fn A) 0 0) rfl (HSh.out _ ((Up.refl w2).alloc _)) (by rw [bl_len]; simp) (by simp) (fun v3 w3 ho hg hw => ?_))
        have u3 : Up w2 w3 := grown_up2 hg
        refine (feed_any (l := []) (y := bl (fn A) 0 0) w3 (HDd.out.up u3) (Src.of_own ho) (bl_u8 HA8.out _ _) (by rw [bl_len]; simp)).mono ?_
        rintro e w4 ⟨l1, e1, v1, rs1, r1, rfl, F1⟩
        obtain ⟨rfl, hm1, hr1, hD4⟩ := fed1 F1 HF1.out
        have hUp4 : Up wr w4 := F1.up (HU2.out.trans u3) HZd.out.1 (HDd.out.up u3)
        have HU4 : Hid (Up wr w4) := hUp4
        have HD4 : Hid (Dcr w4 dd v1 (bl (fn A) 0 (0 - 0)) false) := hD4
        have HM1 : Hid (rs1.map (·.1) = []) := hm1
        have hs3 := u3.size
        have hs4 := F1.size
        have HR1 : Hid (RowsM (fun b => w3.heap.size ≤ b ∧ l1.ownBlock ≠ some b ∧ v1.ownBlock ≠ some b) w3.heap.size w4 l1 rs1 ∧ (∀ b, l1.ownBlock = some b → v1.ownBlock ≠ some b) ∧ dd < w3.heap.size) := ⟨F1.rows, F1.apart, by have := HZd.out; omega⟩
        obtain ⟨l1a, l1n, l1c, hl1⟩ := own_slice3 F1.rows.own
        subst hl1
        clear F1 u3 ho hg hw HSh HE hm1 hr1 hD4 hUp4
        go_wp2_with fail
        refine (waiting_any w4 HD4.out).mono ?_
        rintro e w5 ⟨rfl, hw5⟩
        have hw5 : w5 = w4 := hw5
        subst hw5
        rw [bl_len]
        have HE2 : Hid ((w5.alloc (.cells #[] 5)).ownsRow w5.heap.size 5 1 (.slice (some ⟨w5.heap.size, 0, none⟩) 0 0) 0 (u8s [])) := own_empty2 w5 _ _ (Nat.le_refl _)
        by_cases hcM : gc = 0
        · have HSl2 : Hid (∀ w', Up w5 w' → Src w' (.slice ga 0 0) (bl (fn A) 0 0)) := fun w' u => by
            have h1 := src_l1 (w' := w') HA.out (by rw [HGn.out]; exact hcM)
            rw [HGn.out] at h1
            exact h1
          subst hcM
          go_wp2_with (refine wpList_append_bytes rfl _ _ rfl w5.heap.size (.slice (some ⟨w5.heap.size, 0, none⟩) 0 0) [] rfl HE2.out (.slice ga 0 0) (bl (fn A) 0 0) rfl (HSl2.out _ ((Up.refl w5).alloc _)) (by rw [bl_len]; simp) (by simp) (fun v6 w6 ho hg hw => ?_))
          have u6 : Up w5 w6 := grown_up2 hg
          refine (feed_any (l := bl (fn A) 0 (0 - 0)) (y := bl (fn A) 0 0) w6 (HD4.out.up u6) (Src.of_own ho) (bl_u8 HA8.out _ _) (by simp [bl_len])).mono ?_
          rintro e w8 ⟨l2, e2, v2, rs2, r2, rfl, F2⟩
          obtain ⟨rfl, hm2, hD8⟩ := fed2 (Nat.le_refl 0) F2 HF1.out
          have hUp8 : Up wr w8 := F2.up (HU4.out.trans u6) HZd.out.1 (HD4.out.up u6)
          have HU8 : Hid (Up wr w8) := hUp8
          have HD8 : Hid (Dcr w8 dd v2 [] false) := hD8
          have HM2 : Hid (rs2.map (·.1) = []) := hm2
          have R6 := HR1.out.1.up u6
          have HS1 : Hid (RowsM (fun b => w3.heap.size ≤ b) w3.heap.size w8 (.slice l1a l1n l1c) rs1) := R6.more (fun b hb hb2 => ⟨F2.block b hb2 (by have := HR1.out.2.2; omega) hb.2.2, hb.1⟩) (fun b hb => by have := R6.own.lt b hb; exact F2.block b this.2 (by have := HR1.out.2.2; omega) (HR1.out.2.1 b hb))
          have HS2 : Hid (RowsM (fun b => w6.heap.size ≤ b ∧ l2.ownBlock ≠ some b ∧ v2.ownBlock ≠ some b) w6.heap.size w8 l2 rs2) := F2.rows
          obtain ⟨l2a, l2n, l2c, hl2⟩ := own_slice3 F2.rows.own
          subst hl2
          clear F2 u6 ho hg hw HSl2 HE2 hm2 hD8 hUp8 R6 HR1
          go_wp2_with fail
          refine (waiting_any w8 HD8.out).mono ?_
          rintro e w9 ⟨rfl, hw9⟩
          have hw9 : w9 = w8 := hw9
          subst hw9
          rw [List.length_nil]
          have HMr : Hid ((rs1 ++ rs2).map (·.1) = sel.map (fun x => toM x.1)) := by show _ = _; rw [map_append', HM1.out, HM2.out, HS0.out]; rfl
          have hlr : rs1.length + rs2.length = sel.length := by have := congrArg List.length HMr.out; simpa using this
          have hl2 : rs2.length = 0 := by have := congrArg List.length HM2.out; simpa using this
          have hsb : sel.length ≤ 1048576 := by have := HVn.out; omega
          have h2n : l2n = rs2.length := by
            rcases own_cases HS2.out.own with ⟨e1, e2, _⟩ | ⟨g, cap, e1, _⟩
            · injection e1 with _ e1 _
              omega
            · injection e1
          have HL2 : Hid ((l2n : Int) = 0) := by show _ = _; omega
          have HLR : Hid (rs1.length + rs2.length = sel.length) := hlr
          have h63 : rs1.length + rs2.length ≤ 1099511627776 := by omega
          have h63a : rs1.length ≤ 1099511627776 := by omega
          clear hl2 h2n hlr
          have HE3 : Hid ((w9.alloc (.cells #[] 35)).ownsRow w9.heap.size 35 5 (.slice (some ⟨w9.heap.size, 0, none⟩) 0 0) ([] : List (C × Value)).length (mrC [])) := own_emptyM w9 _
          go_wp2_with (first
            | (refine wpList_append_msgs rfl _ _ rfl w9.heap.size (.slice (some ⟨w9.heap.size, 0, none⟩) 0 0) [] rfl HE3.out _ _ (.slice l1a l1n l1c) rs1 rfl (HS1.out.up ((Up.refl w9).alloc _)) (by rw [List.length_nil, Nat.zero_add]; exact h63a) (by simp) (fun v10 w10 ho hg hw => ?_)
               rw [List.length_nil, Nat.zero_add, show mrC [] ++ mrC rs1 = mrC rs1 from rfl] at ho
               have HG1 : Hid _ := hg
               have HO1 : Hid _ := ho
               have hsz10 := (grown_up2 hg).size
               clear ho hg hw)
            | (refine wpList_append_msgs rfl _ _ rfl w9.heap.size v10 rs1 rfl HO1.out _ _ (.slice l2a l2n l2c) rs2 rfl (HS2.out.up (grown_up2 HG1.out)) h63 hsz10 (fun v11 w11 ho hg hw => ?_)
               have hEnd := back_end HS1.out HS2.out HG1.out HO1.out ho hg
               have HEnd : Hid _ := hEnd
               clear ho hg hw hEnd
               have HU11 : Hid (Up wr w11) := HU8.out.trans HEnd.out.2
               obtain ⟨xa, xg, xc, xe, xl, xm, xad, xat⟩ := HEnd.out.1.at
               subst xe
               obtain ⟨ya, yg, yc, ye, yl, ym, yad, yat⟩ := (back_want HWn.out HSl.out HU11.out (HUW.out.trans HU11.out)).at
               injection ye with ye1 ye2 ye3
               subst ye1 ye3
               have HXat : Hid (∀ (k : Nat) (x : C × Value), (rs1 ++ rs2)[k]? = some x → w11.rangeAt xg (k * 5) (mC x.1 x.2) ∧ Bs 0 w11 x.2 x.1.data.bs) := xat
               have HYat : Hid (∀ (k : Nat) (x : C × Value), sel[k]? = some x → w11.rangeAt yg (k * 5) (mC x.1 x.2) ∧ Bs 0 w11 x.2 x.1.data.bs) := yat
               have HAx : Hid (0 < (rs1 ++ rs2).length → xa = some ⟨xg, 0, none⟩) := xad
               have HAy : Hid (0 < sel.length → va = some ⟨yg, 0, none⟩) := yad
               obtain ⟨N, hN⟩ : ∃ N, N = vn := ⟨_, rfl⟩
               have HN1 : Hid (N = sel.length) := by show _ = _; have := HVn.out; omega
               have HN2 : Hid (N = (rs1 ++ rs2).length) := by show _ = _; rw [List.length_append]; have := HVn.out; have := HLR.out; omega
               rw [← HN2.out] at xl ⊢
               rw [← HN1.out] at yl
               subst hN
               have hNi : (N : Int) ≤ 1048576 := by omega
               have h2i : (l2n : Int) = 0 := HL2.out
               clear xat yat xad yad ye2 HS1 HS2 HE3 HG1 HO1 hsz10 h63 h63a))
          generalize w11 = wo at *
          go_loopw [19] (fun i w8 => ∃ k : Nat, k ≤ N ∧ i = .int .i64 k ∧ Hid (Up wo w8)) (fun i _ => N - (intOf i).toNat)
          case atStart => exact ⟨0, Nat.zero_le _, rfl, Up.refl _⟩
          case round =>
            obtain ⟨k, hk, rfl, hU⟩ := hrel
            by_cases hlt : k < N
            · have g1 : k < (rs1 ++ rs2).length := by rw [← HN2.out]; exact hlt
              have g2 : k < sel.length := by rw [← HN1.out]; exact hlt
              obtain ⟨c0, d1, hx⟩ : ∃ c d, (rs1 ++ rs2)[k]? = some (c, d) := ⟨(rs1 ++ rs2)[k].1, (rs1 ++ rs2)[k].2, by rw [List.getElem?_eq_getElem g1]⟩
              obtain ⟨c, d2, hy⟩ : ∃ c d, sel[k]? = some (c, d) := ⟨sel[k].1, sel[k].2, by rw [List.getElem?_eq_getElem g2]⟩
              have exy : c0 = toM c := by
                have := congrArg (·[k]?) HMr.out
                simp only [List.getElem?_map, hx, hy, Option.map_some] at this
                injection this
              subst exy
              obtain ⟨r1, b1⟩ := HXat.out k _ hx
              obtain ⟨r2, b2⟩ := HYat.out k _ hy
              have ea := HAx.out (by omega)
              subst ea
              have eb := HAy.out (by omega)
              subst eb
              have R1 : Hid (wo.rangeAt xg (k * 5) (mC c d1)) := r1
              have R2 : Hid (wo.rangeAt yg (k * 5) (mC c d2)) := r2
              have B1 : Hid (Bs 0 wo d1 c.data.bs) := b1
              have B2 : Hid (Bs 0 wo d2 c.data.bs) := b2
              obtain ⟨p1, _, _, q1, s1, _⟩ := B1.out.ex
              obtain ⟨p2, _, _, q2, s2, _⟩ := B2.out.ex
              subst s1 s2
              have hki : (k : Int) < N := by omega
              clear r1 r2 b1 b2 hx hy g1 g2
              go_wp2_with fail
              refine wp_still2 8 (by kernel_rfl) (by kernel_rfl) ?_
              intro w9 hw9
              have u9 : Up wo w9 := hU.out.trans (by rw [hw9]; exact (Up.refl _).drew)
              have x0 : w9.cell? ⟨xg, k * 5 + 0, none⟩ = some (.int .i64 c.kind) := range_up R1.out u9 0 _ rfl
              have x1 : w9.cell? ⟨xg, k * 5 + 1, none⟩ = some (.int .i64 c.tenant.num) := range_up R1.out u9 1 _ rfl
              have x2 : w9.cell? ⟨xg, k * 5 + 2, none⟩ = some (.string (strOfNums c.name.bs)) := range_up R1.out u9 2 _ rfl
              have x3 : w9.cell? ⟨xg, k * 5 + 3, none⟩ = some (.int .i64 c.n.num) := range_up R1.out u9 3 _ rfl
              have x4 : w9.cell? ⟨xg, k * 5 + 4, none⟩ = some (.slice p1 c.data.bs.length q1) := range_up R1.out u9 4 _ rfl
              have y0 : w9.cell? ⟨yg, k * 5 + 0, none⟩ = some (.int .i64 c.kind) := range_up R2.out u9 0 _ rfl
              have y1 : w9.cell? ⟨yg, k * 5 + 1, none⟩ = some (.int .i64 c.tenant.num) := range_up R2.out u9 1 _ rfl
              have y2 : w9.cell? ⟨yg, k * 5 + 2, none⟩ = some (.string (strOfNums c.name.bs)) := range_up R2.out u9 2 _ rfl
              have y3 : w9.cell? ⟨yg, k * 5 + 3, none⟩ = some (.int .i64 c.n.num) := range_up R2.out u9 3 _ rfl
              have y4 : w9.cell? ⟨yg, k * 5 + 4, none⟩ = some (.slice p2 c.data.bs.length q2) := range_up R2.out u9 4 _ rfl
              have U9 : Hid (Up wo w9) := u9
              have HSm : Hid _ := same_yes w9 (B1.out.up u9) (B2.out.up u9)
              clear hw9 u9
              rw [Nat.add_zero] at x0 y0
              simp only [List.take_succ_cons, List.take_zero, List.drop_succ_cons, List.drop_zero]
              repeat (go_big_quiet_step (fail))
              refine wpQuiet_nil ?_
              go_wp2_with fail
              refine Calls.mono HSm.out ?_
              rintro e w10 ⟨rfl, hU10⟩
              have U10 : Hid (Up wo w10) := U9.out.trans hU10
              clear hU10 x0 x1 x2 x3 x4 y0 y1 y2 y3 y4
              go_wp2_with fail
              go_roundw
              case rel => exact ⟨k + 1, by omega, by go_num, U10⟩
              case measure => simp [intOf]; omega
            · have ek : k = N := by omega
              subst ek
              go_wp2_with fail
              go_ret
              exact ⟨rfl, (HUW.out.trans HU11.out).trans hU.out⟩
        · have HSl2 : Hid (∀ w', Up w5 w' → Src w' (.slice ga 0 gc) (bl (fn A) 0 0)) := fun w' u => src_h HA.out (Nat.zero_le _) (HU4.out.trans u)
          go_wp2_with (refine wpList_append_bytes rfl _ _ rfl w5.heap.size (.slice (some ⟨w5.heap.size, 0, none⟩) 0 0) [] rfl HE2.out (.slice ga 0 gc) (bl (fn A) 0 0) rfl (HSl2.out _ ((Up.refl w5).alloc _)) (by rw [bl_len]; simp) (by simp) (fun v6 w6 ho hg hw => ?_))
          have u6 : Up w5 w6 := grown_up2 hg
          refine (feed_any (l := bl (fn A) 0 (0 - 0)) (y := bl (fn A) 0 0) w6 (HD4.out.up u6) (Src.of_own ho) (bl_u8 HA8.out _ _) (by simp [bl_len])).mono ?_
          rintro e w8 ⟨l2, e2, v2, rs2, r2, rfl, F2⟩
          obtain ⟨rfl, hm2, hD8⟩ := fed2 (Nat.le_refl 0) F2 HF1.out
          have hUp8 : Up wr w8 := F2.up (HU4.out.trans u6) HZd.out.1 (HD4.out.up u6)
          have HU8 : Hid (Up wr w8) := hUp8
          have HD8 : Hid (Dcr w8 dd v2 [] false) := hD8
          have HM2 : Hid (rs2.map (·.1) = []) := hm2
          have R6 := HR1.out.1.up u6
          have HS1 : Hid (RowsM (fun b => w3.heap.size ≤ b) w3.heap.size w8 (.slice l1a l1n l1c) rs1) := R6.more (fun b hb hb2 => ⟨F2.block b hb2 (by have := HR1.out.2.2; omega) hb.2.2, hb.1⟩) (fun b hb => by have := R6.own.lt b hb; exact F2.block b this.2 (by have := HR1.out.2.2; omega) (HR1.out.2.1 b hb))
          have HS2 : Hid (RowsM (fun b => w6.heap.size ≤ b ∧ l2.ownBlock ≠ some b ∧ v2.ownBlock ≠ some b) w6.heap.size w8 l2 rs2) := F2.rows
          obtain ⟨l2a, l2n, l2c, hl2⟩ := own_slice3 F2.rows.own
          subst hl2
          clear F2 u6 ho hg hw HSl2 HE2 hm2 hD8 hUp8 R6 HR1
          go_wp2_with fail
          refine (waiting_any w8 HD8.out).mono ?_
          rintro e w9 ⟨rfl, hw9⟩
          have hw9 : w9 = w8 := hw9
          subst hw9
          rw [List.length_nil]
          have HMr : Hid ((rs1 ++ rs2).map (·.1) = sel.map (fun x => toM x.1)) := by show _ = _; rw [map_append', HM1.out, HM2.out, HS0.out]; rfl
          have hlr : rs1.length + rs2.length = sel.length := by have := congrArg List.length HMr.out; simpa using this
          have hl2 : rs2.length = 0 := by have := congrArg List.length HM2.out; simpa using this
          have hsb : sel.length ≤ 1048576 := by have := HVn.out; omega
          have h2n : l2n = rs2.length := by
            rcases own_cases HS2.out.own with ⟨e1, e2, _⟩ | ⟨g, cap, e1, _⟩
            · injection e1 with _ e1 _
              omega
            · injection e1
          have HL2 : Hid ((l2n : Int) = 0) := by show _ = _; omega
          have HLR : Hid (rs1.length + rs2.length = sel.length) := hlr
          have h63 : rs1.length + rs2.length ≤ 1099511627776 := by omega
          have h63a : rs1.length ≤ 1099511627776 := by omega
          clear hl2 h2n hlr
          have HE3 : Hid ((w9.alloc (.cells #[] 35)).ownsRow w9.heap.size 35 5 (.slice (some ⟨w9.heap.size, 0, none⟩) 0 0) ([] : List (C × Value)).length (mrC [])) := own_emptyM w9 _
          go_wp2_with (first
            | (refine wpList_append_msgs rfl _ _ rfl w9.heap.size (.slice (some ⟨w9.heap.size, 0, none⟩) 0 0) [] rfl HE3.out _ _ (.slice l1a l1n l1c) rs1 rfl (HS1.out.up ((Up.refl w9).alloc _)) (by rw [List.length_nil, Nat.zero_add]; exact h63a) (by simp) (fun v10 w10 ho hg hw => ?_)
               rw [List.length_nil, Nat.zero_add, show mrC [] ++ mrC rs1 = mrC rs1 from rfl] at ho
               have HG1 : Hid _ := hg
               have HO1 : Hid _ := ho
               have hsz10 := (grown_up2 hg).size
               clear ho hg hw)
            | (refine wpList_append_msgs rfl _ _ rfl w9.heap.size v10 rs1 rfl HO1.out _ _ (.slice l2a l2n l2c) rs2 rfl (HS2.out.up (grown_up2 HG1.out)) h63 hsz10 (fun v11 w11 ho hg hw => ?_)
               have hEnd := back_end HS1.out HS2.out HG1.out HO1.out ho hg
               have HEnd : Hid _ := hEnd
               clear ho hg hw hEnd
               have HU11 : Hid (Up wr w11) := HU8.out.trans HEnd.out.2
               obtain ⟨xa, xg, xc, xe, xl, xm, xad, xat⟩ := HEnd.out.1.at
               subst xe
               obtain ⟨ya, yg, yc, ye, yl, ym, yad, yat⟩ := (back_want HWn.out HSl.out HU11.out (HUW.out.trans HU11.out)).at
               injection ye with ye1 ye2 ye3
               subst ye1 ye3
               have HXat : Hid (∀ (k : Nat) (x : C × Value), (rs1 ++ rs2)[k]? = some x → w11.rangeAt xg (k * 5) (mC x.1 x.2) ∧ Bs 0 w11 x.2 x.1.data.bs) := xat
               have HYat : Hid (∀ (k : Nat) (x : C × Value), sel[k]? = some x → w11.rangeAt yg (k * 5) (mC x.1 x.2) ∧ Bs 0 w11 x.2 x.1.data.bs) := yat
               have HAx : Hid (0 < (rs1 ++ rs2).length → xa = some ⟨xg, 0, none⟩) := xad
               have HAy : Hid (0 < sel.length → va = some ⟨yg, 0, none⟩) := yad
               obtain ⟨N, hN⟩ : ∃ N, N = vn := ⟨_, rfl⟩
               have HN1 : Hid (N = sel.length) := by show _ = _; have := HVn.out; omega
               have HN2 : Hid (N = (rs1 ++ rs2).length) := by show _ = _; rw [List.length_append]; have := HVn.out; have := HLR.out; omega
               rw [← HN2.out] at xl ⊢
               rw [← HN1.out] at yl
               subst hN
               have hNi : (N : Int) ≤ 1048576 := by omega
               have h2i : (l2n : Int) = 0 := HL2.out
               clear xat yat xad yad ye2 HS1 HS2 HE3 HG1 HO1 hsz10 h63 h63a))
          generalize w11 = wo at *
          go_loopw [19] (fun i w8 => ∃ k : Nat, k ≤ N ∧ i = .int .i64 k ∧ Hid (Up wo w8)) (fun i _ => N - (intOf i).toNat)
          case atStart => exact ⟨0, Nat.zero_le _, rfl, Up.refl _⟩
          case round =>
            obtain ⟨k, hk, rfl, hU⟩ := hrel
            by_cases hlt : k < N
            · have g1 : k < (rs1 ++ rs2).length := by rw [← HN2.out]; exact hlt
              have g2 : k < sel.length := by rw [← HN1.out]; exact hlt
              obtain ⟨c0, d1, hx⟩ : ∃ c d, (rs1 ++ rs2)[k]? = some (c, d) := ⟨(rs1 ++ rs2)[k].1, (rs1 ++ rs2)[k].2, by rw [List.getElem?_eq_getElem g1]⟩
              obtain ⟨c, d2, hy⟩ : ∃ c d, sel[k]? = some (c, d) := ⟨sel[k].1, sel[k].2, by rw [List.getElem?_eq_getElem g2]⟩
              have exy : c0 = toM c := by
                have := congrArg (·[k]?) HMr.out
                simp only [List.getElem?_map, hx, hy, Option.map_some] at this
                injection this
              subst exy
              obtain ⟨r1, b1⟩ := HXat.out k _ hx
              obtain ⟨r2, b2⟩ := HYat.out k _ hy
              have ea := HAx.out (by omega)
              subst ea
              have eb := HAy.out (by omega)
              subst eb
              have R1 : Hid (wo.rangeAt xg (k * 5) (mC c d1)) := r1
              have R2 : Hid (wo.rangeAt yg (k * 5) (mC c d2)) := r2
              have B1 : Hid (Bs 0 wo d1 c.data.bs) := b1
              have B2 : Hid (Bs 0 wo d2 c.data.bs) := b2
              obtain ⟨p1, _, _, q1, s1, _⟩ := B1.out.ex
              obtain ⟨p2, _, _, q2, s2, _⟩ := B2.out.ex
              subst s1 s2
              have hki : (k : Int) < N := by omega
              clear r1 r2 b1 b2 hx hy g1 g2
              go_wp2_with fail
              refine wp_still2 8 (by kernel_rfl) (by kernel_rfl) ?_
              intro w9 hw9
              have u9 : Up wo w9 := hU.out.trans (by rw [hw9]; exact (Up.refl _).drew)
              have x0 : w9.cell? ⟨xg, k * 5 + 0, none⟩ = some (.int .i64 c.kind) := range_up R1.out u9 0 _ rfl
              have x1 : w9.cell? ⟨xg, k * 5 + 1, none⟩ = some (.int .i64 c.tenant.num) := range_up R1.out u9 1 _ rfl
              have x2 : w9.cell? ⟨xg, k * 5 + 2, none⟩ = some (.string (strOfNums c.name.bs)) := range_up R1.out u9 2 _ rfl
              have x3 : w9.cell? ⟨xg, k * 5 + 3, none⟩ = some (.int .i64 c.n.num) := range_up R1.out u9 3 _ rfl
              have x4 : w9.cell? ⟨xg, k * 5 + 4, none⟩ = some (.slice p1 c.data.bs.length q1) := range_up R1.out u9 4 _ rfl
              have y0 : w9.cell? ⟨yg, k * 5 + 0, none⟩ = some (.int .i64 c.kind) := range_up R2.out u9 0 _ rfl
              have y1 : w9.cell? ⟨yg, k * 5 + 1, none⟩ = some (.int .i64 c.tenant.num) := range_up R2.out u9 1 _ rfl
              have y2 : w9.cell? ⟨yg, k * 5 + 2, none⟩ = some (.string (strOfNums c.name.bs)) := range_up R2.out u9 2 _ rfl
              have y3 : w9.cell? ⟨yg, k * 5 + 3, none⟩ = some (.int .i64 c.n.num) := range_up R2.out u9 3 _ rfl
              have y4 : w9.cell? ⟨yg, k * 5 + 4, none⟩ = some (.slice p2 c.data.bs.length q2) := range_up R2.out u9 4 _ rfl
              have U9 : Hid (Up wo w9) := u9
              have HSm : Hid _ := same_yes w9 (B1.out.up u9) (B2.out.up u9)
              clear hw9 u9
              rw [Nat.add_zero] at x0 y0
              simp only [List.take_succ_cons, List.take_zero, List.drop_succ_cons, List.drop_zero]
              repeat (go_big_quiet_step (fail))
              refine wpQuiet_nil ?_
              go_wp2_with fail
              refine Calls.mono HSm.out ?_
              rintro e w10 ⟨rfl, hU10⟩
              have U10 : Hid (Up wo w10) := U9.out.trans hU10
              clear hU10 x0 x1 x2 x3 x4 y0 y1 y2 y3 y4
              go_wp2_with fail
              go_roundw
              case rel => exact ⟨k + 1, by omega, by go_num, U10⟩
              case measure => simp [intOf]; omega
            · have ek : k = N := by omega
              subst ek
              go_wp2_with fail
              go_ret
              exact ⟨rfl, (HUW.out.trans HU11.out).trans hU.out⟩
      · rw [List.concat_eq_append] at hb0
        have hsl : ∃ sel' x, sel = sel' ++ [x] := by
          rcases List.eq_nil_or_concat sel with h0 | ⟨sel', x, h0⟩
          · have := congrArg List.length HOK.out
            rw [hb0, h0] at this
            simp at this
          · exact ⟨sel', x, by rw [h0, List.concat_eq_append]⟩
        obtain ⟨sel', x, hsl⟩ := hsl
        have hm : sel.map (fun x => toM x.1) = sel'.map (fun x => toM x.1) ++ [toM x.1] := by rw [hsl]; simp
        rw [hm] at hcs hokm
        have hL1 : lastL bs = b.length := by rw [hb0]; unfold lastL; simp
        have hbe : encF msgT (toM x.1) = .ok b := by
          rw [hb0, List.map_append, List.map_append] at hokm
          have hlen : ((sel'.map (fun x => toM x.1)).map (encF msgT)).length = (bs'.map Except.ok : List (Except Int (List Int))).length := by have := congrArg List.length hokm; simp at this; simpa using this
          have := (List.append_inj hokm hlen).2
          simpa using this
        have hb5 := enc_le (hcs (toM x.1) (by simp)) hbe
        rw [hL1]
        have hl0 : (0 : Int) < (b.length : Nat) := by omega
        have hp0 := pickI_lo less ((b.length : Int) - 1) (by omega)
        have hp1 := pickI_hi less ((b.length : Int) - 1) (by omega)
        have HPk : Hid (Calls Try.prog 10 #[.int .i64 less, .int .i64 ((b.length : Int) - 1)] w2 fun e w' => e = .returned (.int .i64 (pickI less ((b.length : Int) - 1))) ∧ w' = w2) := pick_any less ((b.length : Int) - 1) w2 HQ.out (by omega) (by omega)
        obtain ⟨p, hp⟩ := Int.eq_ofNat_of_zero_le hp0
        rw [hp] at HPk hp1
        obtain ⟨hT, hD1, hD2⟩ := back_dec (A := A) hcs (by rw [← hb0]; exact hokm) (by rw [HAe.out, hb0]) (1 + p) (by omega) (by omega)
        obtain ⟨M, hM⟩ : ∃ M, M = gn - (1 + p) := ⟨_, rfl⟩
        have HF1 : Hid (Dec msgT (fn A) M 0 (sel'.map (fun x => toM x.1)) bs'.flatten.length 0) := by show Dec _ _ _ _ _ _ _; rw [hM, hgn]; exact hD1
        have HF2 : Hid (Dec msgT (fn A) (M + (1 + p)) bs'.flatten.length [toM x.1] (M + (1 + p)) 0) := by show Dec _ _ _ _ _ _ _; rw [show M + (1 + p) = A.length by omega]; exact hD2
        obtain ⟨R1, hR1⟩ : ∃ R1, R1 = bs'.flatten.length := ⟨_, rfl⟩
        rw [← hR1] at HF1 HF2 hT
        obtain ⟨bl', hbl'⟩ : ∃ bl', bl' = b.length := ⟨_, rfl⟩
        rw [← hbl'] at HPk hp1 hl0 hT hb5 ⊢
        have hRM : R1 ≤ M := by omega
        have hMi : (gn : Int) - (1 + (p : Int)) = M := by omega
        have hpb : (p : Int) ≤ 262404 := by omega
        have hMg : M ≤ gn := by omega
        have hMn : M + (1 + p) = gn := by omega
        have HMs : Hid (sel.map (fun x => toM x.1) = sel'.map (fun x => toM x.1) ++ [toM x.1]) := hm
        have HGn : Hid (gn = A.length) := hgn
        have HVn : Hid (vn = sel.length) := hvn
        have HTT : Hid (A.length = R1 + bl') := hT
        have HMn : Hid (M + (1 + p) = gn) := hMn
        have hWt : ((M - R1 : Nat) : Int) = (bl' : Int) - (1 + (p : Int)) := by omega
        have HWt : Hid (((M - R1 : Nat) : Int) = (bl' : Int) - (1 + (p : Int))) := hWt
        have hvb : vn ≤ 1048576 := by omega
        clear hcs hokm hD1 hD2 hp0 hp hbe hL1 hb0 hsl hm hR1 hbl' hM hgn hvn hT hMn hWt
        have HSh : Hid (∀ w', Up w2 w' → Src w' (.slice ga M gc) (bl (fn A) 0 M)) := fun w' u => src_h HA.out (by have := HGn.out; omega) (HU2.out.trans u)
        go_wp2_with fail
        refine Calls.mono HPk.out ?_
        rintro e w7 ⟨rfl, hw7⟩
        have hw7 : w7 = w2 := hw7
        subst hw7
        go_wp2_with (refine wpList_append_bytes rfl _ _ rfl w7.heap.size (.slice (some ⟨w7.heap.size, 0, none⟩) 0 0) [] rfl HE.out (.slice ga M gc) (bl (fn A) 0 M) rfl (HSh.out _ ((Up.refl w7).alloc _)) (by rw [bl_len]; simp <;> omega) (by simp) (fun v3 w3 ho hg hw => ?_))
        have u3 : Up w7 w3 := grown_up2 hg
        refine (feed_any (l := []) (y := bl (fn A) 0 M) w3 (HDd.out.up u3) (Src.of_own ho) (bl_u8 HA8.out _ _) (by rw [bl_len]; simp <;> omega)).mono ?_
        rintro e w4 ⟨l1, e1, v1, rs1, r1, rfl, F1⟩
        obtain ⟨rfl, hm1, hr1, hD4⟩ := fed1 F1 HF1.out
        have hUp4 : Up wr w4 := F1.up (HU2.out.trans u3) HZd.out.1 (HDd.out.up u3)
        have HU4 : Hid (Up wr w4) := hUp4
        have HD4 : Hid (Dcr w4 dd v1 (bl (fn A) R1 (M - R1)) false) := hD4
        have HM1 : Hid (rs1.map (·.1) = sel'.map (fun x => toM x.1)) := hm1
        have hs3 := u3.size
        have hs4 := F1.size
        have HR1 : Hid (RowsM (fun b => w3.heap.size ≤ b ∧ l1.ownBlock ≠ some b ∧ v1.ownBlock ≠ some b) w3.heap.size w4 l1 rs1 ∧ (∀ b, l1.ownBlock = some b → v1.ownBlock ≠ some b) ∧ dd < w3.heap.size) := ⟨F1.rows, F1.apart, by have := HZd.out; omega⟩
        obtain ⟨l1a, l1n, l1c, hl1⟩ := own_slice3 F1.rows.own
        subst hl1
        clear F1 u3 ho hg hw HSh HE hm1 hr1 hD4 hUp4 HPk
        go_wp2_with fail
        refine (waiting_any w4 HD4.out).mono ?_
        rintro e w5 ⟨rfl, hw5⟩
        have hw5 : w5 = w4 := hw5
        subst hw5
        rw [bl_len, HWt.out]
        have HE2 : Hid ((w5.alloc (.cells #[] 5)).ownsRow w5.heap.size 5 1 (.slice (some ⟨w5.heap.size, 0, none⟩) 0 0) 0 (u8s [])) := own_empty2 w5 _ _ (Nat.le_refl _)
        have hcM : ¬ gc = M := by omega
        have HSl2 : Hid (∀ w', Up w5 w' → Src w' (.slice (ga.map (·.add M)) (gn - M) (gc - M)) (bl (fn A) M (1 + p))) := fun w' u => by
          have h1 := src_l2 HA.out (h := M) (by have := HGn.out; omega) hcM (HU4.out.trans u)
          rw [← HGn.out] at h1
          rw [show gn - M = 1 + p by omega] at h1 ⊢
          exact h1
        go_wp2_with (refine wpList_append_bytes rfl _ _ rfl w5.heap.size (.slice (some ⟨w5.heap.size, 0, none⟩) 0 0) [] rfl HE2.out (.slice (ga.map (·.add M)) (gn - M) (gc - M)) (bl (fn A) M (1 + p)) rfl (HSl2.out _ ((Up.refl w5).alloc _)) (by rw [bl_len]; simp <;> omega) (by simp) (fun v6 w6 ho hg hw => ?_))
        have u6 : Up w5 w6 := grown_up2 hg
        refine (feed_any (l := bl (fn A) R1 (M - R1)) (y := bl (fn A) M (1 + p)) w6 (HD4.out.up u6) (Src.of_own ho) (bl_u8 HA8.out _ _) (by rw [bl_len, bl_len]; omega)).mono ?_
        rintro e w8 ⟨l2, e2, v2, rs2, r2, rfl, F2⟩
        obtain ⟨rfl, hm2, hD8⟩ := fed2 hRM F2 HF2.out
        have hUp8 : Up wr w8 := F2.up (HU4.out.trans u6) HZd.out.1 (HD4.out.up u6)
        have HU8 : Hid (Up wr w8) := hUp8
        have HD8 : Hid (Dcr w8 dd v2 [] false) := hD8
        have HM2 : Hid (rs2.map (·.1) = [toM x.1]) := hm2
        have R6 := HR1.out.1.up u6
        have HS1 : Hid (RowsM (fun b => w3.heap.size ≤ b) w3.heap.size w8 (.slice l1a l1n l1c) rs1) := R6.more (fun b hb hb2 => ⟨F2.block b hb2 (by have := HR1.out.2.2; omega) hb.2.2, hb.1⟩) (fun b hb => by have := R6.own.lt b hb; exact F2.block b this.2 (by have := HR1.out.2.2; omega) (HR1.out.2.1 b hb))
        have HS2 : Hid (RowsM (fun b => w6.heap.size ≤ b ∧ l2.ownBlock ≠ some b ∧ v2.ownBlock ≠ some b) w6.heap.size w8 l2 rs2) := F2.rows
        obtain ⟨l2a, l2n, l2c, hl2⟩ := own_slice3 F2.rows.own
        subst hl2
        clear F2 u6 ho hg hw HSl2 HE2 hm2 hD8 hUp8 R6 HR1
        go_wp2_with fail
        refine (waiting_any w8 HD8.out).mono ?_
        rintro e w9 ⟨rfl, hw9⟩
        have hw9 : w9 = w8 := hw9
        subst hw9
        rw [List.length_nil]
        have HMr : Hid ((rs1 ++ rs2).map (·.1) = sel.map (fun x => toM x.1)) := by show _ = _; rw [map_append', HM1.out, HM2.out, HMs.out]
        have hlr : rs1.length + rs2.length = sel.length := by have := congrArg List.length HMr.out; simpa using this
        have hl2 : rs2.length = 1 := by have := congrArg List.length HM2.out; simpa using this
        have hsb : sel.length ≤ 1048576 := by have := HVn.out; omega
        have h2n : l2n = rs2.length := by
          rcases own_cases HS2.out.own with ⟨e1, e2, _⟩ | ⟨g, cap, e1, _⟩
          · injection e1 with _ e1 _
            omega
          · injection e1
        have HL2 : Hid ((l2n : Int) = 1) := by show _ = _; omega
        have HLR : Hid (rs1.length + rs2.length = sel.length) := hlr
        have h63 : rs1.length + rs2.length ≤ 1099511627776 := by omega
        have h63a : rs1.length ≤ 1099511627776 := by omega
        clear hl2 h2n hlr
        have HE3 : Hid ((w9.alloc (.cells #[] 35)).ownsRow w9.heap.size 35 5 (.slice (some ⟨w9.heap.size, 0, none⟩) 0 0) ([] : List (C × Value)).length (mrC [])) := own_emptyM w9 _
        go_wp2_with (first
          | (refine wpList_append_msgs rfl _ _ rfl w9.heap.size (.slice (some ⟨w9.heap.size, 0, none⟩) 0 0) [] rfl HE3.out _ _ (.slice l1a l1n l1c) rs1 rfl (HS1.out.up ((Up.refl w9).alloc _)) (by rw [List.length_nil, Nat.zero_add]; exact h63a) (by simp) (fun v10 w10 ho hg hw => ?_)
             rw [List.length_nil, Nat.zero_add, show mrC [] ++ mrC rs1 = mrC rs1 from rfl] at ho
             have HG1 : Hid _ := hg
             have HO1 : Hid _ := ho
             have hsz10 := (grown_up2 hg).size
             clear ho hg hw)
          | (refine wpList_append_msgs rfl _ _ rfl w9.heap.size v10 rs1 rfl HO1.out _ _ (.slice l2a l2n l2c) rs2 rfl (HS2.out.up (grown_up2 HG1.out)) h63 hsz10 (fun v11 w11 ho hg hw => ?_)
             have hEnd := back_end HS1.out HS2.out HG1.out HO1.out ho hg
             have HEnd : Hid _ := hEnd
             clear ho hg hw hEnd
             have HU11 : Hid (Up wr w11) := HU8.out.trans HEnd.out.2
             obtain ⟨xa, xg, xc, xe, xl, xm, xad, xat⟩ := HEnd.out.1.at
             subst xe
             obtain ⟨ya, yg, yc, ye, yl, ym, yad, yat⟩ := (back_want HWn.out HSl.out HU11.out (HUW.out.trans HU11.out)).at
             injection ye with ye1 ye2 ye3
             subst ye1 ye3
             have HXat : Hid (∀ (k : Nat) (x : C × Value), (rs1 ++ rs2)[k]? = some x → w11.rangeAt xg (k * 5) (mC x.1 x.2) ∧ Bs 0 w11 x.2 x.1.data.bs) := xat
             have HYat : Hid (∀ (k : Nat) (x : C × Value), sel[k]? = some x → w11.rangeAt yg (k * 5) (mC x.1 x.2) ∧ Bs 0 w11 x.2 x.1.data.bs) := yat
             have HAx : Hid (0 < (rs1 ++ rs2).length → xa = some ⟨xg, 0, none⟩) := xad
             have HAy : Hid (0 < sel.length → va = some ⟨yg, 0, none⟩) := yad
             obtain ⟨N, hN⟩ : ∃ N, N = vn := ⟨_, rfl⟩
             have HN1 : Hid (N = sel.length) := by show _ = _; have := HVn.out; omega
             have HN2 : Hid (N = (rs1 ++ rs2).length) := by show _ = _; rw [List.length_append]; have := HVn.out; have := HLR.out; omega
             rw [← HN2.out] at xl ⊢
             rw [← HN1.out] at yl
             subst hN
             have hNi : (N : Int) ≤ 1048576 := by omega
             have h2i : (l2n : Int) = 1 := HL2.out
             clear xat yat xad yad ye2 HS1 HS2 HE3 HG1 HO1 hsz10 h63 h63a))
        generalize w11 = wo at *
        go_loopw [19] (fun i w8 => ∃ k : Nat, k ≤ N ∧ i = .int .i64 k ∧ Hid (Up wo w8)) (fun i _ => N - (intOf i).toNat)
        case atStart => exact ⟨0, Nat.zero_le _, rfl, Up.refl _⟩
        case round =>
          obtain ⟨k, hk, rfl, hU⟩ := hrel
          by_cases hlt : k < N
          · have g1 : k < (rs1 ++ rs2).length := by rw [← HN2.out]; exact hlt
            have g2 : k < sel.length := by rw [← HN1.out]; exact hlt
            obtain ⟨c0, d1, hx⟩ : ∃ c d, (rs1 ++ rs2)[k]? = some (c, d) := ⟨(rs1 ++ rs2)[k].1, (rs1 ++ rs2)[k].2, by rw [List.getElem?_eq_getElem g1]⟩
            obtain ⟨c, d2, hy⟩ : ∃ c d, sel[k]? = some (c, d) := ⟨sel[k].1, sel[k].2, by rw [List.getElem?_eq_getElem g2]⟩
            have exy : c0 = toM c := by
              have := congrArg (·[k]?) HMr.out
              simp only [List.getElem?_map, hx, hy, Option.map_some] at this
              injection this
            subst exy
            obtain ⟨r1, b1⟩ := HXat.out k _ hx
            obtain ⟨r2, b2⟩ := HYat.out k _ hy
            have ea := HAx.out (by omega)
            subst ea
            have eb := HAy.out (by omega)
            subst eb
            have R1 : Hid (wo.rangeAt xg (k * 5) (mC c d1)) := r1
            have R2 : Hid (wo.rangeAt yg (k * 5) (mC c d2)) := r2
            have B1 : Hid (Bs 0 wo d1 c.data.bs) := b1
            have B2 : Hid (Bs 0 wo d2 c.data.bs) := b2
            obtain ⟨p1, _, _, q1, s1, _⟩ := B1.out.ex
            obtain ⟨p2, _, _, q2, s2, _⟩ := B2.out.ex
            subst s1 s2
            have hki : (k : Int) < N := by omega
            clear r1 r2 b1 b2 hx hy g1 g2
            go_wp2_with fail
            refine wp_still2 8 (by kernel_rfl) (by kernel_rfl) ?_
            intro w9 hw9
            have u9 : Up wo w9 := hU.out.trans (by rw [hw9]; exact (Up.refl _).drew)
            have x0 : w9.cell? ⟨xg, k * 5 + 0, none⟩ = some (.int .i64 c.kind) := range_up R1.out u9 0 _ rfl
            have x1 : w9.cell? ⟨xg, k * 5 + 1, none⟩ = some (.int .i64 c.tenant.num) := range_up R1.out u9 1 _ rfl
            have x2 : w9.cell? ⟨xg, k * 5 + 2, none⟩ = some (.string (strOfNums c.name.bs)) := range_up R1.out u9 2 _ rfl
            have x3 : w9.cell? ⟨xg, k * 5 + 3, none⟩ = some (.int .i64 c.n.num) := range_up R1.out u9 3 _ rfl
            have x4 : w9.cell? ⟨xg, k * 5 + 4, none⟩ = some (.slice p1 c.data.bs.length q1) := range_up R1.out u9 4 _ rfl
            have y0 : w9.cell? ⟨yg, k * 5 + 0, none⟩ = some (.int .i64 c.kind) := range_up R2.out u9 0 _ rfl
            have y1 : w9.cell? ⟨yg, k * 5 + 1, none⟩ = some (.int .i64 c.tenant.num) := range_up R2.out u9 1 _ rfl
            have y2 : w9.cell? ⟨yg, k * 5 + 2, none⟩ = some (.string (strOfNums c.name.bs)) := range_up R2.out u9 2 _ rfl
            have y3 : w9.cell? ⟨yg, k * 5 + 3, none⟩ = some (.int .i64 c.n.num) := range_up R2.out u9 3 _ rfl
            have y4 : w9.cell? ⟨yg, k * 5 + 4, none⟩ = some (.slice p2 c.data.bs.length q2) := range_up R2.out u9 4 _ rfl
            have U9 : Hid (Up wo w9) := u9
            have HSm : Hid _ := same_yes w9 (B1.out.up u9) (B2.out.up u9)
            clear hw9 u9
            rw [Nat.add_zero] at x0 y0
            simp only [List.take_succ_cons, List.take_zero, List.drop_succ_cons, List.drop_zero]
            repeat (go_big_quiet_step (fail))
            refine wpQuiet_nil ?_
            go_wp2_with fail
            refine Calls.mono HSm.out ?_
            rintro e w10 ⟨rfl, hU10⟩
            have U10 : Hid (Up wo w10) := U9.out.trans hU10
            clear hU10 x0 x1 x2 x3 x4 y0 y1 y2 y3 y4
            go_wp2_with fail
            go_roundw
            case rel => exact ⟨k + 1, by omega, by go_num, U10⟩
            case measure => simp [intOf]; omega
          · have ek : k = N := by omega
            subst ek
            go_wp2_with fail
            go_ret
            exact ⟨rfl, (HUW.out.trans HU11.out).trans hU.out⟩
end Go.Proofs.Ytnengokobkehfaa
