/- Proto: ProtoCut's walk. -/
import Derived.Test.YtnengokobkehfaaPrT
namespace Go.Proofs.Ytnengokobkehfaa
open Go.RowKit
set_option linter.unusedVariables false
variable {w w' W : World}
theorem CutSt.upW {W6 : World} {dy : Nat} {f : Nat → Int} {at_ ry : Nat} {fe : Int} {kv vy : Value} {rs : List (C × Value)} (h : CutSt W6 dy f at_ ry fe kv vy rs w) (hU : Up W W6) (hd : W.heap.size ≤ dy) : Up W w :=
  ⟨h.os.trans hU.os, h.output.trans hU.output, Nat.le_trans hU.size h.size, fun b hb => (h.block b (Nat.lt_of_lt_of_le hb hU.size) (by omega)).trans (hU.block b hb)⟩
theorem Byts.bs {aa : Option Addr} {ab ao n c : Nat} {f : Nat → Int} (h : Byts W aa ab ao n c f) : F8 f := h.u8
theorem src_arg {aa : Option Addr} {ab ao n c : Nat} {f : Nat → Int} (h : Byts W aa ab ao n c f) (hnil : aa = none → c = 0) (u : Up W w) : Src w (.slice aa n c) (bl f 0 n) := by
  cases aa with
  | none =>
    have e := hnil rfl
    subst e
    have := h.lc
    have e : n = 0 := by omega
    subst e
    exact Or.inr ⟨rfl, rfl⟩
  | some ad =>
    refine Or.inl ⟨ad, c, by rw [bl_len], fun k x hk => ?_⟩
    have hkn : k < n := by have := (List.getElem?_eq_some_iff.1 hk).1; rwa [bl_len] at this
    have e := h.ad (by omega)
    injection e with e
    subst e
    rw [bl_at hkn] at hk
    injection hk with hk
    rw [addr_add, ← hk, Nat.zero_add]
    exact (u.cell (World.block_lt_of_cell? _ _ (h.cell k hkn))).trans (h.cell k hkn)
theorem src_cut1 {aa : Option Addr} {ab ao n c a p : Nat} {f : Nat → Int} (h : Byts W aa ab ao n c f) (hap : a + p ≤ n) (hca : c = a) : p = 0 ∧ Src w (.slice aa p 0) (bl f a p) := by
  have := h.lc
  have e : p = 0 := by omega
  subst e
  refine ⟨rfl, ?_⟩
  cases aa with
  | none => exact Or.inr ⟨rfl, rfl⟩
  | some ad => exact Or.inl ⟨ad, 0, rfl, fun k x hk => by simp [bl] at hk⟩
theorem src_cut2 {aa : Option Addr} {ab ao n c a p : Nat} {f : Nat → Int} (h : Byts W aa ab ao n c f) (hnil : aa = none → c = 0) (hap : a + p ≤ n) (hca : ¬ c = a) (u : Up W w) : Src w (.slice (aa.map (·.add a)) p (c - a)) (bl f a p) := by
  have hlc := h.lc
  cases aa with
  | none =>
    have := hnil rfl
    omega
  | some ad =>
    refine Or.inl ⟨ad.add a, c - a, by rw [bl_len]; rfl, fun k x hk => ?_⟩
    have hkn : k < p := by have := (List.getElem?_eq_some_iff.1 hk).1; rwa [bl_len] at this
    have e := h.ad (by omega)
    injection e with e
    subst e
    rw [bl_at hkn] at hk
    injection hk with hk
    rw [addr_add, addr_add, ← hk, Nat.add_assoc]
    exact (u.cell (World.block_lt_of_cell? _ _ (h.cell (a + k) (by omega)))).trans (h.cell (a + k) (by omega))
theorem grown_up {o : Obj} (h : (w.alloc o).grownBy w' (some w.heap.size)) : Up w w' :=
  ⟨h.os, h.output, by have := h.size; simp at this; omega, fun b hb => (h.block b (by simp; omega) (by intro e; injection e with e; omega)).trans (((Up.refl w).alloc o).block b hb)⟩
theorem own_empty (w : World) (base : Nat) (ty : TypeId) (hb : base ≤ w.heap.size) : (w.alloc (.cells #[] ty)).ownsRow base ty 1 (.slice (some ⟨w.heap.size, 0, none⟩) 0 0) 0 (u8s []) :=
  own_of (heap_alloc_new w _) hb (Nat.le_refl _) (Nat.zero_le _) rfl rfl (fun k hk => by omega)
set_option maxRecDepth 100000 in
set_option maxHeartbeats 2000000 in
theorem cut_walk {ba ca : Option Addr} {bb bo n bc cb co m cc : Nat} {f q : Nat → Int} (D : Byts W ba bb bo n bc f) (hnil : ba = none → bc = 0) (D2 : Ints W ca cb co m cc q) (hn : n ≤ 1048576) (hm : m ≤ 1048576) :
    Calls Try.prog 3 #[.slice ba n bc, .slice ca m cc] W fun e w' => e = .returned (.bool true) ∧ Up W w' := by
  have HD : Hid (Byts W ba bb bo n bc f) := D
  have HNil : Hid (ba = none → bc = 0) := hnil
  have HD2 : Hid (Ints W ca cb co m cc q) := D2
  have hlc := D.lc
  have hcm := D.cm
  unfold maxLen at hcm
  have H8 : Hid (F8 f) := D.u8
  have hni : (n : Int) ≤ 1048576 := by omega
  have hmi : (m : Int) ≤ 1048576 := by omega
  clear D D2 hnil
  go_enter Try.func3, Try.ntmps3
  go_wp2_with fail
  refine (fed_any W).mono ?_
  rintro e w1 ⟨rfl, hU1⟩
  go_wp2_with fail
  refine (newDecoder_any w1).mono ?_
  rintro e w2 ⟨rfl, hDx, hU2, hs2⟩
  go_wp2_with fail
  refine (newDecoder_any w2).mono ?_
  rintro e w3 ⟨rfl, hDy, hU3, hs3⟩
  obtain ⟨dx, hdx⟩ : ∃ dx, dx = w1.heap.size := ⟨_, rfl⟩
  obtain ⟨dy, hdy⟩ : ∃ dy, dy = w2.heap.size := ⟨_, rfl⟩
  rw [← hdx] at hDx ⊢
  rw [← hdy] at hDy ⊢
  have hs1 := hU1.size
  have HU3 : Hid (Up W w3) := hU1.trans (hU2.trans hU3)
  have HDx : Hid (Dcr w3 dx (.slice none 0 0) [] false) := hDx.up hU3
  have HDy : Hid (Dcr w3 dy (.slice none 0 0) [] false) := hDy
  have HZ : Hid (W.heap.size ≤ dx ∧ dx < dy ∧ dy < w3.heap.size) := by refine ⟨?_, ?_, ?_⟩ <;> omega
  have HS : Hid (∀ w', Up w3 w' → Src w' (.slice ba n bc) (bl f 0 n)) := fun w' u => src_arg HD.out HNil.out (HU3.out.trans u)
  have HE : Hid ((w3.alloc (.cells #[] 5)).ownsRow w3.heap.size 5 1 (.slice (some ⟨w3.heap.size, 0, none⟩) 0 0) 0 (u8s [])) := own_empty w3 _ _ (Nat.le_refl _)
  clear hU1 hU2 hU3 hs1 hs2 hs3 hdx hdy hDx hDy
  go_wp2_with (refine wpList_append_bytes rfl _ _ rfl w3.heap.size (.slice (some ⟨w3.heap.size, 0, none⟩) 0 0) [] rfl HE.out (.slice ba n bc) (bl f 0 n) rfl (HS.out _ ((Up.refl w3).alloc _)) (by rw [bl_len]; simp; omega) (by simp) (fun v5 w5 ho hg hw => ?_))
  have u5 : Up w3 w5 := grown_up hg
  have HU5 : Hid (Up w3 w5) := u5
  refine (feed_any (l := []) (y := bl f 0 n) w5 (HDx.out.up u5) (Src.of_own ho) (bl_u8 H8.out _ _) (by rw [bl_len]; simp; omega)).mono ?_
  rintro e w6 ⟨lx, ex, vx, rsx, rx, rfl, Fx⟩
  clear ho hg hw HE HS
  have HDe : Hid (Dec msgT f n 0 (rsx.map (·.1)) rx ex) := by
    have := Fx.dec
    rw [List.nil_append, bl_len] at this
    exact this.congr fun k hk => by rw [fn_bl f 0 n k hk, Nat.zero_add]
  have hz := HZ.out
  have hs5 := u5.size
  have HU6 : Hid (Up W w6) := Fx.up (HU3.out.trans u5) hz.1 (HDx.out.up u5)
  have hs6 := Fx.size
  have hlx := Fx.rows.own.lt
  have hvx : ∀ b, vx.ownBlock = some b → w5.heap.size ≤ b ∧ b < w6.heap.size := fun b hb => by
    rcases Fx.old b hb with e | e
    · cases e
    · refine ⟨e, ?_⟩
      by_cases e0 : ex = 0
      · exact ((Fx.st.1 e0).ofOwn b hb).2
      · exact ((Fx.st.2 e0).ofOwn b hb).2
  have HX : Hid (∀ wr : World, (∀ b, b < w6.heap.size → b ≠ dy → wr.heap[b]? = w6.heap[b]?) → (ex = 0 → Dcr wr dx vx ((bl f 0 n).drop rx) false) ∧ (ex ≠ 0 → Dcr wr dx vx [] true) ∧ RowsM (fun _ => True) w5.heap.size wr lx rsx) := fun wr hk => by
    have hd : ∀ {l : List Int} {p : Bool}, Dcr w6 dx vx l p → Dcr wr dx vx l p := fun hD => ⟨(hk dx (heap_at hD.row) (by omega)).trans hD.row, ownsRow_block hD.own (fun g hg => hk g (hD.own.lt g hg).2 (by have := hvx g hg; omega)), hD.u8⟩
    refine ⟨fun e0 => hd (Fx.st.1 e0), fun e0 => hd (Fx.st.2 e0), Fx.rows.more (fun b hb hb2 => ⟨hk b hb2 (by omega), trivial⟩) (fun b hb => hk b (hlx b hb).2 (by have := hlx b hb; omega))⟩
  have HY : Hid (CutSt w6 dy f 0 0 0 (.slice none 0 0) (.slice none 0 0) [] w6) := by
    refine ⟨Dec.none (Nat.le_refl _), ⟨fun _ => ⟨(Fx.block dy (by omega) (by omega) (fun e => (by cases e))).trans ((u5.block dy hz.2.2).trans HDy.out.row), World.ownsRow_nil _ _ _ _, L8.nil⟩, fun h => absurd rfl h⟩, ⟨World.ownsRow_nil _ _ _ _, fun x h => (by cases h)⟩, fun b h => (by cases h), fun b h => (by cases h), rfl, rfl, Nat.le_refl _, fun _ _ _ => rfl, by omega⟩
  obtain ⟨la, ln, lc, hlv⟩ := own_slice3 Fx.rows.own
  subst hlv
  have HZ6 : Hid (W.heap.size ≤ dy ∧ dy < w6.heap.size) := ⟨by omega, by omega⟩
  have HNE : Hid (dx ≠ dy) := by show _ ≠ _; omega
  clear Fx u5 hlx hvx hs5 hs6 hz HDx HDy HU3 HU5 HZ
  go_wp2_with fail
  go_loopw [10, 11, 12, 13] (fun kv fe at_ i wr => ∃ (a j ry : Nat) (e : Int) (vy : Value) (rs : List (C × Value)), a ≤ n ∧ j ≤ m + 1 ∧ (j = m + 1 → a = n) ∧ fe = .int .i64 e ∧ at_ = .int .i64 a ∧ i = .int .i64 j ∧ Hid (CutSt w6 dy f a ry e kv vy rs wr)) (fun _ _ _ i _ => m + 1 - (intOf i).toNat)
  case atStart => exact ⟨0, 0, 0, 0, .slice none 0 0, [], Nat.zero_le _, Nat.zero_le _, fun h => by omega, rfl, rfl, rfl, HY⟩
  case round =>
    obtain ⟨a, j, ry, e, vy, rs, ha, hj, hjn, rfl, rfl, rfl, hC⟩ := hrel
    obtain ⟨ka, kn, kc, hkv⟩ := own_slice3 hC.out.rows.own
    subst hkv
    have hai : (a : Int) ≤ n := by omega
    by_cases hgo : j ≤ m ∧ e = 0
    · obtain ⟨hjm, rfl⟩ := hgo
      have hji : (j : Int) ≤ m := by omega
      have HUW : Hid (Up W wr) := hC.out.upW HU6.out HZ6.out.1
      have hsw := hC.out.size
      have HE : Hid ((wr.alloc (.cells #[] 5)).ownsRow wr.heap.size 5 1 (.slice (some ⟨wr.heap.size, 0, none⟩) 0 0) 0 (u8s [])) := own_empty wr _ _ (Nat.le_refl _)
      by_cases hlt : j < m
      · have hlti : (j : Int) < m := by omega
        have hca := HD2.out.ad (by omega)
        subst hca
        have hcj : wr.cell? ⟨cb, co + j, none⟩ = some (.int .i64 (q j)) := (HUW.out.cell (World.block_lt_of_cell? _ _ (HD2.out.cell j hlt))).trans (HD2.out.cell j hlt)
        have HPk : Hid _ := pick_any (q j) ((n : Int) - a + 1) wr (HD2.out.i64 j) (by omega) (by omega)
        have hp0 := pickI_lo (q j) ((n : Int) - a + 1) (by omega)
        have hp1 := pickI_hi (q j) ((n : Int) - a + 1) (by omega)
        obtain ⟨p, hp⟩ := Int.eq_ofNat_of_zero_le hp0
        have HP : Hid (pickI (q j) ((n : Int) - a + 1) = p) := hp
        have hap : a + p ≤ n := by omega
        have hpi : (a : Int) + p ≤ n := by omega
        clear hp0 hp1 hp
        go_wp2_with fail
        refine Calls.mono HPk.out ?_
        rintro e w7 ⟨rfl, hw7⟩
        have hw7 : w7 = wr := hw7
        subst hw7
        rw [HP.out]
        have hta : ((a : Int) + (p : Int)).toNat = a + p := by omega
        by_cases hbc : bc = a
        · have e0 : p = 0 := by omega
          subst e0
          have HSv : Hid (∀ w', Up w7 w' → Src w' (.slice ba 0 0) (bl f a 0)) := fun w' u => (src_cut1 (p := 0) HD.out (by omega) hbc).2
          subst hbc
          go_wp2_with (refine wpList_append_bytes rfl _ _ rfl w7.heap.size (.slice (some ⟨w7.heap.size, 0, none⟩) 0 0) [] rfl HE.out (.slice ba 0 0) (bl f bc 0) rfl (HSv.out _ ((Up.refl w7).alloc _)) (by rw [bl_len]; simp <;> omega) (by simp) (fun v8 w8 ho hg hw => ?_))
          have u8 : Up w7 w8 := grown_up hg
          refine (feed_any w8 ((hC.out.up u8).st.1 rfl) (Src.of_own ho) (bl_u8 H8.out _ _) (by rw [bl_len]; simp [bl_len] <;> omega)).mono ?_
          rintro e w9 ⟨lv, e9, v9, rs9, r9, rfl, F9⟩
          have HM : Hid (CutMid w6 dy f (bc + 0) (ry + r9) e9 (.slice ka kn kc) v9 lv rs rs9 w9) := (hC.out.up u8).fed F9
          have hmany := HM.out.dec.many
          have hle := HM.out.dec.le.2 (Nat.zero_le _)
          rw [map_append', List.length_append, List.length_map, List.length_map] at hmany
          obtain ⟨l9, n9, c9, hl9⟩ := own_slice3 F9.rows.own
          subst hl9
          clear F9 u8 ho hg hw HSv HE
          go_wp2_with (refine wpList_append_msgs rfl _ _ rfl w6.heap.size (.slice ka kn kc) rs rfl HM.out.rows.own _ w6.heap.size (.slice l9 n9 c9) rs9 rfl HM.out.rows2 (by omega) HM.out.size (fun v10 w10 ho hg hw => ?_)
                       have HN : Hid (CutSt w6 dy f (bc + 0) (ry + r9) e9 v10 v9 (rs ++ rs9) w10) := HM.out.grown ho hg hw
                       clear ho hg hw)
          go_roundw
          case rel => exact ⟨bc + 0, j + 1, ry + r9, e9, v9, rs ++ rs9, hap, by omega, fun h => by omega, rfl, by go_num, by go_num, HN⟩
          case measure => simp [intOf]; omega
        · have HSv : Hid (∀ w', Up w7 w' → Src w' (.slice (ba.map (·.add a)) p (bc - a)) (bl f a p)) := fun w' u => src_cut2 HD.out HNil.out hap hbc (HUW.out.trans u)
          go_wp2_with (refine wpList_append_bytes rfl _ _ rfl w7.heap.size (.slice (some ⟨w7.heap.size, 0, none⟩) 0 0) [] rfl HE.out (.slice (ba.map (·.add a)) p (bc - a)) (bl f a p) rfl (HSv.out _ ((Up.refl w7).alloc _)) (by rw [bl_len]; simp <;> omega) (by simp) (fun v8 w8 ho hg hw => ?_))
          have u8 : Up w7 w8 := grown_up hg
          refine (feed_any w8 ((hC.out.up u8).st.1 rfl) (Src.of_own ho) (bl_u8 H8.out _ _) (by rw [bl_len]; simp [bl_len] <;> omega)).mono ?_
          rintro e w9 ⟨lv, e9, v9, rs9, r9, rfl, F9⟩
          have HM : Hid (CutMid w6 dy f (a + p) (ry + r9) e9 (.slice ka kn kc) v9 lv rs rs9 w9) := (hC.out.up u8).fed F9
          have hmany := HM.out.dec.many
          have hle := HM.out.dec.le.2 (Nat.zero_le _)
          rw [map_append', List.length_append, List.length_map, List.length_map] at hmany
          obtain ⟨l9, n9, c9, hl9⟩ := own_slice3 F9.rows.own
          subst hl9
          clear F9 u8 ho hg hw HSv HE
          go_wp2_with (refine wpList_append_msgs rfl _ _ rfl w6.heap.size (.slice ka kn kc) rs rfl HM.out.rows.own _ w6.heap.size (.slice l9 n9 c9) rs9 rfl HM.out.rows2 (by omega) HM.out.size (fun v10 w10 ho hg hw => ?_)
                       have HN : Hid (CutSt w6 dy f (a + p) (ry + r9) e9 v10 v9 (rs ++ rs9) w10) := HM.out.grown ho hg hw
                       clear ho hg hw)
          go_roundw
          case rel => exact ⟨a + p, j + 1, ry + r9, e9, v9, rs ++ rs9, hap, by omega, fun h => by omega, rfl, by go_num, by go_num, HN⟩
          case measure => simp [intOf]; omega
      · skip
        obtain ⟨p, hp⟩ : ∃ p, p = n - a := ⟨_, rfl⟩
        have ejm : j = m := by omega
        have hap : a + p ≤ n := by omega
        have hpi : (a : Int) + p ≤ n := by omega
        have HPn : Hid (a + p = n) := by show _ = _; omega
        have hpe : (n : Int) - a = p := by omega
        have hnlt : ¬ ((j : Int) < m) := by omega
        have hta : ((a : Int) + (p : Int)).toNat = a + p := by omega
        clear hp
        by_cases hbc : bc = a
        · have e0 : p = 0 := by omega
          subst e0
          have HSv : Hid (∀ w', Up wr w' → Src w' (.slice ba 0 0) (bl f a 0)) := fun w' u => (src_cut1 (p := 0) HD.out (by omega) hbc).2
          subst hbc
          go_wp2_with (refine wpList_append_bytes rfl _ _ rfl wr.heap.size (.slice (some ⟨wr.heap.size, 0, none⟩) 0 0) [] rfl HE.out (.slice ba 0 0) (bl f bc 0) rfl (HSv.out _ ((Up.refl wr).alloc _)) (by rw [bl_len]; simp <;> omega) (by simp) (fun v8 w8 ho hg hw => ?_))
          have u8 : Up wr w8 := grown_up hg
          refine (feed_any w8 ((hC.out.up u8).st.1 rfl) (Src.of_own ho) (bl_u8 H8.out _ _) (by rw [bl_len]; simp [bl_len] <;> omega)).mono ?_
          rintro e w9 ⟨lv, e9, v9, rs9, r9, rfl, F9⟩
          have HM : Hid (CutMid w6 dy f (bc + 0) (ry + r9) e9 (.slice ka kn kc) v9 lv rs rs9 w9) := (hC.out.up u8).fed F9
          have hmany := HM.out.dec.many
          have hle := HM.out.dec.le.2 (Nat.zero_le _)
          rw [map_append', List.length_append, List.length_map, List.length_map] at hmany
          obtain ⟨l9, n9, c9, hl9⟩ := own_slice3 F9.rows.own
          subst hl9
          clear F9 u8 ho hg hw HSv HE
          go_wp2_with (refine wpList_append_msgs rfl _ _ rfl w6.heap.size (.slice ka kn kc) rs rfl HM.out.rows.own _ w6.heap.size (.slice l9 n9 c9) rs9 rfl HM.out.rows2 (by omega) HM.out.size (fun v10 w10 ho hg hw => ?_)
                       have HN : Hid (CutSt w6 dy f (bc + 0) (ry + r9) e9 v10 v9 (rs ++ rs9) w10) := HM.out.grown ho hg hw
                       clear ho hg hw)
          go_roundw
          case rel => exact ⟨bc + 0, j + 1, ry + r9, e9, v9, rs ++ rs9, hap, by omega, fun h => by exact HPn.out, rfl, by go_num, by go_num, HN⟩
          case measure => simp [intOf]; omega
        · have HSv : Hid (∀ w', Up wr w' → Src w' (.slice (ba.map (·.add a)) p (bc - a)) (bl f a p)) := fun w' u => src_cut2 HD.out HNil.out hap hbc (HUW.out.trans u)
          go_wp2_with (refine wpList_append_bytes rfl _ _ rfl wr.heap.size (.slice (some ⟨wr.heap.size, 0, none⟩) 0 0) [] rfl HE.out (.slice (ba.map (·.add a)) p (bc - a)) (bl f a p) rfl (HSv.out _ ((Up.refl wr).alloc _)) (by rw [bl_len]; simp <;> omega) (by simp) (fun v8 w8 ho hg hw => ?_))
          have u8 : Up wr w8 := grown_up hg
          refine (feed_any w8 ((hC.out.up u8).st.1 rfl) (Src.of_own ho) (bl_u8 H8.out _ _) (by rw [bl_len]; simp [bl_len] <;> omega)).mono ?_
          rintro e w9 ⟨lv, e9, v9, rs9, r9, rfl, F9⟩
          have HM : Hid (CutMid w6 dy f (a + p) (ry + r9) e9 (.slice ka kn kc) v9 lv rs rs9 w9) := (hC.out.up u8).fed F9
          have hmany := HM.out.dec.many
          have hle := HM.out.dec.le.2 (Nat.zero_le _)
          rw [map_append', List.length_append, List.length_map, List.length_map] at hmany
          obtain ⟨l9, n9, c9, hl9⟩ := own_slice3 F9.rows.own
          subst hl9
          clear F9 u8 ho hg hw HSv HE
          go_wp2_with (refine wpList_append_msgs rfl _ _ rfl w6.heap.size (.slice ka kn kc) rs rfl HM.out.rows.own _ w6.heap.size (.slice l9 n9 c9) rs9 rfl HM.out.rows2 (by omega) HM.out.size (fun v10 w10 ho hg hw => ?_)
                       have HN : Hid (CutSt w6 dy f (a + p) (ry + r9) e9 v10 v9 (rs ++ rs9) w10) := HM.out.grown ho hg hw
                       clear ho hg hw)
          go_roundw
          case rel => exact ⟨a + p, j + 1, ry + r9, e9, v9, rs ++ rs9, hap, by omega, fun h => by exact HPn.out, rfl, by go_num, by go_num, HN⟩
          case measure => simp [intOf]; omega
    · have hfin : Dec msgT f n 0 (rs.map (·.1)) ry e := by
        by_cases he : e = 0
        · have ea := hjn (by omega)
          subst ea
          exact hC.out.dec
        · exact hC.out.dec.more he ha
      obtain ⟨e1, e2, e3⟩ := HDe.out.det hfin
      subst e2 e3
      obtain ⟨x1, x2, x3⟩ := HX.out wr hC.out.block
      obtain ⟨xa, xg, xc, xe, xl, xm, xad, xat⟩ := x3.at
      obtain ⟨ya, yg, yc, ye, yl, ym, yad, yat⟩ := hC.out.rows.at
      injection xe with xe1 xe2 xe3
      injection ye with ye1 ye2 ye3
      subst xe1 xe2 xe3 ye1 ye2 ye3
      have hlen : rsx.length = rs.length := by have := congrArg List.length e1; simpa using this
      have HXat : Hid (∀ (k : Nat) (x : C × Value), rsx[k]? = some x → wr.rangeAt xg (k * 5) (mC x.1 x.2) ∧ Bs 0 wr x.2 x.1.data.bs) := xat
      have HYat : Hid (∀ (k : Nat) (x : C × Value), rs[k]? = some x → wr.rangeAt yg (k * 5) (mC x.1 x.2) ∧ Bs 0 wr x.2 x.1.data.bs) := yat
      have HE1 : Hid (rsx.map (·.1) = rs.map (·.1)) := e1
      have hmany := hfin.many
      have hle := hfin.le.2 (Nat.zero_le _)
      rw [List.length_map] at hmany
      have HUW : Hid (Up W wr) := hC.out.upW HU6.out HZ6.out.1
      have HXY : Hid (∃ (lx ly : List Int) (pb : Bool), Dcr wr dx vx lx pb ∧ Dcr wr dy vy ly pb ∧ lx.length = ly.length ∧ pb = !(ex == 0)) := by
        by_cases he : ex = 0
        · have ea := hjn (by omega)
          subst ea
          refine ⟨_, _, false, x1 he, hC.out.st.1 he, ?_, by simp [he]⟩
          rw [List.length_drop, bl_len, bl_len]
        · exact ⟨_, _, true, x2 he, hC.out.st.2 he, rfl, by simp [he]⟩
      have HAx : Hid (0 < rsx.length → la = some ⟨xg, 0, none⟩) := xad
      have HAy : Hid (0 < rs.length → ka = some ⟨yg, 0, none⟩) := yad
      obtain ⟨N, hN⟩ : ∃ N, N = rs.length := ⟨_, rfl⟩
      have HN1 : Hid (N = rs.length) := hN
      have HN2 : Hid (N = rsx.length) := by show _ = _; omega
      have hNn : N ≤ 1048576 := by omega
      have hNi : (N : Int) ≤ 1048576 := by omega
      rw [hlen, ← hN] at xl ⊢
      rw [← hN] at yl
      clear x1 x2 x3 xat yat xad yad e1 hfin hN hlen hmany hle hC HX HY HDe
      obtain ⟨lx, ly, pb, qx, qy, ql, qp⟩ := HXY.out
      have HPx : Hid (Calls Try.prog 11 #[.pointer (some ⟨dx, 0, none⟩)] wr fun e w' => e = .returned (.bool pb) ∧ w' = wr) := poisoned_any wr qx
      have HPy : Hid (Calls Try.prog 11 #[.pointer (some ⟨dy, 0, none⟩)] wr fun e w' => e = .returned (.bool pb) ∧ w' = wr) := poisoned_any wr qy
      have HWx : Hid (Calls Try.prog 12 #[.pointer (some ⟨dx, 0, none⟩)] wr fun e w' => e = .returned (.int .i64 (lx.length : Nat)) ∧ w' = wr) := waiting_any wr qx
      have HWy : Hid (Calls Try.prog 12 #[.pointer (some ⟨dy, 0, none⟩)] wr fun e w' => e = .returned (.int .i64 (lx.length : Nat)) ∧ w' = wr) := by rw [ql]; exact waiting_any wr qy
      generalize lx.length = wl at HWx HWy
      have hcase : (ex = 0 ∧ pb = false ∧ ¬ ((j : Int) ≤ m)) ∨ (¬ ex = 0 ∧ pb = true) := by
        by_cases he : ex = 0
        · exact Or.inl ⟨he, by rw [qp]; simp [he], by omega⟩
        · exact Or.inr ⟨he, by rw [qp]; simp [he]⟩
      clear qx qy ql qp HXY
      have hdxy : Hid (dx ≠ dy) := by show _ ≠ _; have := HZ6.out; exact HNE.out
      rcases hcase with ⟨rfl, rfl, hnj⟩ | ⟨hx0, rfl⟩
      · skip
        go_wp2_with (first
          | (go_at_call 11; refine Calls.mono HPx.out ?_; rintro e w7 ⟨rfl, rfl⟩)
          | (go_at_call 11; refine Calls.mono HPy.out ?_; rintro e w7 ⟨rfl, rfl⟩)
          | (go_at_call 12; refine Calls.mono HWx.out ?_; rintro e w7 ⟨rfl, rfl⟩)
          | (go_at_call 12; refine Calls.mono HWy.out ?_; rintro e w7 ⟨rfl, rfl⟩))
        generalize w7 = wo at *
        go_loopw [17] (fun i w8 => ∃ k : Nat, k ≤ N ∧ i = .int .i64 k ∧ Hid (Up wo w8)) (fun i _ => N - (intOf i).toNat)
        case atStart => exact ⟨0, Nat.zero_le _, rfl, Up.refl _⟩
        case round =>
          obtain ⟨k, hk, rfl, hU⟩ := hrel
          by_cases hlt : k < N
          · have g1 : k < rsx.length := by rw [← HN2.out]; exact hlt
            have g2 : k < rs.length := by rw [← HN1.out]; exact hlt
            obtain ⟨c, d1, hx⟩ : ∃ c d, rsx[k]? = some (c, d) := ⟨rsx[k].1, rsx[k].2, by rw [List.getElem?_eq_getElem g1]⟩
            obtain ⟨c', d2, hy⟩ : ∃ c d, rs[k]? = some (c, d) := ⟨rs[k].1, rs[k].2, by rw [List.getElem?_eq_getElem g2]⟩
            have exy : c = c' := by
              have := congrArg (·[k]?) HE1.out
              simp only [List.getElem?_map, hx, hy, Option.map_some] at this
              injection this
            subst exy
            obtain ⟨r1, b1⟩ := HXat.out k _ hx
            obtain ⟨r2, b2⟩ := HYat.out k _ hy
            have ea := HAx.out (by omega)
            subst ea
            have eb := HAy.out (by omega)
            subst eb
            have R1 : Hid _ := r1
            have R2 : Hid _ := r2
            have B1 : Hid (Bs 0 wo d1 c.data.bs) := b1
            have B2 : Hid (Bs 0 wo d2 c.data.bs) := b2
            obtain ⟨p1, _, _, q1, s1, _⟩ := B1.out.ex
            obtain ⟨p2, _, _, q2, s2, _⟩ := B2.out.ex
            subst s1 s2
            have hki : (k : Int) < N := by omega
            clear r1 r2 b1 b2 hx hy g1 g2
            go_wp2_with fail
            refine wp_still2 8 (by kernel_rfl) (by kernel_rfl) ?_
            intro w9 hw9
            have u9 : Up wo w9 := hU.out.trans (by rw [hw9]; exact (Up.refl _).drew)
            have x0 : w9.cell? ⟨xg, k * 5 + 0, none⟩ = some (.int .i64 c.kind) := range_up R1.out u9 0 _ rfl
            have x1 : w9.cell? ⟨xg, k * 5 + 1, none⟩ = some (.int .i64 c.tenant.num) := range_up R1.out u9 1 _ rfl
            have x2 : w9.cell? ⟨xg, k * 5 + 2, none⟩ = some (.string (strOfNums c.name.bs)) := range_up R1.out u9 2 _ rfl
            have x3 : w9.cell? ⟨xg, k * 5 + 3, none⟩ = some (.int .i64 c.n.num) := range_up R1.out u9 3 _ rfl
            have x4 : w9.cell? ⟨xg, k * 5 + 4, none⟩ = some (.slice p1 c.data.bs.length q1) := range_up R1.out u9 4 _ rfl
            have y0 : w9.cell? ⟨yg, k * 5 + 0, none⟩ = some (.int .i64 c.kind) := range_up R2.out u9 0 _ rfl
            have y1 : w9.cell? ⟨yg, k * 5 + 1, none⟩ = some (.int .i64 c.tenant.num) := range_up R2.out u9 1 _ rfl
            have y2 : w9.cell? ⟨yg, k * 5 + 2, none⟩ = some (.string (strOfNums c.name.bs)) := range_up R2.out u9 2 _ rfl
            have y3 : w9.cell? ⟨yg, k * 5 + 3, none⟩ = some (.int .i64 c.n.num) := range_up R2.out u9 3 _ rfl
            have y4 : w9.cell? ⟨yg, k * 5 + 4, none⟩ = some (.slice p2 c.data.bs.length q2) := range_up R2.out u9 4 _ rfl
            have U9 : Hid (Up wo w9) := u9
            have HSm : Hid _ := same_yes w9 (B1.out.up u9) (B2.out.up u9)
            clear hw9 u9
            rw [Nat.add_zero] at x0 y0
            simp only [List.take_succ_cons, List.take_zero, List.drop_succ_cons, List.drop_zero]
            repeat (go_big_quiet_step (fail))
            refine wpQuiet_nil ?_
            go_wp2_with fail
            refine Calls.mono HSm.out ?_
            rintro e w10 ⟨rfl, hU10⟩
            have U10 : Hid (Up wo w10) := U9.out.trans hU10
            clear hU10 x0 x1 x2 x3 x4 y0 y1 y2 y3 y4
            go_wp2_with fail
            go_roundw
            case rel => exact ⟨k + 1, by omega, by go_num, U10⟩
            case measure => simp [intOf]; omega
          · have ek : k = N := by omega
            subst ek
            go_wp2_with fail
            go_ret
            exact ⟨rfl, HUW.out.trans hU.out⟩
      · have hx1 : (ex == 0) = false := by simp [hx0]
        have hx2 : (ex != 0) = true := by simp [hx0]
        by_cases hjm : (j : Int) ≤ m
        · skip
          go_wp2_with (first
            | (go_at_call 11; refine Calls.mono HPx.out ?_; rintro e w7 ⟨rfl, rfl⟩)
            | (go_at_call 11; refine Calls.mono HPy.out ?_; rintro e w7 ⟨rfl, rfl⟩)
            | (go_at_call 12; refine Calls.mono HWx.out ?_; rintro e w7 ⟨rfl, rfl⟩)
            | (go_at_call 12; refine Calls.mono HWy.out ?_; rintro e w7 ⟨rfl, rfl⟩))
          generalize w7 = wo at *
          go_loopw [17] (fun i w8 => ∃ k : Nat, k ≤ N ∧ i = .int .i64 k ∧ Hid (Up wo w8)) (fun i _ => N - (intOf i).toNat)
          case atStart => exact ⟨0, Nat.zero_le _, rfl, Up.refl _⟩
          case round =>
            obtain ⟨k, hk, rfl, hU⟩ := hrel
            by_cases hlt : k < N
            · have g1 : k < rsx.length := by rw [← HN2.out]; exact hlt
              have g2 : k < rs.length := by rw [← HN1.out]; exact hlt
              obtain ⟨c, d1, hx⟩ : ∃ c d, rsx[k]? = some (c, d) := ⟨rsx[k].1, rsx[k].2, by rw [List.getElem?_eq_getElem g1]⟩
              obtain ⟨c', d2, hy⟩ : ∃ c d, rs[k]? = some (c, d) := ⟨rs[k].1, rs[k].2, by rw [List.getElem?_eq_getElem g2]⟩
              have exy : c = c' := by
                have := congrArg (·[k]?) HE1.out
                simp only [List.getElem?_map, hx, hy, Option.map_some] at this
                injection this
              subst exy
              obtain ⟨r1, b1⟩ := HXat.out k _ hx
              obtain ⟨r2, b2⟩ := HYat.out k _ hy
              have ea := HAx.out (by omega)
              subst ea
              have eb := HAy.out (by omega)
              subst eb
              have R1 : Hid _ := r1
              have R2 : Hid _ := r2
              have B1 : Hid (Bs 0 wo d1 c.data.bs) := b1
              have B2 : Hid (Bs 0 wo d2 c.data.bs) := b2
              obtain ⟨p1, _, _, q1, s1, _⟩ := B1.out.ex
              obtain ⟨p2, _, _, q2, s2, _⟩ := B2.out.ex
              subst s1 s2
              have hki : (k : Int) < N := by omega
              clear r1 r2 b1 b2 hx hy g1 g2
              go_wp2_with fail
              refine wp_still2 8 (by kernel_rfl) (by kernel_rfl) ?_
              intro w9 hw9
              have u9 : Up wo w9 := hU.out.trans (by rw [hw9]; exact (Up.refl _).drew)
              have x0 : w9.cell? ⟨xg, k * 5 + 0, none⟩ = some (.int .i64 c.kind) := range_up R1.out u9 0 _ rfl
              have x1 : w9.cell? ⟨xg, k * 5 + 1, none⟩ = some (.int .i64 c.tenant.num) := range_up R1.out u9 1 _ rfl
              have x2 : w9.cell? ⟨xg, k * 5 + 2, none⟩ = some (.string (strOfNums c.name.bs)) := range_up R1.out u9 2 _ rfl
              have x3 : w9.cell? ⟨xg, k * 5 + 3, none⟩ = some (.int .i64 c.n.num) := range_up R1.out u9 3 _ rfl
              have x4 : w9.cell? ⟨xg, k * 5 + 4, none⟩ = some (.slice p1 c.data.bs.length q1) := range_up R1.out u9 4 _ rfl
              have y0 : w9.cell? ⟨yg, k * 5 + 0, none⟩ = some (.int .i64 c.kind) := range_up R2.out u9 0 _ rfl
              have y1 : w9.cell? ⟨yg, k * 5 + 1, none⟩ = some (.int .i64 c.tenant.num) := range_up R2.out u9 1 _ rfl
              have y2 : w9.cell? ⟨yg, k * 5 + 2, none⟩ = some (.string (strOfNums c.name.bs)) := range_up R2.out u9 2 _ rfl
              have y3 : w9.cell? ⟨yg, k * 5 + 3, none⟩ = some (.int .i64 c.n.num) := range_up R2.out u9 3 _ rfl
              have y4 : w9.cell? ⟨yg, k * 5 + 4, none⟩ = some (.slice p2 c.data.bs.length q2) := range_up R2.out u9 4 _ rfl
              have U9 : Hid (Up wo w9) := u9
              have HSm : Hid _ := same_yes w9 (B1.out.up u9) (B2.out.up u9)
              clear hw9 u9
              rw [Nat.add_zero] at x0 y0
              simp only [List.take_succ_cons, List.take_zero, List.drop_succ_cons, List.drop_zero]
              repeat (go_big_quiet_step (fail))
              refine wpQuiet_nil ?_
              go_wp2_with fail
              refine Calls.mono HSm.out ?_
              rintro e w10 ⟨rfl, hU10⟩
              have U10 : Hid (Up wo w10) := U9.out.trans hU10
              clear hU10 x0 x1 x2 x3 x4 y0 y1 y2 y3 y4
              go_wp2_with fail
              go_roundw
              case rel => exact ⟨k + 1, by omega, by go_num, U10⟩
              case measure => simp [intOf]; omega
            · have ek : k = N := by omega
              subst ek
              go_wp2_with fail
              go_ret
              exact ⟨rfl, HUW.out.trans hU.out⟩
        · skip
          go_wp2_with (first
            | (go_at_call 11; refine Calls.mono HPx.out ?_; rintro e w7 ⟨rfl, rfl⟩)
            | (go_at_call 11; refine Calls.mono HPy.out ?_; rintro e w7 ⟨rfl, rfl⟩)
            | (go_at_call 12; refine Calls.mono HWx.out ?_; rintro e w7 ⟨rfl, rfl⟩)
            | (go_at_call 12; refine Calls.mono HWy.out ?_; rintro e w7 ⟨rfl, rfl⟩))
          generalize w7 = wo at *
          go_loopw [17] (fun i w8 => ∃ k : Nat, k ≤ N ∧ i = .int .i64 k ∧ Hid (Up wo w8)) (fun i _ => N - (intOf i).toNat)
          case atStart => exact ⟨0, Nat.zero_le _, rfl, Up.refl _⟩
          case round =>
            obtain ⟨k, hk, rfl, hU⟩ := hrel
            by_cases hlt : k < N
            · have g1 : k < rsx.length := by rw [← HN2.out]; exact hlt
              have g2 : k < rs.length := by rw [← HN1.out]; exact hlt
              obtain ⟨c, d1, hx⟩ : ∃ c d, rsx[k]? = some (c, d) := ⟨rsx[k].1, rsx[k].2, by rw [List.getElem?_eq_getElem g1]⟩
              obtain ⟨c', d2, hy⟩ : ∃ c d, rs[k]? = some (c, d) := ⟨rs[k].1, rs[k].2, by rw [List.getElem?_eq_getElem g2]⟩
              have exy : c = c' := by
                have := congrArg (·[k]?) HE1.out
                simp only [List.getElem?_map, hx, hy, Option.map_some] at this
                injection this
              subst exy
              obtain ⟨r1, b1⟩ := HXat.out k _ hx
              obtain ⟨r2, b2⟩ := HYat.out k _ hy
              have ea := HAx.out (by omega)
              subst ea
              have eb := HAy.out (by omega)
              subst eb
              have R1 : Hid _ := r1
              have R2 : Hid _ := r2
              have B1 : Hid (Bs 0 wo d1 c.data.bs) := b1
              have B2 : Hid (Bs 0 wo d2 c.data.bs) := b2
              obtain ⟨p1, _, _, q1, s1, _⟩ := B1.out.ex
              obtain ⟨p2, _, _, q2, s2, _⟩ := B2.out.ex
              subst s1 s2
              have hki : (k : Int) < N := by omega
              clear r1 r2 b1 b2 hx hy g1 g2
              go_wp2_with fail
              refine wp_still2 8 (by kernel_rfl) (by kernel_rfl) ?_
              intro w9 hw9
              have u9 : Up wo w9 := hU.out.trans (by rw [hw9]; exact (Up.refl _).drew)
              have x0 : w9.cell? ⟨xg, k * 5 + 0, none⟩ = some (.int .i64 c.kind) := range_up R1.out u9 0 _ rfl
              have x1 : w9.cell? ⟨xg, k * 5 + 1, none⟩ = some (.int .i64 c.tenant.num) := range_up R1.out u9 1 _ rfl
              have x2 : w9.cell? ⟨xg, k * 5 + 2, none⟩ = some (.string (strOfNums c.name.bs)) := range_up R1.out u9 2 _ rfl
              have x3 : w9.cell? ⟨xg, k * 5 + 3, none⟩ = some (.int .i64 c.n.num) := range_up R1.out u9 3 _ rfl
              have x4 : w9.cell? ⟨xg, k * 5 + 4, none⟩ = some (.slice p1 c.data.bs.length q1) := range_up R1.out u9 4 _ rfl
              have y0 : w9.cell? ⟨yg, k * 5 + 0, none⟩ = some (.int .i64 c.kind) := range_up R2.out u9 0 _ rfl
              have y1 : w9.cell? ⟨yg, k * 5 + 1, none⟩ = some (.int .i64 c.tenant.num) := range_up R2.out u9 1 _ rfl
              have y2 : w9.cell? ⟨yg, k * 5 + 2, none⟩ = some (.string (strOfNums c.name.bs)) := range_up R2.out u9 2 _ rfl
              have y3 : w9.cell? ⟨yg, k * 5 + 3, none⟩ = some (.int .i64 c.n.num) := range_up R2.out u9 3 _ rfl
              have y4 : w9.cell? ⟨yg, k * 5 + 4, none⟩ = some (.slice p2 c.data.bs.length q2) := range_up R2.out u9 4 _ rfl
              have U9 : Hid (Up wo w9) := u9
              have HSm : Hid _ := same_yes w9 (B1.out.up u9) (B2.out.up u9)
              clear hw9 u9
              rw [Nat.add_zero] at x0 y0
              simp only [List.take_succ_cons, List.take_zero, List.drop_succ_cons, List.drop_zero]
              repeat (go_big_quiet_step (fail))
              refine wpQuiet_nil ?_
              go_wp2_with fail
              refine Calls.mono HSm.out ?_
              rintro e w10 ⟨rfl, hU10⟩
              have U10 : Hid (Up wo w10) := U9.out.trans hU10
              clear hU10 x0 x1 x2 x3 x4 y0 y1 y2 y3 y4
              go_wp2_with fail
              go_roundw
              case rel => exact ⟨k + 1, by omega, by go_num, U10⟩
              case measure => simp [intOf]; omega
            · have ek : k = N := by omega
              subst ek
              go_wp2_with fail
              go_ret
              exact ⟨rfl, HUW.out.trans hU.out⟩
end Go.Proofs.Ytnengokobkehfaa
