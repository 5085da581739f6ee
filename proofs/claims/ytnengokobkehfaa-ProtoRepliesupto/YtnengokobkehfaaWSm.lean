/- Proto: ProtoSame's walk. -/
import Derived.Test.YtnengokobkehfaaPrW
import Derived.Test.YtnengokobkehfaaPrT
namespace Go.Proofs.Ytnengokobkehfaa
open Go.RowKit
set_option linter.unusedVariables false
variable {w w' W : World}
theorem read_bd {f : Nat → Int} (h8 : F8 f) {e : Nat} : ∀ (ps : List Part) (o : Nat) (d c : C), ps.all Part.okB = true → readPs f e ps o d = .ok c → (∀ a, (d.get a).bs.length ≤ 4294967296) → ∀ a, (c.get a).bs.length ≤ 4294967296 := by
  intro ps
  induction ps with
  | nil =>
    intro o d c _ h hd
    unfold readPs at h
    by_cases q : o < e
    · rw [if_pos q] at h; cases h
    · rw [if_neg q] at h
      injection h with h
      subst h
      exact hd
  | cons p ps ih =>
    intro o d c hok h hd
    simp only [List.all_cons, Bool.and_eq_true] at hok
    have hp := part_ok hok.1
    unfold readPs at h
    cases hr : readV f e o p with
    | none => rw [hr] at h; cases h
    | some x =>
      obtain ⟨v, k⟩ := x
      rw [hr] at h
      simp only at h
      by_cases hf : fitB p.fit v = true
      · rw [if_pos hf] at h
        refine ih _ _ _ hok.2 h fun a => ?_
        rw [C.get_set]
        by_cases ea : a = p.fld
        · rw [if_pos ea]
          unfold readV at hr
          by_cases h1 : o + p.width ≤ e
          · rw [if_pos h1] at hr
            by_cases el : p.list = true
            · rw [if_pos el] at hr
              by_cases h2 : o + p.width + (num f o p.width).toNat ≤ e
              · rw [if_pos h2] at hr
                injection hr with hr
                injection hr with hv _
                subst hv
                show (bl f _ _).length ≤ _
                rw [bl_len]
                have := num_hi4 h8 o p.width hp.w4
                omega
              · rw [if_neg h2] at hr; cases hr
            · rw [if_neg el] at hr
              injection hr with hr
              injection hr with hv _
              subst hv
              simp
          · rw [if_neg h1] at hr; cases hr
        · rw [if_neg ea]; exact hd a
      · rw [if_neg hf] at h; cases h
theorem Dec.good {T : Tab} (ht : tabOk T = true) {f : Nat → Int} (h8 : F8 f) {n a r : Nat} {e : Int} {l : List C} (b : Fld) (hb : (T.all fun x => decide (b ∉ flds x.2)) = true) (h : Dec T f n a l r e) : ∀ c ∈ l, c.get b = V0 ∧ ∀ x, (c.get x).bs.length ≤ 4294967296 := by
  induction h with
  | wait _ => intro c hc; cases hc
  | bad _ => intro c hc; cases hc
  | wrong _ _ => intro c hc; cases hc
  | @step a L r e c l h1 h2 h3 ih =>
    intro c' hc
    rcases List.mem_cons.1 hc with rfl | hc
    · refine ⟨parse_none hb h2, ?_⟩
      unfold parseF at h2
      cases hl : look T (f (a + 4)) with
      | none => rw [hl] at h2; cases h2
      | some ps =>
        rw [hl] at h2
        have hps := (tab_ok ht hl).2.2
        simp only [psOk, Bool.and_eq_true, decide_eq_true_eq] at hps
        exact read_bd h8 ps _ _ _ hps.1.1 h2 (fun x => by rw [C0_get]; simp [V0])
    · exact ih c' hc
theorem map_get {cs : List C} {bs : List (List Int)} {T : Tab} (h : cs.map (encF T) = bs.map Except.ok) (k : Nat) (c : C) (hc : cs[k]? = some c) : ∃ b, bs[k]? = some b ∧ encF T c = .ok b := by
  have := congrArg (·[k]?) h
  simp only [List.getElem?_map, hc, Option.map_some] at this
  cases hb : bs[k]? with
  | none => rw [hb] at this; cases this
  | some b => rw [hb] at this; simp only [Option.map_some] at this; injection this with this; exact ⟨b, rfl, this⟩
theorem flat_take {bs : List (List Int)} {k : Nat} {b : List Int} (h : bs[k]? = some b) : (bs.take (k + 1)).flatten = (bs.take k).flatten ++ b := by
  rw [List.take_add_one, h]
  simp
theorem flat_le {bs : List (List Int)} (k : Nat) : (bs.take k).flatten.length ≤ bs.flatten.length := by
  have h : bs.flatten = (bs.take k).flatten ++ (bs.drop k).flatten := by rw [← List.flatten_append, List.take_append_drop]
  rw [h, List.length_append]
  omega
theorem bs_arg {aa : Option Addr} {ab ao n c r : Nat} {f : Nat → Int} (h : Byts W aa ab ao n c f) (hr : r ≤ n) (u : Up W w) : Bs 0 w (.slice aa r c) (bl f 0 r) := by
  refine ⟨⟨aa, ab, ao, c, by rw [bl_len], by rw [bl_len]; have := h.lc; omega, h.cm, fun hp => ⟨h.ad (by rw [bl_len] at hp; omega), Nat.zero_le _⟩, fun k x hk => ?_⟩, bl_u8 h.u8 _ _⟩
  have hkn : k < r := by have := (List.getElem?_eq_some_iff.1 hk).1; rwa [bl_len] at this
  rw [bl_at hkn] at hk
  injection hk with hk
  rw [← hk, Nat.zero_add]
  exact (u.cell (World.block_lt_of_cell? _ _ (h.cell k (by omega)))).trans (h.cell k (by omega))
theorem src_arg2 {aa : Option Addr} {ab ao n c : Nat} {f : Nat → Int} (h : Byts W aa ab ao n c f) (hnil : aa = none → c = 0) (u : Up W w) : Src w (.slice aa n c) (bl f 0 n) := by
  cases aa with
  | none =>
    have e := hnil rfl
    subst e
    have := h.lc
    have e : n = 0 := by omega
    subst e
    exact Or.inr ⟨rfl, rfl⟩
  | some ad =>
    refine Or.inl ⟨ad, c, by rw [bl_len], fun k x hk => ?_⟩
    have hkn : k < n := by have := (List.getElem?_eq_some_iff.1 hk).1; rwa [bl_len] at this
    have e := h.ad (by omega)
    injection e with e
    subst e
    rw [bl_at hkn] at hk
    injection hk with hk
    rw [addr_add, ← hk, Nat.zero_add]
    exact (u.cell (World.block_lt_of_cell? _ _ (h.cell k hkn))).trans (h.cell k hkn)
theorem grown_up2 {o : Obj} (h : (w.alloc o).grownBy w' (some w.heap.size)) : Up w w' :=
  ⟨h.os, h.output, by have := h.size; simp at this; omega, fun b hb => (h.block b (by simp; omega) (by intro e; injection e with e; omega)).trans (((Up.refl w).alloc o).block b hb)⟩
theorem own_empty2 (w : World) (base : Nat) (ty : TypeId) (hb : base ≤ w.heap.size) : (w.alloc (.cells #[] ty)).ownsRow base ty 1 (.slice (some ⟨w.heap.size, 0, none⟩) 0 0) 0 (u8s []) :=
  own_of (heap_alloc_new w _) hb (Nat.le_refl _) (Nat.zero_le _) rfl rfl (fun k hk => by omega)
set_option maxRecDepth 100000 in
set_option maxHeartbeats 2000000 in
theorem same_walk {ba : Option Addr} {bb bo n bc : Nat} {f : Nat → Int} (D : Byts W ba bb bo n bc f) (hnil : ba = none → bc = 0) (hn : n ≤ 1048576) :
    Calls Try.prog 4 #[.slice ba n bc] W fun e w' => e = .returned (.bool true) ∧ Up W w' := by
  have HD : Hid (Byts W ba bb bo n bc f) := D
  have HNil : Hid (ba = none → bc = 0) := hnil
  have hlc := D.lc
  have H8 : Hid (F8 f) := D.u8
  have hni : (n : Int) ≤ 1048576 := by omega
  clear D hnil
  go_enter Try.func4, Try.ntmps4
  go_wp2_with fail
  refine (fed_any W).mono ?_
  rintro e w1 ⟨rfl, hU1⟩
  go_wp2_with fail
  refine (newDecoder_any w1).mono ?_
  rintro e w2 ⟨rfl, hDx, hU2, hs2⟩
  obtain ⟨dx, hdx⟩ : ∃ dx, dx = w1.heap.size := ⟨_, rfl⟩
  rw [← hdx] at hDx ⊢
  have hs1 := hU1.size
  have HU2 : Hid (Up W w2) := hU1.trans hU2
  have HDx : Hid (Dcr w2 dx (.slice none 0 0) [] false) := hDx
  have HZ : Hid (W.heap.size ≤ dx) := by show _ ≤ _; omega
  have HS : Hid (∀ w', Up w2 w' → Src w' (.slice ba n bc) (bl f 0 n)) := fun w' u => src_arg2 HD.out HNil.out (HU2.out.trans u)
  have HE : Hid ((w2.alloc (.cells #[] 5)).ownsRow w2.heap.size 5 1 (.slice (some ⟨w2.heap.size, 0, none⟩) 0 0) 0 (u8s [])) := own_empty2 w2 _ _ (Nat.le_refl _)
  clear hU1 hU2 hs1 hs2 hdx hDx
  go_wp2_with (refine wpList_append_bytes rfl _ _ rfl w2.heap.size (.slice (some ⟨w2.heap.size, 0, none⟩) 0 0) [] rfl HE.out (.slice ba n bc) (bl f 0 n) rfl (HS.out _ ((Up.refl w2).alloc _)) (by rw [bl_len]; simp; omega) (by simp) (fun v5 w5 ho hg hw => ?_))
  have u5 : Up w2 w5 := grown_up2 hg
  refine (feed_any (l := []) (y := bl f 0 n) w5 (HDx.out.up u5) (Src.of_own ho) (bl_u8 H8.out _ _) (by rw [bl_len]; simp; omega)).mono ?_
  rintro e w6 ⟨lx, ex, vx, rs, r, rfl, Fx⟩
  clear ho hg hw HE HS
  have hde : Dec msgT f n 0 (rs.map (·.1)) r ex := by
    have := Fx.dec
    rw [List.nil_append, bl_len] at this
    exact this.congr fun k hk => by rw [fn_bl f 0 n k hk, Nat.zero_add]
  have HU6 : Hid (Up W w6) := Fx.up (HU2.out.trans u5) HZ.out (HDx.out.up u5)
  obtain ⟨bs, hbs, hfl, hcl⟩ := hde.enc msg_ok H8.out
  rw [Nat.sub_zero] at hfl
  have HBS : Hid ((rs.map (·.1)).map (encF msgT) = bs.map Except.ok) := hbs
  have HFL : Hid (bs.flatten = bl f 0 r) := hfl
  have HCL : Hid (∀ c ∈ rs.map (·.1), c.cl) := hcl
  have HGD : Hid (∀ c ∈ rs.map (·.1), c.get .m = V0 ∧ ∀ x, (c.get x).bs.length ≤ 4294967296) := hde.good msg_ok H8.out .m msg_m
  have hmany := hde.many
  have hrn : r ≤ n := hde.le.2 (Nat.zero_le _)
  rw [List.length_map] at hmany
  have HST : Hid ((ex = 0 → Dcr w6 dx vx (bl f r (n - r)) false)) := fun e0 => by
    have := Fx.st.1 e0
    rw [List.nil_append, bl_drop _ _ _ _ hrn, Nat.zero_add] at this
    exact this
  obtain ⟨la, lg, lc, rfl, ll, lm, lad, lat⟩ := Fx.rows.at
  have HLA : Hid (0 < rs.length → la = some ⟨lg, 0, none⟩) := lad
  have HLT : Hid (∀ (k : Nat) (x : C × Value), rs[k]? = some x → w6.rangeAt lg (k * 5) (mC x.1 x.2) ∧ Bs 0 w6 x.2 x.1.data.bs) := lat
  obtain ⟨N, hN⟩ : ∃ N, N = rs.length := ⟨_, rfl⟩
  have HN : Hid (N = rs.length) := hN
  have hNn : N ≤ 1048576 := by omega
  have hNi : (N : Int) ≤ 1048576 := by omega
  have HBL : Hid (bs.length = N) := by show _ = _; have := congrArg List.length hbs; simp at this; omega
  rw [← hN] at ll ⊢
  clear Fx u5 hde hbs hfl hcl lad lat hmany hN HDx HU2 HZ lm
  go_wp2_with fail
  go_loopw [7, 8] (fun av i wr => ∃ k : Nat, k ≤ N ∧ i = .int .i64 k ∧ Hid (wr.ownsRow w6.heap.size 5 1 av (bs.take k).flatten.length (u8s (bs.take k).flatten)) ∧ Hid (Up w6 wr)) (fun _ i _ => N - (intOf i).toNat)
  case atStart => exact ⟨0, Nat.zero_le _, rfl, World.ownsRow_nil _ _ _ _, Up.refl _⟩
  case round =>
    obtain ⟨k, hk, rfl, hO, hU⟩ := hrel
    obtain ⟨aa, an, ac, hav⟩ := own_slice3 hO.out
    subst hav
    have hfk : (bs.take k).flatten.length ≤ r := by have h1 := flat_le (bs := bs) k; rw [HFL.out, bl_len] at h1; exact h1
    by_cases hlt : k < N
    · have g1 : k < rs.length := by rw [← HN.out]; exact hlt
      obtain ⟨c, d, hx⟩ : ∃ c d, rs[k]? = some (c, d) := ⟨rs[k].1, rs[k].2, by rw [List.getElem?_eq_getElem g1]⟩
      have hcm : c ∈ rs.map (·.1) := List.mem_map.2 ⟨(c, d), List.mem_of_getElem? hx, rfl⟩
      obtain ⟨b, hb, hec⟩ := map_get HBS.out k c (by rw [List.getElem?_map, hx]; rfl)
      have hft := flat_take hb
      have hfk1 : (bs.take (k + 1)).flatten.length ≤ r := by have h1 := flat_le (bs := bs) (k + 1); rw [HFL.out, bl_len] at h1; exact h1
      have htm : toM c = c := toM_id (HCL.out c hcm) (HGD.out c hcm).1
      obtain ⟨r1, b1⟩ := HLT.out k _ hx
      have hnb : Hid (c.name.bs.length ≤ 4294967296) := (HGD.out c hcm).2 .name
      have hn8 : L8 c.name.bs := (HCL.out c hcm .name).2
      have HRg : Hid (wr.rangeAt lg (k * 5) (mC c d)) := range_up r1 hU.out
      have HEn : Hid (Calls Try.prog 14 #[.agg (mC c d).toArray] wr (EncAns wr (.ok b))) := by
        have := encodeM_any (c := c) (d := d) wr (b1.up hU.out) hn8 (by have := hnb.out; omega)
        rw [htm, hec] at this
        exact this
      have HFT : Hid ((bs.take (k + 1)).flatten = (bs.take k).flatten ++ b) := hft
      have hbl : (bs.take k).flatten.length + b.length ≤ r := by rw [hft, List.length_append] at hfk1; exact hfk1
      have ea := HLA.out (by omega)
      subst ea
      have hki : (k : Int) < N := by omega
      clear hx hcm hb hec hft hfk1 htm r1 b1 hn8 g1
      go_wp2_with (refine wpList_load_mid rfl 35 _ rfl lg (k * 5) rfl (mC c d) _ HRg.out Try.underlying35 rfl (by kernel_rfl) ?_)
      refine Calls.mono HEn.out ?_
      rintro e w7 ⟨⟨v7, rfl, ho7⟩, hu7⟩
      have HO7 : Hid (w7.ownsRow w6.heap.size 5 1 (.slice aa an ac) (bs.take k).flatten.length (u8s (bs.take k).flatten)) := ownsRow_up hO.out hu7
      have HS7 : Hid (Src w7 v7 b) := Src.of_own ho7
      have HU7 : Hid (Up w6 w7) := hU.out.trans hu7
      have HAl : Hid (∀ g, (Value.slice aa an ac).ownBlock = some g → w6.heap.size ≤ g) := fun g hg => (hO.out.lt g hg).1
      obtain ⟨va, vn, vc, hv7⟩ := own_slice3 ho7
      subst hv7
      clear ho7 hu7
      go_wp2_with (refine wpList_append_bytes rfl _ _ rfl w6.heap.size (.slice aa an ac) (bs.take k).flatten rfl HO7.out (.slice va vn vc) b rfl HS7.out (by omega) HU7.out.size (fun v8 w8 ho hg hw => ?_)
                   have HU8 : Hid (Up w6 w8) := ⟨hg.os.trans HU7.out.os, hg.output.trans HU7.out.output, Nat.le_trans HU7.out.size hg.size, fun x hx => (hg.block x (Nat.lt_of_lt_of_le hx HU7.out.size) (fun e => by have := HAl.out x e.symm; omega)).trans (HU7.out.block x hx)⟩
                   have HO8 : Hid (w8.ownsRow w6.heap.size 5 1 v8 (bs.take (k + 1)).flatten.length (u8s (bs.take (k + 1)).flatten)) := by rw [HFT.out]; exact ho
                   clear ho hg hw)
      go_roundw
      case rel => exact ⟨k + 1, by omega, by go_num, HO8, HU8⟩
      case measure => simp [intOf]; omega
    · have ek : k = N := by omega
      subst ek
      have hall : (bs.take k).flatten = bl f 0 r := by rw [← HBL.out, List.take_length]; exact HFL.out
      have ho := hO.out
      rw [hall, bl_len] at ho
      have HAn : Hid (an = r) := by
        show _ = _
        rcases own_cases ho with ⟨e1, e2, _⟩ | ⟨g, cap, e1, _⟩
        · injection e1 with _ e1 _
          omega
        · injection e1
      have HBa : Hid (Bs 0 wr (.slice aa an ac) (bl f 0 r)) := Bs.of_own (base := w6.heap.size) (by rw [bl_len]; exact ho) (Nat.zero_le _) (bl_u8 H8.out _ _)
      have HBb : Hid (Bs 0 wr (.slice ba r bc) (bl f 0 r)) := bs_arg HD.out hrn (HU6.out.trans hU.out)
      have HWt : Hid (ex = 0 → Dcr wr dx vx (bl f r (n - r)) false) := fun e0 => (HST.out e0).up hU.out
      have e2 := HAn.out
      subst e2
      clear hall ho
      have hri : (an : Int) ≤ n := by omega
      have hgd : decide ((n : Int) < (an : Int)) = false := decide_eq_false (by omega)
      have hgd2 : decide (n < an) = false := decide_eq_false (by omega)
      have hgd3 : decide (an ≤ n) = true := decide_eq_true (by omega)
      have hss := str_self
      have HUW : Hid (Up W wr) := HU6.out.trans hU.out
      by_cases hex : ex = 0
      · subst hex
        go_wp2_with fail
        refine wp_still2 12 (by kernel_rfl) (by decide +kernel) ?_
        intro w9 hw9
        have u9 : Up wr w9 := by rw [hw9]; exact (Up.refl _).drew
        have c1 : (convert 22 9 (.slice aa an ac)).run Try.prog w9 = .ok (.string (strOfNums (bl f 0 an))) w9 := (HBa.out.up u9).conv
        have c2 : (convert 22 9 (.slice ba an bc)).run Try.prog w9 = .ok (.string (strOfNums (bl f 0 an))) w9 := (HBb.out.up u9).conv
        generalize strOfNums (bl f 0 an) = S at c1 c2
        have U9 : Hid (Up wr w9) := u9
        clear hw9 u9
        simp only [List.take_succ_cons, List.take_zero, List.drop_succ_cons, List.drop_zero]
        repeat (go_big_quiet_step (fail))
        refine wpQuiet_nil ?_
        go_wp2_with fail
        refine (waiting_any w9 ((HWt.out (by trivial)).up U9.out)).mono ?_
        rintro e w10 ⟨rfl, hw10⟩
        have hw10 : w10 = w9 := hw10
        subst hw10
        rw [bl_len, show ((n - an : Nat) : Int) = (n : Int) - an by omega]
        go_wp2_with fail
        go_ret
        exact ⟨rfl, HUW.out.trans U9.out⟩
      · have hx1 : (ex == 0) = false := by simp [hex]
        have hx2 : (ex != 0) = true := by simp [hex]
        go_wp2_with fail
        refine wp_still2 12 (by kernel_rfl) (by decide +kernel) ?_
        intro w9 hw9
        have u9 : Up wr w9 := by rw [hw9]; exact (Up.refl _).drew
        have c1 : (convert 22 9 (.slice aa an ac)).run Try.prog w9 = .ok (.string (strOfNums (bl f 0 an))) w9 := (HBa.out.up u9).conv
        have c2 : (convert 22 9 (.slice ba an bc)).run Try.prog w9 = .ok (.string (strOfNums (bl f 0 an))) w9 := (HBb.out.up u9).conv
        generalize strOfNums (bl f 0 an) = S at c1 c2
        have U9 : Hid (Up wr w9) := u9
        clear hw9 u9
        simp only [List.take_succ_cons, List.take_zero, List.drop_succ_cons, List.drop_zero]
        repeat (go_big_quiet_step (fail))
        refine wpQuiet_nil ?_
        go_wp2_with fail
        go_ret
        exact ⟨rfl, HUW.out.trans U9.out⟩
end Go.Proofs.Ytnengokobkehfaa
