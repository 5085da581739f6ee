import Derived.Test.YtnbhifbenfgeeaaMgF
/- PpuLoads: the walk. -/
namespace Go.Proofs.Ytnbhifbenfgeeaa
open Go.RowKit
set_option linter.unusedVariables false
variable {b : Nat} {p : Pic}
theorem nilB (w : World) : Byts w none 0 0 0 0 (fun _ => 0) := ⟨Nat.le_refl _, Nat.zero_le _, fun h => absurd h (by decide), fun _ => (show (0 : Int) ≤ 0 ∧ (0 : Int) ≤ 255 by decide), fun k hk => absurd hk (by omega)⟩
theorem NmAt.bytsP {w : World} {g n : Nat} {F : Nat → Int} (h : NmAt w g n F) (m c : Nat) (hm : m ≤ n) (hc : m ≤ c) (hcm : c ≤ maxLen) (hF : ∀ k, 0 ≤ F k ∧ F k ≤ 255) : Byts w (some ⟨g, 0, none⟩) g 0 m c F :=
  ⟨hc, hcm, fun _ => rfl, hF, fun k hk => by rw [Nat.zero_add]; exact h.cell k (by omega)⟩
/-- .. and a row of lists -/
structure Lt (W : World) (bx bw g lb : Nat) (V : Array Value) (ty : TypeId) (q r : Pic) (F : Nat → Int) (w : World) : Prop where
  ld : Ld W bx bw g q r F w
  blk : w.heap[lb]? = some (.cells V ty (0, 0))
theorem Lt.lift {W w w' : World} {bx bw g lb c : Nat} {V : Array Value} {ty : TypeId} {q r q' r' : Pic} {F F' : Nat → Int} (h : Lt W bx bw g lb V ty q r F w) (l : Ld W bx bw g q' r' F' w') (f : Fr c w w') (hc : lb ≠ c) : Lt W bx bw g lb V ty q' r' F' w' :=
  ⟨l, (f.block lb (Array.getElem?_eq_some_iff.1 h.blk).1 hc).trans h.blk⟩
theorem Lt.more {W w w' : World} {bx bw g lb : Nat} {V : Array Value} {ty : TypeId} {q r : Pic} {F : Nat → Int} (h : Lt W bx bw g lb V ty q r F w) (u : Up w w') : Lt W bx bw g lb V ty q r F w' :=
  ⟨h.ld.more u, (u.block lb (Array.getElem?_eq_some_iff.1 h.blk).1).trans h.blk⟩
theorem lentF_b {len : Nat} {f : Nat → Int} (h : ∀ k, 0 ≤ f k ∧ f k ≤ 255) (k : Nat) : 0 ≤ lentF len f k ∧ lentF len f k ≤ 255 := by
  unfold lentF
  split
  · exact h k
  · decide
theorem grownUp {w9 wa w' : World} {v1 : Value} {n : Nat} {xs : List Value} {o : Obj} (u9 : Up w9 wa) (own : wa.ownsRow w9.heap.size 5 1 v1 n xs) (hg : (wa.alloc o).grownBy w' v1.ownBlock) : Up w9 w' := by
  have u := (Up.refl wa).alloc o
  refine ⟨hg.os.trans u9.os, hg.output.trans u9.output, Nat.le_trans u9.size (Nat.le_trans u.size hg.size), fun k hk => ?_⟩
  have hk2 := Nat.lt_of_lt_of_le hk u9.size
  refine (hg.block k (Nat.lt_of_lt_of_le hk2 u.size) (fun e => ?_)).trans ((u.block k hk2).trans (u9.block k hk))
  have := (own.lt k e.symm).1
  omega
set_option maxRecDepth 100000 in
set_option maxHeartbeats 4000000 in
theorem loads_walk {W : World} {sa ta : Option Addr} {sb so sl sc tb to' tl tc : Nat} {f ft : Nat → Int} (D : Byts W sa sb so sl sc f) (hl : sl ≤ 140737488351232) (E : Ints W ta tb to' tl tc ft) (ht : tl ≤ 140737488351232) :
    Calls Try.prog 15 #[.slice sa sl sc, .slice ta tl tc] W fun e w' => e = .returned (.bool true) ∧ Up W w' := by
  obtain ⟨M, hM⟩ : ∃ M, M = 40 := ⟨_, rfl⟩
  have HM : Hid (M = 40) := hM
  clear hM
  have HD : Hid (∀ w', Up W w' → Byts w' sa sb so sl sc f) := fun w' u => D.upT u
  have HE : Hid (∀ w', Up W w' → Ints w' ta tb to' tl tc ft) := fun w' u => ⟨E.lc, E.cm, E.ad, E.i64, fun k hk => (u.cell (World.block_lt_of_cell? _ _ (E.cell k hk))).trans (E.cell k hk)⟩
  have HSL : Hid (sl ≤ 140737488351232) := hl
  have HSB : Hid (0 < sl → sb < W.heap.size) := fun h => World.block_lt_of_cell? _ _ (D.cell 0 h)
  have l1 := D.lc
  have l2 : sc ≤ 9223372036854775807 := by have := D.cm; unfold maxLen at this; omega
  have t1 := E.lc
  have t2 : tc ≤ 9223372036854775807 := by have := E.cm; unfold maxLen at this; omega
  have hie : Try.prog.info? 5 = some Try.t5 := by kernel_rfl
  clear D E
  go_enter Try.func15, Try.ntmps15
  go_wp2_with fail
  have HN1 : Hid _ := newP_any W
  generalize hbx : W.heap.size = bx at HN1
  have HBX : Hid (W.heap.size = bx) := hbx
  clear hbx
  refine Calls.mono HN1.out ?_
  rintro e w1 ⟨rfl, h1, u1⟩
  have H1 : Hid (PxAt w1 bx newPic ∧ Up W w1) := ⟨h1, u1⟩
  clear h1 u1 HN1
  go_wp2_with fail
  have HN2 : Hid _ := newP_any w1
  generalize hbw : w1.heap.size = bw at HN2
  have HBW : Hid (w1.heap.size = bw) := hbw
  clear hbw
  refine Calls.mono HN2.out ?_
  rintro e w2 ⟨rfl, h2, u2⟩
  have H2 : Hid (PxAt w2 bx newPic ∧ PxAt w2 bw newPic ∧ Up W w2 ∧ bx < bw) := ⟨H1.out.1.up u2, h2, H1.out.2.trans u2, by have := H1.out.1.lt; have := HBW.out; omega⟩
  clear h2 u2 HN2
  go_wp2_with fail
  have HN3 : Hid _ := state_any newPic_sane w2 H2.out.1
  generalize hg : w2.heap.size = g at HN3
  have HG : Hid (w2.heap.size = g) := hg
  clear hg
  refine Calls.mono HN3.out ?_
  rintro e w3 ⟨rfl, n3, u3⟩
  have HB : Hid (Lb W bx bw g) := ⟨Nat.le_of_eq HBX.out, by have := H1.out.2.size; have := HBW.out; omega, by have := H2.out.2.2.1.size; have := HG.out; omega, by have := H2.out.2.2.2; omega, by have := H2.out.1.lt; have := HG.out; omega, by have := H2.out.2.1.lt; have := HG.out; omega⟩
  obtain ⟨F0, hF0⟩ : ∃ F0 : Nat → Int, F0 = fun k => if k < 19887 then newPic.st k else 0 := ⟨_, rfl⟩
  have HF0 : Hid (∀ k, 0 ≤ F0 k ∧ F0 k ≤ 255) := fun k => by
    rw [hF0]
    dsimp only
    split
    · exact st_b newPic_sane k (by assumption)
    · decide
  have n3' : NmAt w3 g 19887 F0 := n3.congr (fun k hk => by rw [hF0]; dsimp only; rw [if_pos hk])
  have H3 : Hid (Ld W bx bw g (tickN M newPic 0) (tickN M newPic 0) F0 w3) := ⟨H2.out.1.up u3, H2.out.2.1.up u3, n3', H2.out.2.2.1.trans u3⟩
  clear n3 n3' u3 HN3 H2 H1 HBX HBW HG hF0
  go_wp2_with fail
  go_loopw [9] (fun I wr => ∃ i : Nat, i ≤ 300 ∧ I = .int .i64 i ∧ Hid (Ld W bx bw g (tickN M newPic i) (tickN M newPic i) F0 wr)) (fun I _ => 300 - (intOf I).toNat)
  case atStart => exact ⟨0, by omega, rfl, H3⟩
  case round =>
    clear H3
    obtain ⟨i, hi, rfl, M0⟩ := hrel
    by_cases hlt : i < 300
    · have d1 : decide ((i : Int) < 300) = true := decide_eq_true (by omega)
      have e1 : (i : Int) < 300 := by omega
      have HTx : Hid _ := M0.out.tickX HB.out (newPic_sane.ticks M i) HM.out
      have HSi : Hid (Sane (tickN M newPic i)) := newPic_sane.ticks M i
      clear HD HE
      go_wp2_with fail
      refine Calls.mono HTx.out ?_
      rintro e w4 ⟨rfl, h4⟩
      have HTy : Hid _ := h4.tickY HB.out HSi.out HM.out
      clear h4 HTx M0
      go_wp2_with fail
      refine Calls.mono HTy.out ?_
      rintro e w5 ⟨rfl, h5⟩
      have H5 : Hid (Ld W bx bw g (tickN M newPic (i + 1)) (tickN M newPic (i + 1)) F0 w5) := h5
      clear h5 HTy
      go_wp2_with fail
      refine ⟨⟨i + 1, by omega, ?_, H5⟩, ?_⟩
      · first | rfl | (simp; done)
      · simp [intOf]
        omega
    · have d1 : decide ((i : Int) < 300) = false := decide_eq_false (by omega)
      have hs0 : Sane ((tickN M newPic i).wr 65351 27) := (newPic_sane.ticks M i).wr _ _
      have HWx : Hid _ := M0.out.writeX HB.out 65351 27
      clear M0 hlt hi
      go_wp2_with fail
      refine Calls.mono HWx.out ?_
      rintro e w6 ⟨rfl, h6⟩
      have HWy : Hid _ := h6.writeY HB.out 65351 27
      clear h6 HWx
      go_wp2_with fail
      refine Calls.mono HWy.out ?_
      rintro e w7 ⟨rfl, h7⟩
      have H7 : Hid _ := h7
      clear h7 HWy
      have HS : Hid (Sane ((tickN M newPic i).wr 65351 27)) := hs0
      clear hs0
      generalize (tickN M newPic i).wr 65351 27 = q at *
      obtain ⟨S, hS⟩ : ∃ S, S = strN 23054 (hidF q) ++ strN 19887 q.st := ⟨_, rfl⟩
      have HHx : Hid (∀ w (F : Nat → Int), Ld W bx bw g q q F w → Calls Try.prog 36 #[.pointer (some ⟨bx, 0, none⟩)] w fun e w' => e = .returned (.string S) ∧ Ld W bx bw g q q F w') := fun w F h => h.hiddenX HS.out hS
      have HRf : Hid (∀ w (F : Nat → Int) aa ab ao len cap ff, Ld W bx bw g q q F w → Byts w aa ab ao len cap ff → len ≠ 19887 → Calls Try.prog 37 #[.pointer (some ⟨bx, 0, none⟩), .slice aa len cap] w fun e w' => e = .returned (.int .i64 61) ∧ Ld W bx bw g q q F w') := fun w F aa ab ao len cap ff h D n => h.refuse HB.out D n
      have HSe : Hid (S = strN 23054 (hidF q) ++ strN 19887 q.st) := hS
      clear hS
      go_wp2_with fail
      refine (HHx.out _ _ H7.out).mono ?_
      rintro e w8 ⟨rfl, h8⟩
      have H8 : Hid (Ld W bx bw g q q F0 w8) := h8
      clear h8 H7
      go_wp2_with fail
      refine (HRf.out _ _ none 0 0 0 0 (fun _ => 0) H8.out (nilB w8) (by omega)).mono ?_
      rintro e w9 ⟨rfl, h9⟩
      have H9 : Hid (Ld W bx bw g q q F0 w9) := h9
      clear h9 H8
      have HL40 : Hid ((rowL F0 19887).length = 19887 * 1) := rowL_len _ 19887
      have HO40 : Hid (∀ v ∈ rowL F0 19887, v.oneCell' = true) := rowL_one _ 19887
      have HA40 : Hid (∀ w', Up w9 w' → ∀ j u, (rowL F0 19887)[j]? = some u → w'.cell? ((⟨g, 0, none⟩ : Addr).add j) = some u) := fun w' uu j u hu => by
        have hj : j < 19887 := by
          have := (List.getElem?_eq_some_iff.1 hu).1
          rw [rowL_len] at this
          exact this
        rw [rowL_at _ 19887 j hj] at hu
        rw [Addr.add_lit, Nat.zero_add, ← hu]
        have kk := H9.out.own.cell j hj
        exact (uu.cell (World.block_lt_of_cell? _ _ kk)).trans kk
      have HNL : Hid (rowL (fun k => if k < 19887 then F0 k else 0) 19888 = ([] ++ rowL F0 19887) ++ [.int .u8 0]) := by
        show _ = _
        rw [show 19888 = 19887 + 1 from rfl, rowL_succ, List.nil_append, rowL_congr (H := F0) 19887 (fun k hk => if_pos hk), if_neg (by omega)]
      have HNB : Hid (∀ k, 0 ≤ (if k < 19887 then F0 k else 0 : Int) ∧ (if k < 19887 then F0 k else 0 : Int) ≤ 255) := fun k => by
        split
        · exact HF0.out k
        · decide
      generalize rowL F0 19887 = XL at *
      have hown0 : Hid ((w9.alloc (Obj.cells #[] 5)).ownsRow w9.heap.size 5 1 (.slice (some ⟨w9.heap.size, 0, none⟩) 0 0) 0 []) := World.ownsRow_made w9 #[] 0 (Nat.le_refl _) (by decide) rfl
      have hA1 : Hid _ := HA40.out _ ((Up.refl w9).alloc (Obj.cells #[] 5))
      have hz9 : Hid (w9.heap.size ≤ (w9.alloc (Obj.cells #[] 5)).heap.size) := ((Up.refl w9).alloc _).size
      have HG9 : Hid (∀ w', (w9.alloc (Obj.cells #[] 5)).grownBy w' (Value.slice (some ⟨w9.heap.size, 0, none⟩) 0 0).ownBlock → Up w9 w') := fun w' hg => by
        have u := (Up.refl w9).alloc (Obj.cells #[] 5)
        refine ⟨hg.os, hg.output, Nat.le_trans u.size hg.size, fun k hk => (hg.block k (Nat.lt_of_lt_of_le hk u.size) (fun e => ?_)).trans (u.block k hk)⟩
        have : k = w9.heap.size := by simpa [Value.ownBlock] using e
        omega
      go_wp2_with (first | (at_builtin; refine wpList_append_own _ rfl _ _ 23 rfl w9.heap.size 5 Try.t5 (.int .u8 0) 1 1 Try.underlying23 hie rfl rfl rfl rfl (by decide) (.slice (some ⟨w9.heap.size, 0, none⟩) 0 0) 0 [] rfl hown0.out ⟨g, 0, none⟩ 19887 19887 XL rfl HL40.out hA1.out HO40.out (by unfold maxLen; omega) (by omega) hz9.out ?_; intro v1 wa howna hgrowa _; have HWa : Hid (Up w9 wa ∧ wa.ownsRow w9.heap.size 5 1 v1 (0 + 19887) ([] ++ XL)) := ⟨HG9.out wa hgrowa, howna⟩; clear howna hgrowa) | (at_builtin; refine wpList_append_own _ rfl _ _ 23 rfl w9.heap.size 5 Try.t5 (.int .u8 0) 1 1 Try.underlying23 hie rfl rfl rfl rfl (by decide) _ _ _ rfl (HWa.out.2.alloc _) ⟨wa.heap.size, 0, none⟩ 1 1 [.int .u8 0] rfl rfl (by intro j u hu; match j, hu with | 0, hu => (simp at hu; subst hu; simp [Addr.add])) (by intro u hu; simp at hu; subst hu; rfl) (by unfold maxLen; omega) (by omega) (Nat.le_trans HWa.out.1.size ((Up.refl wa).alloc _).size) ?_; intro v2 wb hownb hgrowb _; have HWb : Hid (Up w9 wb ∧ wb.ownsRow w9.heap.size 5 1 v2 19888 (rowL (fun k => if k < 19887 then F0 k else 0) 19888)) := ⟨grownUp HWa.out.1 HWa.out.2 hgrowb, by rw [HNL.out]; exact hownb⟩; clear hownb hgrowb))
      clear hA1 hown0 hz9 HG9
      obtain ⟨oa2, ob2, oc2, rfl, hby2, _⟩ := own_byts HWb.out.2 HNB.out
      have HLb : Hid (Ld W bx bw g q q F0 wb) := H9.out.more HWb.out.1
      have HLd : Hid _ := HRf.out wb F0 oa2 ob2 0 19888 oc2 _ HLb.out hby2 (by omega)
      clear hby2 HWb HWa HNL HNB HL40 HO40 HA40 H9
      refine Calls.mono HLd.out ?_
      rintro e w10 ⟨rfl, h10⟩
      have H10 : Hid (Ld W bx bw g q q F0 w10) := h10
      clear h10 HLd HLb
      have HLs : Hid _ := HRf.out w10 F0 (some ⟨g, 0, none⟩) g 0 19886 19887 F0 H10.out (H10.out.own.bytsP 19886 19887 (by omega) (by omega) (by decide) HF0.out) (by omega)
      go_wp2_with fail
      refine Calls.mono HLs.out ?_
      rintro e w11 ⟨rfl, h11⟩
      have H11 : Hid (Ld W bx bw g q q F0 w11) := h11
      clear h11 HLs H10
      go_wp2_with fail
      refine (HHx.out _ _ H11.out).mono ?_
      rintro e w12 ⟨rfl, h12⟩
      have H12 : Hid (Ld W bx bw g q q F0 w12) := h12
      clear h12 H11
      go_wp2_with fail
      have H12b : Hid (∃ F : Nat → Int, (∀ k, 0 ≤ F k ∧ F k ≤ 255) ∧ Ld W bx bw g q q F w12) := ⟨F0, HF0.out, H12.out⟩
      clear H12 HF0 HRf
      go_loopw [15, 16] (fun I _ wr => ∃ i : Nat, i ≤ tl + 1 ∧ I = .int .i64 i ∧ Hid (∃ F : Nat → Int, (∀ k, 0 ≤ F k ∧ F k ≤ 255) ∧ Ld W bx bw g q q F wr)) (fun I _ _ => tl + 1 - (intOf I).toNat)
      case atStart => exact ⟨0, by omega, rfl, H12b⟩
      case round =>
        clear H12b
        obtain ⟨j, hj, rfl, M1⟩ := hrel
        by_cases hlt : j + 1 < tl
        · have d2 : decide ((j : Int) + 1 < (tl : Int)) = true := decide_eq_true (by omega)
          have e2 : (j : Int) + 1 < (tl : Int) := by omega
          have e3 : (j : Int) < (tl : Int) := by omega
          obtain ⟨F, hF, hL⟩ := M1.out
          have et := HE.out wr hL.up
          obtain rfl := et.ad (by omega)
          have k1 := et.cell j (by omega)
          have k2 := et.cell (j + 1) hlt
          have i1 := et.i64 j
          have i2 := et.i64 (j + 1)
          have HPk : Hid (∀ W, Calls Try.prog 19 #[.int .i64 (ft j), .int .i64 19887] W fun e w' => e = .returned (.int .i64 (pickI (ft j) 19887)) ∧ w' = W) := fun W => pick_any (ft j) 19887 W i1 (by decide) (by decide)
          have p1 := pickI_lo (ft j) 19887 (by decide)
          have p2 := pickI_hi (ft j) 19887 (by decide)
          have HF : Hid (∀ k, 0 ≤ F k ∧ F k ≤ 255) := hF
          have HLd : Hid (Ld W bx bw g q q F wr) := hL
          have ej : ((j : Int) + 1).toNat = j + 1 := by omega
          generalize pickI (ft j) 19887 = KI at *
          obtain ⟨KN, rfl⟩ := Int.eq_ofNat_of_zero_le p1
          obtain ⟨i20, i21⟩ := i2
          generalize ft (j + 1) = Y at *
          clear et hF hL M1 HD HE i1
          -- what is stored, wherever it goes
          have HST : Hid (∀ (k : Nat) (x : Int) (w : World), k < 19887 → 0 ≤ x ∧ x ≤ 255 → Ld W bx bw g q q F w → ∃ F', (∀ n, 0 ≤ F' n ∧ F' n ≤ 255) ∧ Ld W bx bw g q q F' (w.setCell ⟨g, k, none⟩ (.int .u8 x))) := fun k x w hk hx h => ⟨fun n => if n = k then x else F n, fun n => by dsimp only; split; exact hx; exact HF.out n, h.onG HB.out (h.own.set k hk x) ((Fr.refl g w).setCell)⟩
          have HX8 : Hid (∀ a c : Int, 0 ≤ bits .xor .u8 a c ∧ bits .xor .u8 a c ≤ 255) := fun a c => cutB_b _
          go_wp2_with fail
          refine (HPk.out _).mono ?_
          rintro e w' ⟨rfl, hw'⟩
          obtain rfl := hw'.symm
          clear HPk
          by_cases e20 : Y.tmod 2 = 0
          · have b20 : (Y.tmod 2 == 0) = true := beq_iff_eq.2 e20
            obtain ⟨NK, hNK, hNK2⟩ : ∃ NK : Nat, (KN : Int) % 60 = (NK : Int) ∧ NK < 60 := ⟨KN % 60, by omega, by omega⟩
            go_wp2_with fail
            rw [hNK]
            clear hNK
            refine wp_still2 15 (by kernel_rfl) (by decide +kernel) ?_
            intro w13 hw13
            have u13 : Up wr w13 := by rw [hw13]; exact (Up.refl _).drew
            have L13 : Ld W bx bw g q q F w13 := HLd.out.more u13
            have kg := L13.own.cell NK (by omega)
            have kf := L13.own.fz NK
            have k2' : w13.cell? ⟨tb, to' + (j + 1), none⟩ = some (.int .i64 Y) := (u13.cell (World.block_lt_of_cell? _ _ k2)).trans k2
            have nk1 : (NK : Int) < 19887 := by omega
            have HS13 : Hid (∀ x : Int, 0 ≤ x ∧ x ≤ 255 → ∃ F', (∀ n, 0 ≤ F' n ∧ F' n ≤ 255) ∧ Ld W bx bw g q q F' (w13.setCell ⟨g, NK, none⟩ (.int .u8 x))) := fun x hx => HST.out NK x w13 (by omega) hx L13
            clear hw13 u13 L13 HLd HST k1
            simp only [List.take_succ_cons, List.take_zero, List.drop_succ_cons, List.drop_zero]
            repeat (go_big_quiet_step (fail))
            refine wpQuiet_nil ?_
            generalize hXV : bits .xor .u8 (F NK) _ = XV
            have hxb : 0 ≤ XV ∧ XV ≤ 255 := by rw [← hXV]; exact HX8.out _ _
            have HS14 : Hid _ := HS13.out XV hxb
            clear hXV hxb HS13
            go_wp2_with fail
            refine ⟨⟨j + 2, by omega, ?_, HS14⟩, ?_⟩
            · first | rfl | (simp; done)
            · simp [intOf]
              omega
          · have b20 : (Y.tmod 2 == 0) = false := beq_eq_false_iff_ne.2 e20
            obtain ⟨NK, hNK⟩ : ∃ NK : Nat, NK = KN := ⟨_, rfl⟩
            go_wp2_with fail
            rw [← hNK]
            have hNK3 : NK < 19887 := by omega
            clear hNK
            refine wp_still2 15 (by kernel_rfl) (by decide +kernel) ?_
            intro w13 hw13
            have u13 : Up wr w13 := by rw [hw13]; exact (Up.refl _).drew
            have L13 : Ld W bx bw g q q F w13 := HLd.out.more u13
            have kg := L13.own.cell NK (by omega)
            have kf := L13.own.fz NK
            have k2' : w13.cell? ⟨tb, to' + (j + 1), none⟩ = some (.int .i64 Y) := (u13.cell (World.block_lt_of_cell? _ _ k2)).trans k2
            have nk1 : (NK : Int) < 19887 := by omega
            have HS13 : Hid (∀ x : Int, 0 ≤ x ∧ x ≤ 255 → ∃ F', (∀ n, 0 ≤ F' n ∧ F' n ≤ 255) ∧ Ld W bx bw g q q F' (w13.setCell ⟨g, NK, none⟩ (.int .u8 x))) := fun x hx => HST.out NK x w13 (by omega) hx L13
            clear hw13 u13 L13 HLd HST k1
            simp only [List.take_succ_cons, List.take_zero, List.drop_succ_cons, List.drop_zero]
            repeat (go_big_quiet_step (fail))
            refine wpQuiet_nil ?_
            generalize hXV : bits .xor .u8 (F NK) _ = XV
            have hxb : 0 ≤ XV ∧ XV ≤ 255 := by rw [← hXV]; exact HX8.out _ _
            have HS14 : Hid _ := HS13.out XV hxb
            clear hXV hxb HS13
            go_wp2_with fail
            refine ⟨⟨j + 2, by omega, ?_, HS14⟩, ?_⟩
            · first | rfl | (simp; done)
            · simp [intOf]
              omega
        · have d2 : decide ((j : Int) + 1 < (tl : Int)) = false := decide_eq_false (by omega)
          obtain ⟨F, hF, hL⟩ := M1.out
          have HF : Hid (∀ k, 0 ≤ F k ∧ F k ≤ 255) := hF
          have HLd : Hid (Ld W bx bw g q q F wr) := hL
          have e21 : (j : Int) + 1 ≤ 9223372036854775807 := by omega
          clear hF hL M1 hlt hj HE
          go_wp2_with fail
          have HLB0 : Hid (Lt W bx bw g wr.heap.size #[.slice sa sl sc, .slice (some ⟨g, 0, none⟩) 19887 19887] 23 q q F (wr.alloc (Obj.cells #[.slice sa sl sc, .slice (some ⟨g, 0, none⟩) 19887 19887] 23))) := ⟨HLd.out.more ((Up.refl wr).alloc _), heap_alloc_new wr _⟩
          have HLBX : Hid (wr.heap.size ≠ bx ∧ wr.heap.size ≠ bw ∧ wr.heap.size ≠ g) := ⟨by have := HLd.out.px.lt; omega, by have := HLd.out.py.lt; omega, by have := HLd.out.own.lt; omega⟩
          generalize World.alloc wr _ = w13 at HLB0 ⊢
          generalize wr.heap.size = lb at HLB0 HLBX ⊢
          have HHu : Hid (∀ w, Ld W bx bw g q q F w → Calls Try.prog 36 #[.pointer (some ⟨bx, 0, none⟩)] w fun e w' => e = .returned (.string S) ∧ Up w w') := fun w h => by
            have := hidden_any rfl rfl HS.out w h.px
            rw [HSe.out]
            exact this
          have HHy : Hid (∀ w, Sane q → Ld W bx bw g q q F w → Calls Try.prog 36 #[.pointer (some ⟨bw, 0, none⟩)] w fun e w' => e = .returned (.string S) ∧ Up w w') := fun w _ h => by
            have := hidden_any rfl rfl HS.out w h.py
            rw [HSe.out]
            exact this
          clear HLd HHx
          go_loopw [14, 18, 19, 20, 21, 22, 23, 24, 25, 26] (fun _ I _ _ _ _ _ _ _ _ wr => ∃ n : Nat, n ≤ 2 ∧ I = .int .i64 n ∧ Hid (Lt W bx bw g lb #[.slice sa sl sc, .slice (some ⟨g, 0, none⟩) 19887 19887] 23 q q F wr)) (fun _ I _ _ _ _ _ _ _ _ _ => 2 - (intOf I).toNat)
          case atStart => exact ⟨0, by omega, rfl, HLB0⟩
          case round =>
            clear HLB0
            obtain ⟨n, hn, rfl, N0⟩ := hrel
            have hn3 : n = 0 ∨ n = 1 ∨ n = 2 := by omega
            rcases hn3 with rfl | rfl | rfl
            · have kl : wr.cell? ⟨lb, 0, none⟩ = some (.slice sa sl sc) := by rw [cell_of_row _ _ _ _ _ _ N0.out.blk]; rfl
              have HLe : Hid _ := lent_any (HD.out _ N0.out.ld.up) HSL.out
              go_wp2_with fail
              refine Calls.mono HLe.out ?_
              rintro e w14 ⟨cg, rfl, hcg, n14, u14⟩
              have N14 : Hid (Lt W bx bw g lb #[.slice sa sl sc, .slice (some ⟨g, 0, none⟩) 19887 19887] 23 q q F w14 ∧ NmAt w14 cg (sl + 70) (lentF sl f)) := ⟨N0.out.more u14, n14⟩
              have HCg : Hid (cg ≠ bx ∧ cg ≠ bw ∧ cg ≠ g ∧ cg ≠ lb) := ⟨by have := N0.out.ld.px.lt; omega, by have := N0.out.ld.py.lt; omega, by have := N0.out.ld.own.lt; omega, by have := (Array.getElem?_eq_some_iff.1 N0.out.blk).1; omega⟩
              have HWC : Hid (W.heap.size ≤ cg) := Nat.le_trans N0.out.ld.up.size hcg
              have HGC : Hid (g < cg) := by have := N0.out.ld.own.lt; show _ < _; omega
              clear n14 u14 hcg HLe kl N0
              have hcb : Byts w14 (some ⟨cg, 0, none⟩) cg 0 sl (sl + 70) (lentF sl f) := N14.out.2.bytsP sl (sl + 70) (by omega) (by omega) (by unfold maxLen; have := HSL.out; omega) (lentF_b (HD.out w14 N14.out.1.ld.up).u8)
              have HLo : Hid _ := N14.out.1.ld.load HB.out hcb
              have HTS : Hid (Taken sl (lentF sl f) → Sane (stPic (lentF sl f))) := fun t => t.sane hcb.u8
              clear hcb
              go_wp2_with fail
              refine Calls.mono HLo.out ?_
              rintro e w15 ⟨ht1, ht2, F15⟩
              by_cases tk : Taken sl (lentF sl f)
              · obtain ⟨rfl, L15⟩ := ht1 tk
                have HSn := HTS.out tk
                have HLn : Hid (_ = _) := tk.len
                have N15 : Hid (Lt W bx bw g lb #[.slice sa sl sc, .slice (some ⟨g, 0, none⟩) 19887 19887] 23 (stPic (lentF sl f)) q F w15) := N14.out.1.lift L15 F15 HLBX.out.1
                have HSs : Hid (Sane (stPic (lentF sl f))) := HSn
                have HBk : Hid _ := back_any (aa := sa) (ab := sb) (ao := so) (cap := sc) (g := cg) (HD.out _ L15.up) HSL.out (N14.out.2.frN F15 HCg.out.1) (fun h => by have := HSB.out h; have := HWC.out; omega)
                clear ht1 ht2 L15 HSn F15 N14 HLo HTS tk
                have kl : w15.cell? ⟨lb, 0, none⟩ = some (.slice sa sl sc) := by rw [cell_of_row _ _ _ _ _ _ N15.out.blk]; rfl
                generalize stPic (lentF sl f) = q2 at *
                go_wp2_with fail
                refine Calls.mono HBk.out ?_
                rintro e w16 ⟨rfl, F16⟩
                have N16 : Hid (Lt W bx bw g lb #[.slice sa sl sc, .slice (some ⟨g, 0, none⟩) 19887 19887] 23 q2 q F w16) := N15.out.lift (N15.out.ld.far HWC.out HCg.out.1 HCg.out.2.1 HCg.out.2.2.1 F16) F16 (fun e => HCg.out.2.2.2 e.symm)
                have kl2 : w16.cell? ⟨lb, 0, none⟩ = some (.slice sa sl sc) := by rw [cell_of_row _ _ _ _ _ _ N16.out.blk]; rfl
                have H16 : Hid (∃ q3, Sane q3 ∧ Ld W bx bw g q3 q F w16) := ⟨q2, HSs.out, N16.out.ld⟩
                have hle2 : (sl : Int) = 19887 := by have := HLn.out; omega
                have hne2 : ((sl : Int) != 19887) = false := by rw [hle2]; rfl
                clear F16 N15 N16 HBk kl HLn HSs
                go_wp2_with fail
                go_loopw [22] (fun I wr => ∃ i : Nat, i ≤ 20000 ∧ I = .int .i64 i ∧ Hid (∃ q3, Sane q3 ∧ Ld W bx bw g q3 q F wr)) (fun I _ => 20000 - (intOf I).toNat)
                case atStart => exact ⟨0, by omega, rfl, H16⟩
                case round =>
                  clear H16
                  obtain ⟨i4, hi4, rfl, M4⟩ := hrel
                  obtain ⟨q3, s3, L3⟩ := M4.out
                  by_cases hlt4 : i4 < 20000
                  · have d4 : decide ((i4 : Int) < 20000) = true := decide_eq_true (by omega)
                    have e4 : (i4 : Int) < 20000 := by omega
                    have HTx : Hid _ := L3.tickX HB.out s3 HM.out
                    have HSx : Hid (Sane (q3.tickP (Pic.lineA M))) := s3.tick M
                    clear HD s3 L3 M4
                    go_wp2_with fail
                    refine Calls.mono HTx.out ?_
                    rintro e w17 ⟨rfl, h17⟩
                    have H17 : Hid (∃ q3, Sane q3 ∧ Ld W bx bw g q3 q F w17) := ⟨_, HSx.out, h17⟩
                    clear h17 HTx HSx
                    go_wp2_with fail
                    refine ⟨⟨i4 + 1, by omega, ?_, H17⟩, ?_⟩
                    · first | rfl | (simp; done)
                    · simp [intOf]
                      omega
                  · have d4 : decide ((i4 : Int) < 20000) = false := decide_eq_false (by omega)
                    have HLi : Hid _ := line_any s3.inn wr L3.px
                    have HXq : Hid (∀ w', Up wr w' → PxAt w' bx q3) := fun w' u => L3.px.up u
                    have HUq : Hid (∀ w', Up wr w' → Up W w') := fun w' u => L3.up.trans u
                    have HS3 : Hid (∀ k, k < 23040 → 0 ≤ q3.sh k ∧ q3.sh k ≤ 3) := s3.s3
                    have y0 := (s3.inn.rg 4).1
                    have y1 := s3.ly
                    have z0 := s3.c0
                    have z1 := s3.c9
                    have z4 := s3.c4
                    have g1 : decide (0 ≤ q3.rg 4) = true := decide_eq_true y0
                    have g2 : decide (q3.rg 4 < 154) = true := decide_eq_true (by omega)
                    have g3 : decide (0 ≤ q3.clk) = true := decide_eq_true z0
                    have g4 : decide (q3.clk < 456) = true := decide_eq_true (by omega)
                    have g5 : (q3.clk.tmod 4 == 0) = true := beq_iff_eq.2 (by rw [Int.tmod_eq_emod_of_nonneg z0]; exact z4)
                    have g6 : (q3.clk % 4 == 0) = true := beq_iff_eq.2 z4
                    clear s3 L3 M4 hlt4 hi4
                    go_wp2_with fail
                    refine Calls.mono HLi.out ?_
                    rintro e w18 ⟨rfl, m18, rfl⟩
                    have u18 := Up.drewN wr m18
                    generalize wr.drewN m18 = w18 at u18 ⊢
                    have HFr : Hid _ := frame_any w18 (HXq.out _ u18)
                    have HU18 : Hid (Up wr w18) := u18
                    clear u18 HLi
                    generalize hfg : w18.heap.size = fg at HFr
                    clear hfg
                    go_wp2_with fail
                    refine Calls.mono HFr.out ?_
                    rintro e w19 ⟨rfl, n19, u19⟩
                    have H19 : Hid (NmAt w19 fg 23040 q3.sh ∧ Up W w19) := ⟨n19, HUq.out _ (HU18.out.trans u19)⟩
                    clear n19 u19 HFr HU18 HXq HUq
                    go_wp2_with fail
                    go_loopw [26] (fun I wr => ∃ i : Nat, i ≤ 23040 ∧ I = .int .i64 i ∧ Hid (NmAt wr fg 23040 q3.sh ∧ Up W wr)) (fun I _ => 23040 - (intOf I).toNat)
                    case atStart => exact ⟨0, by omega, rfl, H19⟩
                    case round =>
                      clear H19
                      obtain ⟨i5, hi5, rfl, M5⟩ := hrel
                      by_cases hlt5 : i5 < 23040
                      · have d5 : decide ((i5 : Int) < 23040) = true := decide_eq_true (by omega)
                        have e5 : (i5 : Int) < 23040 := by omega
                        have k5 := M5.out.1.cell i5 hlt5
                        have b5 : decide (3 < q3.sh i5) = false := decide_eq_false (by have := (HS3.out i5 hlt5).2; omega)
                        clear HD
                        go_wp2_with fail
                        refine ⟨⟨i5 + 1, by omega, ?_, M5⟩, ?_⟩
                        · first | rfl | (simp; done)
                        · simp [intOf]
                          omega
                      · have d5 : decide ((i5 : Int) < 23040) = false := decide_eq_false (by omega)
                        go_wp2_with fail
                        go_ret
                        exact ⟨by first | rfl | (simp; done), M5.out.2⟩
              · obtain ⟨rfl, L15⟩ := ht2 tk
                have N15 : Hid (Lt W bx bw g lb #[.slice sa sl sc, .slice (some ⟨g, 0, none⟩) 19887 19887] 23 q q F w15) := N14.out.1.lift L15 F15 HLBX.out.1
                have HBk : Hid _ := back_any (aa := sa) (ab := sb) (ao := so) (cap := sc) (g := cg) (HD.out _ L15.up) HSL.out (N14.out.2.frN F15 HCg.out.1) (fun h => by have := HSB.out h; have := HWC.out; omega)
                clear ht1 ht2 L15 F15 N14 HLo HTS tk
                have kl : w15.cell? ⟨lb, 0, none⟩ = some (.slice sa sl sc) := by rw [cell_of_row _ _ _ _ _ _ N15.out.blk]; rfl
                go_wp2_with fail
                refine Calls.mono HBk.out ?_
                rintro e w16 ⟨rfl, F16⟩
                have N16 : Hid (Lt W bx bw g lb #[.slice sa sl sc, .slice (some ⟨g, 0, none⟩) 19887 19887] 23 q q F w16) := N15.out.lift (N15.out.ld.far HWC.out HCg.out.1 HCg.out.2.1 HCg.out.2.2.1 F16) F16 (fun e => HCg.out.2.2.2 e.symm)
                clear F16 N15 HBk kl
                go_wp2_with fail
                refine (HHu.out _ N16.out.ld).mono ?_
                rintro e w17 ⟨rfl, u17⟩
                have N17 : Hid (Lt W bx bw g lb #[.slice sa sl sc, .slice (some ⟨g, 0, none⟩) 19887 19887] 23 q q F w17) := N16.out.more u17
                clear u17 N16
                go_wp2_with fail
                refine ⟨⟨1, by omega, ?_, N17⟩, ?_⟩
                · first | rfl | (simp; done)
                · simp [intOf]
            · have kl : wr.cell? ⟨lb, 1, none⟩ = some (.slice (some ⟨g, 0, none⟩) 19887 19887) := by rw [cell_of_row _ _ _ _ _ _ N0.out.blk]; rfl
              have HLe : Hid _ := lent_any (N0.out.ld.own.bytsP 19887 19887 (Nat.le_refl _) (Nat.le_refl _) (by decide) HF.out) (by decide)
              go_wp2_with fail
              refine Calls.mono HLe.out ?_
              rintro e w14 ⟨cg, rfl, hcg, n14, u14⟩
              have N14 : Hid (Lt W bx bw g lb #[.slice sa sl sc, .slice (some ⟨g, 0, none⟩) 19887 19887] 23 q q F w14 ∧ NmAt w14 cg (19887 + 70) (lentF 19887 F)) := ⟨N0.out.more u14, n14⟩
              have HCg : Hid (cg ≠ bx ∧ cg ≠ bw ∧ cg ≠ g ∧ cg ≠ lb) := ⟨by have := N0.out.ld.px.lt; omega, by have := N0.out.ld.py.lt; omega, by have := N0.out.ld.own.lt; omega, by have := (Array.getElem?_eq_some_iff.1 N0.out.blk).1; omega⟩
              have HWC : Hid (W.heap.size ≤ cg) := Nat.le_trans N0.out.ld.up.size hcg
              have HGC : Hid (g < cg) := by have := N0.out.ld.own.lt; show _ < _; omega
              clear n14 u14 hcg HLe kl N0
              have hcb : Byts w14 (some ⟨cg, 0, none⟩) cg 0 19887 (19887 + 70) (lentF 19887 F) := N14.out.2.bytsP 19887 (19887 + 70) (by omega) (by omega) (by decide) (lentF_b HF.out)
              have HLo : Hid _ := N14.out.1.ld.load HB.out hcb
              have HTS : Hid (Taken 19887 (lentF 19887 F) → Sane (stPic (lentF 19887 F))) := fun t => t.sane hcb.u8
              clear hcb
              go_wp2_with fail
              refine Calls.mono HLo.out ?_
              rintro e w15 ⟨ht1, ht2, F15⟩
              by_cases tk : Taken 19887 (lentF 19887 F)
              · obtain ⟨rfl, L15⟩ := ht1 tk
                have HSn := HTS.out tk
                have HLn : Hid (_ = _) := tk.len
                have N15 : Hid (Lt W bx bw g lb #[.slice sa sl sc, .slice (some ⟨g, 0, none⟩) 19887 19887] 23 (stPic (lentF 19887 F)) q F w15) := N14.out.1.lift L15 F15 HLBX.out.1
                have HSs : Hid (Sane (stPic (lentF 19887 F))) := HSn
                have HBk : Hid _ := back_any (aa := (some ⟨g, 0, none⟩)) (ab := g) (ao := 0) (cap := 19887) (g := cg) (L15.own.bytsP 19887 19887 (Nat.le_refl _) (Nat.le_refl _) (by decide) HF.out) (by decide) (N14.out.2.frN F15 HCg.out.1) (fun _ => by have := HGC.out; omega)
                clear ht1 ht2 L15 HSn F15 N14 HLo HTS tk
                have kl : w15.cell? ⟨lb, 1, none⟩ = some (.slice (some ⟨g, 0, none⟩) 19887 19887) := by rw [cell_of_row _ _ _ _ _ _ N15.out.blk]; rfl
                generalize stPic (lentF 19887 F) = q2 at *
                go_wp2_with fail
                refine Calls.mono HBk.out ?_
                rintro e w16 ⟨rfl, F16⟩
                have N16 : Hid (Lt W bx bw g lb #[.slice sa sl sc, .slice (some ⟨g, 0, none⟩) 19887 19887] 23 q2 q F w16) := N15.out.lift (N15.out.ld.far HWC.out HCg.out.1 HCg.out.2.1 HCg.out.2.2.1 F16) F16 (fun e => HCg.out.2.2.2 e.symm)
                have kl2 : w16.cell? ⟨lb, 1, none⟩ = some (.slice (some ⟨g, 0, none⟩) 19887 19887) := by rw [cell_of_row _ _ _ _ _ _ N16.out.blk]; rfl
                have H16 : Hid (∃ q3, Sane q3 ∧ Ld W bx bw g q3 q F w16) := ⟨q2, HSs.out, N16.out.ld⟩
  
  
                clear F16 N15 N16 HBk kl HLn HSs
                go_wp2_with fail
                go_loopw [22] (fun I wr => ∃ i : Nat, i ≤ 20000 ∧ I = .int .i64 i ∧ Hid (∃ q3, Sane q3 ∧ Ld W bx bw g q3 q F wr)) (fun I _ => 20000 - (intOf I).toNat)
                case atStart => exact ⟨0, by omega, rfl, H16⟩
                case round =>
                  clear H16
                  obtain ⟨i4, hi4, rfl, M4⟩ := hrel
                  obtain ⟨q3, s3, L3⟩ := M4.out
                  by_cases hlt4 : i4 < 20000
                  · have d4 : decide ((i4 : Int) < 20000) = true := decide_eq_true (by omega)
                    have e4 : (i4 : Int) < 20000 := by omega
                    have HTx : Hid _ := L3.tickX HB.out s3 HM.out
                    have HSx : Hid (Sane (q3.tickP (Pic.lineA M))) := s3.tick M
                    clear HD s3 L3 M4
                    go_wp2_with fail
                    refine Calls.mono HTx.out ?_
                    rintro e w17 ⟨rfl, h17⟩
                    have H17 : Hid (∃ q3, Sane q3 ∧ Ld W bx bw g q3 q F w17) := ⟨_, HSx.out, h17⟩
                    clear h17 HTx HSx
                    go_wp2_with fail
                    refine ⟨⟨i4 + 1, by omega, ?_, H17⟩, ?_⟩
                    · first | rfl | (simp; done)
                    · simp [intOf]
                      omega
                  · have d4 : decide ((i4 : Int) < 20000) = false := decide_eq_false (by omega)
                    have HLi : Hid _ := line_any s3.inn wr L3.px
                    have HXq : Hid (∀ w', Up wr w' → PxAt w' bx q3) := fun w' u => L3.px.up u
                    have HUq : Hid (∀ w', Up wr w' → Up W w') := fun w' u => L3.up.trans u
                    have HS3 : Hid (∀ k, k < 23040 → 0 ≤ q3.sh k ∧ q3.sh k ≤ 3) := s3.s3
                    have y0 := (s3.inn.rg 4).1
                    have y1 := s3.ly
                    have z0 := s3.c0
                    have z1 := s3.c9
                    have z4 := s3.c4
                    have g1 : decide (0 ≤ q3.rg 4) = true := decide_eq_true y0
                    have g2 : decide (q3.rg 4 < 154) = true := decide_eq_true (by omega)
                    have g3 : decide (0 ≤ q3.clk) = true := decide_eq_true z0
                    have g4 : decide (q3.clk < 456) = true := decide_eq_true (by omega)
                    have g5 : (q3.clk.tmod 4 == 0) = true := beq_iff_eq.2 (by rw [Int.tmod_eq_emod_of_nonneg z0]; exact z4)
                    have g6 : (q3.clk % 4 == 0) = true := beq_iff_eq.2 z4
                    clear s3 L3 M4 hlt4 hi4
                    go_wp2_with fail
                    refine Calls.mono HLi.out ?_
                    rintro e w18 ⟨rfl, m18, rfl⟩
                    have u18 := Up.drewN wr m18
                    generalize wr.drewN m18 = w18 at u18 ⊢
                    have HFr : Hid _ := frame_any w18 (HXq.out _ u18)
                    have HU18 : Hid (Up wr w18) := u18
                    clear u18 HLi
                    generalize hfg : w18.heap.size = fg at HFr
                    clear hfg
                    go_wp2_with fail
                    refine Calls.mono HFr.out ?_
                    rintro e w19 ⟨rfl, n19, u19⟩
                    have H19 : Hid (NmAt w19 fg 23040 q3.sh ∧ Up W w19) := ⟨n19, HUq.out _ (HU18.out.trans u19)⟩
                    clear n19 u19 HFr HU18 HXq HUq
                    go_wp2_with fail
                    go_loopw [26] (fun I wr => ∃ i : Nat, i ≤ 23040 ∧ I = .int .i64 i ∧ Hid (NmAt wr fg 23040 q3.sh ∧ Up W wr)) (fun I _ => 23040 - (intOf I).toNat)
                    case atStart => exact ⟨0, by omega, rfl, H19⟩
                    case round =>
                      clear H19
                      obtain ⟨i5, hi5, rfl, M5⟩ := hrel
                      by_cases hlt5 : i5 < 23040
                      · have d5 : decide ((i5 : Int) < 23040) = true := decide_eq_true (by omega)
                        have e5 : (i5 : Int) < 23040 := by omega
                        have k5 := M5.out.1.cell i5 hlt5
                        have b5 : decide (3 < q3.sh i5) = false := decide_eq_false (by have := (HS3.out i5 hlt5).2; omega)
                        clear HD
                        go_wp2_with fail
                        refine ⟨⟨i5 + 1, by omega, ?_, M5⟩, ?_⟩
                        · first | rfl | (simp; done)
                        · simp [intOf]
                          omega
                      · have d5 : decide ((i5 : Int) < 23040) = false := decide_eq_false (by omega)
                        go_wp2_with fail
                        go_ret
                        exact ⟨by first | rfl | (simp; done), M5.out.2⟩
              · obtain ⟨rfl, L15⟩ := ht2 tk
                have N15 : Hid (Lt W bx bw g lb #[.slice sa sl sc, .slice (some ⟨g, 0, none⟩) 19887 19887] 23 q q F w15) := N14.out.1.lift L15 F15 HLBX.out.1
                have HBk : Hid _ := back_any (aa := (some ⟨g, 0, none⟩)) (ab := g) (ao := 0) (cap := 19887) (g := cg) (L15.own.bytsP 19887 19887 (Nat.le_refl _) (Nat.le_refl _) (by decide) HF.out) (by decide) (N14.out.2.frN F15 HCg.out.1) (fun _ => by have := HGC.out; omega)
                clear ht1 ht2 L15 F15 N14 HLo HTS tk
                have kl : w15.cell? ⟨lb, 1, none⟩ = some (.slice (some ⟨g, 0, none⟩) 19887 19887) := by rw [cell_of_row _ _ _ _ _ _ N15.out.blk]; rfl
                go_wp2_with fail
                refine Calls.mono HBk.out ?_
                rintro e w16 ⟨rfl, F16⟩
                have N16 : Hid (Lt W bx bw g lb #[.slice sa sl sc, .slice (some ⟨g, 0, none⟩) 19887 19887] 23 q q F w16) := N15.out.lift (N15.out.ld.far HWC.out HCg.out.1 HCg.out.2.1 HCg.out.2.2.1 F16) F16 (fun e => HCg.out.2.2.2 e.symm)
                clear F16 N15 HBk kl
                go_wp2_with fail
                refine (HHu.out _ N16.out.ld).mono ?_
                rintro e w17 ⟨rfl, u17⟩
                have N17 : Hid (Lt W bx bw g lb #[.slice sa sl sc, .slice (some ⟨g, 0, none⟩) 19887 19887] 23 q q F w17) := N16.out.more u17
                clear u17 N16
                go_wp2_with fail
                refine ⟨⟨2, by omega, ?_, N17⟩, ?_⟩
                · first | rfl | (simp; done)
                · simp [intOf]
            · have H20 : Hid (∃ q3, Sane q3 ∧ Ld W bx bw g q3 q3 F wr) := ⟨q, HS.out, N0.out.ld⟩
              clear N0 HD HHu HHy HF
              have c2 : (((2 : Nat) : Int)) = 2 := rfl
              rw [c2]
              clear c2
              go_wp2_with fail
              go_loopw [27, 28, 29] (fun I _ _ wr => ∃ i : Nat, i ≤ 200 ∧ I = .int .i64 i ∧ Hid (∃ q3, Sane q3 ∧ Ld W bx bw g q3 q3 F wr)) (fun I _ _ _ => 200 - (intOf I).toNat)
              case atStart => exact ⟨0, by omega, rfl, H20⟩
              case round =>
                clear H20
                obtain ⟨i4, hi4, rfl, M4⟩ := hrel
                obtain ⟨q3, s3, L3⟩ := M4.out
                by_cases hlt4 : i4 < 200
                · have d4 : decide ((i4 : Int) < 200) = true := decide_eq_true (by omega)
                  have e4 : (i4 : Int) < 200 := by omega
                  have HTx : Hid _ := L3.tickX HB.out s3 HM.out
                  have HS3 : Hid (Sane q3) := s3
                  have HSx : Hid (Sane (q3.tickP (Pic.lineA M))) := s3.tick M
                  clear s3 L3 M4
                  go_wp2_with fail
                  refine Calls.mono HTx.out ?_
                  rintro e w21 ⟨rfl, h21⟩
                  have HTy : Hid _ := h21.tickY HB.out HS3.out HM.out
                  clear h21 HTx
                  generalize q3.tickA (Pic.lineA M) = ta at HTy ⊢
                  generalize q3.tickP (Pic.lineA M) = q4 at HTy HSx ⊢
                  go_wp2_with fail
                  refine Calls.mono HTy.out ?_
                  rintro e w22 ⟨rfl, h22⟩
                  have H22 : Hid (∃ q3, Sane q3 ∧ Ld W bx bw g q3 q3 F w22) := ⟨_, HSx.out, h22⟩
                  clear h22 HTy HSx
                  have ba : (ta != ta) = false := by simp
                  go_wp2_with fail
                  refine ⟨⟨i4 + 1, by omega, ?_, H22⟩, ?_⟩
                  · first | rfl | (simp; done)
                  · simp [intOf]
                    omega
                · have d4 : decide ((i4 : Int) < 200) = false := decide_eq_false (by omega)
                  obtain ⟨T, hT⟩ : ∃ T, T = strN 23054 (hidF q3) ++ strN 19887 q3.st := ⟨_, rfl⟩
                  have HX3 : Hid (∀ w, PxAt w bx q3 → Calls Try.prog 36 #[.pointer (some ⟨bx, 0, none⟩)] w fun e w' => e = .returned (.string T) ∧ Up w w') := fun w h => by
                    have := hidden_any rfl rfl s3 w h
                    rw [hT]
                    exact this
                  have HY3 : Hid (∀ w, PxAt w bw q3 → Calls Try.prog 36 #[.pointer (some ⟨bw, 0, none⟩)] w fun e w' => e = .returned (.string T) ∧ Up w w') := fun w h => by
                    have := hidden_any rfl rfl s3 w h
                    rw [hT]
                    exact this
                  have HL3 : Hid (Ld W bx bw g q3 q3 F wr) := L3
                  clear s3 L3 M4 hT hlt4 hi4
                  go_wp2_with fail
                  refine (HX3.out _ HL3.out.px).mono ?_
                  rintro e w23 ⟨rfl, u23⟩
                  have HL4 : Hid (Ld W bx bw g q3 q3 F w23) := HL3.out.more u23
                  clear u23 HL3
                  go_wp2_with fail
                  refine (HY3.out _ HL4.out.py).mono ?_
                  rintro e w24 ⟨rfl, u24⟩
                  have HU : Hid (Up W w24) := HL4.out.up.trans u24
                  clear u24 HL4
                  go_wp2_with fail
                  go_ret
                  exact ⟨by first | rfl | (simp; done), HU.out⟩
end Go.Proofs.Ytnbhifbenfgeeaa
