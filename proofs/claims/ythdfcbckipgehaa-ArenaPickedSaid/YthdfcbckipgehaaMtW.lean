import Derived.Test.YthdfcbckipgehaaMtT
/- ArenaPicked: the walk. -/
namespace Go.Proofs.Ythdfcbckipgehaa
open Go.RowKit
set_option linter.unusedVariables false
set_option linter.unusedSimpArgs false
variable {W : World}
theorem str_self (s : ByteArray) : (s == s) = true := by
  first | exact beq_self_eq_true s | exact decide_eq_true rfl | (show decide (s = s) = true; exact decide_eq_true rfl) | (cases s; rename_i d; show (d == d) = true; simp) | (unfold BEq.beq; simp)
set_option maxRecDepth 100000 in
set_option maxHeartbeats 16000000 in
theorem picked_walk (HA0 : ActsAny) {sa : Option Addr} {sb so sl sc : Nat} {f : Nat → Nat → Int} {pa : Option Addr} {pb0 po pl pc : Nat} {fp : Nat → Int} {q0 : Int} (D : Act6s W sa sb so sl sc f) (D2 : Ints W pa pb0 po pl pc fp) (hq : I64 q0) :
    Calls Try.prog 7 #[.slice sa sl sc, .slice pa pl pc, .int .i64 q0] W fun e w' => e = .returned (.bool true) ∧ Up W w' := by
  have l1 := D.lc
  have l2 : sc ≤ 9223372036854775807 := by have := D.cm; unfold maxLen at this; omega
  have l3 := D2.lc
  have l4 : pc ≤ 9223372036854775807 := by have := D2.cm; unfold maxLen at this; omega
  have HPq : Hid (∀ W, Calls Try.prog 11 #[.int .i64 q0, .int .i64 200] W fun e w' => e = .returned (.int .i64 (pickI q0 200)) ∧ w' = W) := fun W => pick_any q0 200 W hq (by decide) (by decide)
  have HPw : Hid (∀ k W, Calls Try.prog 11 #[.int .i64 (f k 1), .int .i64 4] W fun e w' => e = .returned (.int .i64 (pickI (f k 1) 4)) ∧ w' = W) := fun k W => pick_any (f k 1) 4 W (D.i64 k 1) (by decide) (by decide)
  have HPk : Hid (∀ k W, Calls Try.prog 11 #[.int .i64 (f k 0), .int .i64 8] W fun e w' => e = .returned (.int .i64 (pickI (f k 0) 8)) ∧ w' = W) := fun k W => pick_any (f k 0) 8 W (D.i64 k 0) (by decide) (by decide)
  have q1 := pickI_lo q0 200 (by decide)
  have q2 := pickI_hi q0 200 (by decide)
  generalize pickI q0 200 = q at *
  have HD : Hid (Act6s W sa sb so sl sc f) := D
  have HD2 : Hid (Ints W pa pb0 po pl pc fp) := D2
  have HA : Hid ActsAny := HA0
  have HH : Hid (∀ W, Calls Try.prog 22 #[.int .i64 5, .int .i64 q] W fun e w' => ∃ pb V K, e = .returned (.tuple #[.pointer (some ⟨pb, 0, none⟩), V, .bool true]) ∧ Hs W K pb 5 q V 4 4 w') := fun W => house_ok (many := 5) (by decide) ⟨by omega, by omega⟩ q1
  clear D D2 hq HA0
  go_enter Try.func7, Try.ntmps7
  go_wp2_with fail
  refine (HPq.out _).mono ?_
  rintro e w1 ⟨rfl, hw⟩
  obtain rfl := hw.symm
  clear hw HPq
  go_wp2_with fail
  refine (HH.out W).mono ?_
  rintro e w1 ⟨pb1, V, K1, rfl, h1⟩
  obtain ⟨lg1, c1, P1, rfl, d1, d2, x1, x2, x3⟩ := Fp.house5 h1
  have H1 : Hid (Fp W K1 pb1 5 q lg1 P1 H0 w1 ∧ Row4 w1 lg1 c1 H0 ∧ Five P1) := ⟨x1, x2, x3⟩
  clear h1 x1 x2 x3
  go_wp2_with fail
  refine (HH.out w1).mono ?_
  rintro e w2 ⟨pb2, V, K2, rfl, h2⟩
  obtain ⟨lg2, c2, P2, rfl, d3, d4, x1, x2, x3⟩ := Fp.house5 h2
  have H2 : Hid (T4 W q pb1 pb2 lg1 lg2 c1 c2 w2) := ⟨_, _, _, _, _, _, two_houses H1.out.1 H1.out.2.1 H1.out.2.2 x1 x2 x3, fun j hj => rfl⟩
  clear h2 x1 x2 x3 H1 HH
  go_wp2_with fail
  go_loopw [14] (fun I wr => ∃ i : Nat, i ≤ sl ∧ i ≤ 80 ∧ I = .int .i64 (i : Int) ∧ Hid (T4 W q pb1 pb2 lg1 lg2 c1 c2 wr)) (fun I _ => 80 - (intOf I).toNat)
  case atStart => exact ⟨0, Nat.zero_le _, Nat.zero_le _, rfl, H2⟩
  case round =>
    obtain ⟨i, hi, hi8, rfl, H4⟩ := hrel
    clear H2
    by_cases hlt : i < sl ∧ i < 80
    · obtain ⟨hlt, hl8⟩ := hlt
      have e1 : (i : Int) < (sl : Int) := by omega
      have e2 : (i : Int) < 80 := by omega
      obtain rfl := HD.out.ad (by omega)
      have HU : Hid (Up W wr) := H4.out.up
      have k1 := cell_up HU.out (HD.out.cell i hlt 1 (by decide))
      have r1 := pickI_lo (f i 1) 4 (by decide)
      have r2 := pickI_hi (f i 1) 4 (by decide)
      have HPi : Hid _ := HPw.out i
      have HPj : Hid _ := HPk.out i
      clear HPw HPk
      generalize pickI (f i 1) 4 = wI at *
      obtain ⟨c, rfl⟩ := Int.eq_ofNat_of_zero_le r1
      have hc4 : c < 4 := by omega
      go_wp2_with fail
      refine (HPi.out _).mono ?_
      rintro e w' ⟨rfl, hw'⟩
      obtain rfl := hw'.symm
      clear hw' HPi k1
      have HRu : Hid (∀ w2, Up wr w2 → w2.rangeAt sb (so + i * 6) [.int .i64 (f i 0), .int .i64 (f i 1), .int .i64 (f i 2), .int .i64 (f i 3), .int .i64 (f i 4), .int .i64 (f i 5)]) := fun w2 u => HD.out.range (HU.out.trans u) hlt
      go_upto_region 12 with (refine wpList_load_mid rfl 60 _ rfl sb (so + i * 6) rfl [.int .i64 (f i 0), .int .i64 (f i 1), .int .i64 (f i 2), .int .i64 (f i 3), .int .i64 (f i 4), .int .i64 (f i 5)] _ (HRu.out _ (by first | exact Up.refl _ | exact (Up.refl _).alloc _ | skip)) Try.underlying60 rfl (by kernel_rfl) ?_)
      have HW : Hid (Up wr ((wr.alloc (Obj.cells #[.int .i64 (f i 0), .int .i64 (f i 1), .int .i64 (f i 2), .int .i64 (f i 3), .int .i64 (f i 4), .int .i64 (f i 5)] 60)).alloc (Obj.cells #[.int .i64 (f i 0), .int .i64 (f i 1), .int .i64 (f i 2), .int .i64 (f i 3), .int .i64 (f i 4), .int .i64 (f i 5)] 60)) ∧ ((wr.alloc (Obj.cells #[.int .i64 (f i 0), .int .i64 (f i 1), .int .i64 (f i 2), .int .i64 (f i 3), .int .i64 (f i 4), .int .i64 (f i 5)] 60)).alloc (Obj.cells #[.int .i64 (f i 0), .int .i64 (f i 1), .int .i64 (f i 2), .int .i64 (f i 3), .int .i64 (f i 4), .int .i64 (f i 5)] 60)).heap[wr.heap.size]? = some (.cells #[.int .i64 (f i 0), .int .i64 (f i 1), .int .i64 (f i 2), .int .i64 (f i 3), .int .i64 (f i 4), .int .i64 (f i 5)] 60 (0, 0)) ∧ ((wr.alloc (Obj.cells #[.int .i64 (f i 0), .int .i64 (f i 1), .int .i64 (f i 2), .int .i64 (f i 3), .int .i64 (f i 4), .int .i64 (f i 5)] 60)).alloc (Obj.cells #[.int .i64 (f i 0), .int .i64 (f i 1), .int .i64 (f i 2), .int .i64 (f i 3), .int .i64 (f i 4), .int .i64 (f i 5)] 60)).heap[wr.heap.size + 1]? = some (.cells #[.int .i64 (f i 0), .int .i64 (f i 1), .int .i64 (f i 2), .int .i64 (f i 3), .int .i64 (f i 4), .int .i64 (f i 5)] 60 (0, 0))) := by
        have z1 := heap_alloc_new wr (Obj.cells #[.int .i64 (f i 0), .int .i64 (f i 1), .int .i64 (f i 2), .int .i64 (f i 3), .int .i64 (f i 4), .int .i64 (f i 5)] 60)
        have z2 := heap_alloc_new (wr.alloc (Obj.cells #[.int .i64 (f i 0), .int .i64 (f i 1), .int .i64 (f i 2), .int .i64 (f i 3), .int .i64 (f i 4), .int .i64 (f i 5)] 60)) (Obj.cells #[.int .i64 (f i 0), .int .i64 (f i 1), .int .i64 (f i 2), .int .i64 (f i 3), .int .i64 (f i 4), .int .i64 (f i 5)] 60)
        have z3 : (wr.alloc (Obj.cells #[.int .i64 (f i 0), .int .i64 (f i 1), .int .i64 (f i 2), .int .i64 (f i 3), .int .i64 (f i 4), .int .i64 (f i 5)] 60)).heap.size = wr.heap.size + 1 := by simp
        rw [z3] at z2
        exact ⟨((Up.refl wr).alloc _).alloc _, (((Up.refl _).alloc (Obj.cells #[.int .i64 (f i 0), .int .i64 (f i 1), .int .i64 (f i 2), .int .i64 (f i 3), .int .i64 (f i 4), .int .i64 (f i 5)] 60)).block _ (by rw [z3]; omega)).trans z1, z2⟩
      generalize World.alloc (World.alloc wr _) _ = wA at HW ⊢
      generalize hxa : wr.heap.size = xa at HW ⊢
      clear HRu
      obtain ⟨kI, hkI⟩ : ∃ k, pickI (f i 0) 8 = k := ⟨_, rfl⟩
      rw [hkI] at HPj
      have HI2 : Hid (∀ k, I64 (fp k)) := HD2.out.i64
      have HI1 : Hid (∀ k j, I64 (f k j)) := HD.out.i64
      obtain ⟨b0, hb0⟩ : ∃ b0, b0 = (decide (kI < 2) && decide (i < pl)) := ⟨_, rfl⟩
      have Hb0 : Hid (b0 = (decide (kI < 2) && decide (i < pl))) := hb0
      clear hb0
      go_cut [80] (fun C wx => wx = wA ∧ C = .bool b0)
      case first =>
        have ka : wA.cell? ⟨xa, 0, none⟩ = some (.int .i64 (f i 0)) := heap_cell HW.out.2.1 rfl
        go_wp2_with fail
        refine (HPj.out _).mono ?_
        rintro e w' ⟨rfl, hw'⟩
        obtain rfl := hw'.symm
        clear hw' HPj
        by_cases hk : kI < 2
        · by_cases hp : i < pl
          · have e3 : (i : Int) < (pl : Int) := by omega
            go_wp2_with fail
            go_meet
            exact ⟨rfl, by rw [Hb0.out, decide_eq_true hk, decide_eq_true hp]; rfl⟩
          · have e3 : ¬ (i : Int) < (pl : Int) := by omega
            go_wp2_with fail
            go_meet
            exact ⟨rfl, by rw [Hb0.out, decide_eq_true hk, decide_eq_false hp]; rfl⟩
        · go_wp2_with fail
          go_meet
          exact ⟨rfl, by rw [Hb0.out, decide_eq_false (show ¬ kI < 2 by omega)]; rfl⟩
      case rest =>
      obtain ⟨hwx, rfl⟩ := hcut
      subst hwx
      clear HPj
      go_upto_if 80 with fail
      go_cut [17] (fun X wx => X = .pointer (some ⟨xa + 1, 0, none⟩) ∧ Hid (∃ pk2, Hid ((kI < 2 ∨ pk2 = f i 3) ∧ I64 pk2 ∧ Hid (Up wr wx) ∧ Hid (wx.heap[xa]? = some (.cells #[.int .i64 (f i 0), .int .i64 (f i 1), .int .i64 (f i 2), .int .i64 (f i 3), .int .i64 (f i 4), .int .i64 (f i 5)] 60 (0, 0))) ∧ Hid (wx.heap[xa + 1]? = some (.cells #[.int .i64 (f i 0), .int .i64 (f i 1), .int .i64 (f i 2), .int .i64 pk2, .int .i64 (f i 4), .int .i64 (f i 5)] 60 (0, 0))))))
      case first =>
        cases b0 with
        | true =>
          have hbb := Hb0.out
          have hk : kI < 2 := by
            by_cases h : kI < 2
            · exact h
            · rw [decide_eq_false h] at hbb; cases hbb
          have hp : i < pl := by
            by_cases h : i < pl
            · exact h
            · rw [decide_eq_false h, Bool.and_false] at hbb; cases hbb
          clear hbb
          obtain rfl := HD2.out.ad (by omega)
          have kc := cell_up (HU.out.trans HW.out.1) (HD2.out.cell i hp)
          have kf : wc.frozen? ⟨xa + 1, 3, none⟩ = false := heap_fz HW.out.2.2
          have kg : wc.cell? ⟨xa + 1, 3, none⟩ = some (.int .i64 (f i 3)) := heap_cell HW.out.2.2 rfl
          go_wp2_with fail
          go_meet
          have fs : Fr (xa + 1) wc (wc.setCell ⟨xa + 1, 3, none⟩ (.int .i64 (fp i))) := (Fr.refl _ _).setCell
          exact ⟨rfl, fp i, Or.inl hk, HI2.out i, Fr.up HW.out.1 (by omega) fs, (fs.block _ (heap_at HW.out.2.1) (by omega)).trans HW.out.2.1, heap_setCells_same (xa + 1) 60 [.int .i64 (fp i)] 3 _ wc HW.out.2.2⟩
        | false =>
          go_wp2_with fail
          go_meet
          exact ⟨rfl, f i 3, Or.inr rfl, HI1.out i 3, HW.out.1, HW.out.2.1, HW.out.2.2⟩
      case rest =>
      obtain ⟨rfl, HC0⟩ := hcut
      obtain ⟨pk2, HC⟩ := HC0.out
      clear HC0 HW
      generalize wc = wx at HC ⊢
      go_upto_region 14 with fail
      obtain ⟨hpk, ipk, HC1, XA, XB⟩ : (kI < 2 ∨ pk2 = f i 3) ∧ I64 pk2 ∧ Hid (Up wr wx) ∧ Hid (wx.heap[xa]? = some (.cells #[.int .i64 (f i 0), .int .i64 (f i 1), .int .i64 (f i 2), .int .i64 (f i 3), .int .i64 (f i 4), .int .i64 (f i 5)] 60 (0, 0))) ∧ Hid (wx.heap[xa + 1]? = some (.cells #[.int .i64 (f i 0), .int .i64 (f i 1), .int .i64 (f i 2), .int .i64 pk2, .int .i64 (f i 4), .int .i64 (f i 5)] 60 (0, 0))) := HC.out
      clear HC
      have xl1 : xa + 1 < wx.heap.size := heap_at XB.out
      obtain ⟨lv, bv, lv2, bv2, hr, ha⟩ := H4.out.go HA.out q1 (by omega) hc4 (who := f i 1) (HI1.out i 0) (HI1.out i 2) (HI1.out i 3) (HI1.out i 4) (HI1.out i 5)
      have HS0 : Hid (∀ w2, Up wx w2 → w2.rangeAt lg1 (c * 3) [.int .i64 (c : Int), lv, bv] ∧ w2.rangeAt xa 0 [.int .i64 (f i 0), .int .i64 (f i 1), .int .i64 (f i 2), .int .i64 (f i 3), .int .i64 (f i 4), .int .i64 (f i 5)]) := fun w2 u => ⟨fun k v hk => cell_up (HC1.out.trans u) (hr.1 k v hk), range_heap ((u.block _ (by omega)).trans XA.out)⟩
      have HAc : Hid _ := ha
      have lgs := H4.out.lgs
      clear hr ha
      go_cut [18, 19] (fun X Y wy => ∃ nb s, X = .pointer (some ⟨nb, 0, none⟩) ∧ Y = .bool true ∧ xa ≤ nb ∧ nb ≠ xa + 1 ∧ wy.heap[nb]? = some (.cells #[.int .i64 (c : Int), .slice s.a s.n s.d, .slice s.a2 s.n2 s.d2] 56 (0, 0)) ∧ wy.heap[xa + 1]? = some (.cells #[.int .i64 (f i 0), .int .i64 (f i 1), .int .i64 (f i 2), .int .i64 pk2, .int .i64 (f i 4), .int .i64 (f i 5)] 60 (0, 0)) ∧ T5 W q pb1 pb2 lg1 lg2 c1 c2 c s lv bv lv2 bv2 (f i 0) (f i 2) (f i 3) (f i 4) (f i 5) (fun b => b = nb ∨ b = xa + 1) wy)
      case first =>
        refine wp_region_held_drew (S := fun w => w.rangeAt lg1 (c * 3) [.int .i64 (c : Int), lv, bv] ∧ w.rangeAt xa 0 [.int .i64 (f i 0), .int .i64 (f i 1), .int .i64 (f i 2), .int .i64 (f i 3), .int .i64 (f i 4), .int .i64 (f i 5)]) (by kernel_rfl) ?_ (fun hHeld => ?_)
        · exact HS0.out _ (Up.refl wx).drew
        have u6 : Up wx wx.drew := (Up.refl wx).drew
        generalize World.drew wx = wd at u6 hHeld ⊢
        refine wpAnyH_take (i := 0) (v := ?_) (by simp only [List.getElem?_toArray, List.getElem?_cons_zero]; rfl) (by kernel_rfl) (by kernel_rfl) (by kernel_rfl) (by intro _ _ _ h; exact h) (Or.inl ⟨by rfl, ?_⟩) (by assumption) ?_
        rotate_left
        · (intro w hSw; (try dsimp only at hSw); go_simp <;> with_reducible rfl)
        try simp only [Act.put, List.setIfInBounds_toArray, List.set_cons_zero, List.set_cons_succ]
        refine wpAnyH_take (i := 1) (v := ?_) (by simp only [List.getElem?_toArray, List.getElem?_cons_succ, List.getElem?_cons_zero]; rfl) (by kernel_rfl) (by kernel_rfl) (by kernel_rfl) (by intro _ _ _ h; exact h) (Or.inl ⟨by rfl, ?_⟩) (by assumption) ?_
        rotate_left
        · (intro w hSw; (try dsimp only at hSw); go_simp <;> with_reducible rfl)
        try simp only [Act.put, List.setIfInBounds_toArray, List.set_cons_zero, List.set_cons_succ]
        refine wpAnyH_take (i := 2) (v := ?_) (by simp only [List.getElem?_toArray, List.getElem?_cons_succ, List.getElem?_cons_zero]; rfl) (by kernel_rfl) (by kernel_rfl) (by kernel_rfl) (by intro _ _ _ h; exact h) (Or.inl ⟨by rfl, ?_⟩) (by assumption) ?_
        rotate_left
        · (intro w hSw; (try dsimp only at hSw); go_simp <;> with_reducible rfl)
        try simp only [Act.put, List.setIfInBounds_toArray, List.set_cons_zero, List.set_cons_succ]
        refine wpAnyH_take (i := 3) (v := ?_) (by simp only [List.getElem?_toArray, List.getElem?_cons_succ, List.getElem?_cons_zero]; rfl) (by kernel_rfl) (by kernel_rfl) (by kernel_rfl) (by intro _ _ _ h; exact h) (Or.inl ⟨by rfl, ?_⟩) (by assumption) ?_
        rotate_left
        · (intro w hSw; (try dsimp only at hSw); go_simp <;> with_reducible rfl)
        try simp only [Act.put, List.setIfInBounds_toArray, List.set_cons_zero, List.set_cons_succ]
        refine wpAnyH_take (i := 4) (v := .agg [.int .i64 (c : Int), lv, bv].toArray) (by simp only [List.getElem?_toArray, List.getElem?_cons_succ, List.getElem?_cons_zero]; rfl) (by kernel_rfl) (by kernel_rfl) (by kernel_rfl) (by intro _ _ _ h; exact h) (yieldsIf_load_mid (by rfl) 56 _ rfl lg1 (c * 3) rfl [.int .i64 (c : Int), lv, bv] _ (fun w hw => hw.1) Try.underlying56 rfl (by kernel_rfl)) (by assumption) ?_
        simp only [Act.put, List.setIfInBounds_toArray, List.set_cons_zero, List.set_cons_succ]
        refine wpAnyH_take (i := 5) (v := .agg [.int .i64 (f i 0), .int .i64 (f i 1), .int .i64 (f i 2), .int .i64 (f i 3), .int .i64 (f i 4), .int .i64 (f i 5)].toArray) (by simp only [List.getElem?_toArray, List.getElem?_cons_succ, List.getElem?_cons_zero]; rfl) (by kernel_rfl) (by kernel_rfl) (by kernel_rfl) (by intro _ _ _ h; exact h) (yieldsIf_load_mid (by rfl) 60 _ rfl xa 0 rfl [.int .i64 (f i 0), .int .i64 (f i 1), .int .i64 (f i 2), .int .i64 (f i 3), .int .i64 (f i 4), .int .i64 (f i 5)] _ (fun w hw => hw.2) Try.underlying60 rfl (by kernel_rfl)) (by assumption) ?_
        simp only [Act.put, List.setIfInBounds_toArray, List.set_cons_zero, List.set_cons_succ]
        refine wpAnyH_take (i := 6) (v := ?_) (by simp only [List.getElem?_toArray, List.getElem?_cons_succ, List.getElem?_cons_zero]; rfl) (by kernel_rfl) (by kernel_rfl) (by kernel_rfl) (by intro _ _ _ h; exact h) (Or.inl ⟨by rfl, ?_⟩) (by assumption) ?_
        rotate_left
        · (intro w hSw; (try dsimp only at hSw); go_simp <;> with_reducible rfl)
        try simp only [Act.put, List.setIfInBounds_toArray, List.set_cons_zero, List.set_cons_succ]
        refine wpAnyH_ready (rs := [7, 11]) (by kernel_rfl) (by simp) ?_
        refine AllReadyH.cons (by simp only [List.getElem?_toArray, List.getElem?_cons_succ, List.getElem?_cons_zero]; rfl) (fun KK hK => ?_) (AllReadyH.cons (by simp only [List.getElem?_toArray, List.getElem?_cons_succ, List.getElem?_cons_zero]; rfl) (fun KK hK => ?_) AllReadyH.nil)
        · skip
          go_simp
          refine (HAc.out wd (HC1.out.trans u6)).mono ?_
          rintro e w4 ⟨s, rfl, z1, z2, z3⟩
          have HQ : Hid (∀ g w3, wr.heap.size ≤ g → (g < wd.heap.size ∨ w4.heap.size ≤ g) → Fr g w4 w3 → g < w3.heap.size → (w3.rangeAt lg1 (c * 3) [.int .i64 (c : Int), lv, bv]) ∧ T5 W q pb1 pb2 lg1 lg2 c1 c2 c s lv bv lv2 bv2 (f i 0) (f i 2) (f i 3) (f i 4) (f i 5) (fun b => b = g ∨ (wr.heap.size ≤ b ∧ b < wd.heap.size)) w3) := fun g w3 h1 h2 h3 h4 => ⟨((z3 g w3 h1 h2 h3 h4).rows hc4).2.1, z3 g w3 h1 h2 h3 h4⟩
          have HX : Hid (wd.heap.size ≤ w4.heap.size ∧ (∀ b, xa ≤ b → b < wd.heap.size → w4.heap[b]? = wd.heap[b]?)) := ⟨z1, fun b h1 h2 => z2 b (by rw [hxa]; exact h1) h2⟩
          clear z1 z2 z3
          have sz6 := u6.size
          have sz7 := HX.out.1
          have XW : Hid (w4.heap[xa]? = some (.cells #[.int .i64 (f i 0), .int .i64 (f i 1), .int .i64 (f i 2), .int .i64 (f i 3), .int .i64 (f i 4), .int .i64 (f i 5)] 60 (0, 0))) := (HX.out.2 xa (Nat.le_refl _) (by omega)).trans ((u6.block _ (by omega)).trans XA.out)
          have XB : Hid (wd.heap[xa + 1]? = some (.cells #[.int .i64 (f i 0), .int .i64 (f i 1), .int .i64 (f i 2), .int .i64 pk2, .int .i64 (f i 4), .int .i64 (f i 5)] 60 (0, 0))) := (u6.block _ (by omega)).trans XB.out
          have g0 := HQ.out xa w4 (by omega) (Or.inl (by omega)) (Fr.refl _ _) (by omega)
          refine hK.out _ _ ⟨g0.1, range_heap XW.out⟩ (fun hHeld => ?_)
          clear hK KK g0
          try simp only [Act.put, List.setIfInBounds_toArray, List.set_cons_zero, List.set_cons_succ]
          refine wpAnyH_take (i := 8) (v := ?_) (by simp only [List.getElem?_toArray, List.getElem?_cons_succ, List.getElem?_cons_zero]; rfl) (by kernel_rfl) (by kernel_rfl) (by kernel_rfl) (by intro _ _ _ h; exact h) (Or.inl ⟨by rfl, ?_⟩) (by assumption) ?_
          rotate_left
          · (intro w hSw; (try dsimp only at hSw); go_simp <;> with_reducible rfl)
          try simp only [Act.put, List.setIfInBounds_toArray, List.set_cons_zero, List.set_cons_succ]
          refine wpAnyH_take (i := 9) (v := ?_) (by simp only [List.getElem?_toArray, List.getElem?_cons_succ, List.getElem?_cons_zero]; rfl) (by kernel_rfl) (by kernel_rfl) (by kernel_rfl) (by intro _ _ _ h; exact h) (Or.inl ⟨by rfl, ?_⟩) (by assumption) ?_
          rotate_left
          · (intro w hSw; (try dsimp only at hSw); go_simp <;> with_reducible rfl)
          try simp only [Act.put, List.setIfInBounds_toArray, List.set_cons_zero, List.set_cons_succ]
          refine wpAnyH_take (i := 10) (v := ?_) (by simp only [List.getElem?_toArray, List.getElem?_cons_succ, List.getElem?_cons_zero]; rfl) (by kernel_rfl) (by kernel_rfl) (by kernel_rfl) (by intro _ _ _ h; exact h) (Or.inl ⟨by rfl, ?_⟩) (by assumption) ?_
          rotate_left
          · (intro w hSw; (try dsimp only at hSw); go_simp <;> with_reducible rfl)
          try simp only [Act.put, List.setIfInBounds_toArray, List.set_cons_zero, List.set_cons_succ]
          refine wpAnyH_ready (rs := [11]) (by kernel_rfl) (by simp) ?_
          refine AllReadyH.cons (by simp only [List.getElem?_toArray, List.getElem?_cons_succ, List.getElem?_cons_zero]; rfl) (fun KK hK => ?_) AllReadyH.nil
          go_simp
          have HB4 := heap_alloc_new w4 (Obj.cells #[.int .i64 0, .slice none 0 0, .slice none 0 0] 56)
          have ua : Up w4 (w4.alloc (Obj.cells #[.int .i64 0, .slice none 0 0, .slice none 0 0] 56)) := (Up.refl w4).alloc _
          have sz8 : (w4.alloc (Obj.cells #[.int .i64 0, .slice none 0 0, .slice none 0 0] 56)).heap.size = w4.heap.size + 1 := by simp
          have g0 := HQ.out w4.heap.size _ (by omega) (Or.inr (Nat.le_refl _)) (Fr.ofUp ua) (by omega)
          refine hK.out _ _ ⟨g0.1, range_heap ((ua.block _ (by omega)).trans XW.out)⟩ (fun hHeld => ?_)
          clear hK KK g0
          try simp only [Act.put, List.setIfInBounds_toArray, List.set_cons_zero, List.set_cons_succ]
          refine wpAnyH_ready (rs := [12]) (by kernel_rfl) (by simp) ?_
          refine AllReadyH.cons (by simp only [List.getElem?_toArray, List.getElem?_cons_succ, List.getElem?_cons_zero]; rfl) (fun KK hK => ?_) AllReadyH.nil
          rw [if_pos (by rfl)]
          refine wp_store_mid 56 _ _ rfl (w4.heap.size) 0 #[.int .i64 (c : Int), .slice s.a s.n s.d, .slice s.a2 s.n2 s.d2] rfl rfl (there3 HB4) (by kernel_rfl) (by simp [Value.oneCell']) ?_
          have fr : Fr (w4.heap.size) w4 ((w4.alloc (Obj.cells #[.int .i64 0, .slice none 0 0, .slice none 0 0] 56)).setCells (w4.heap.size) 0 [.int .i64 (c : Int), .slice s.a s.n s.d, .slice s.a2 s.n2 s.d2]) := (Fr.ofUp ua).trans (fr_setCells _ _ 0 _)
          have hrb : ((w4.alloc (Obj.cells #[.int .i64 0, .slice none 0 0, .slice none 0 0] 56)).setCells (w4.heap.size) 0 [.int .i64 (c : Int), .slice s.a s.n s.d, .slice s.a2 s.n2 s.d2]).heap[w4.heap.size]? = some (.cells #[.int .i64 (c : Int), .slice s.a s.n s.d, .slice s.a2 s.n2 s.d2] 56 (0, 0)) := heap_setCells_same _ _ _ 0 _ (w4.alloc (Obj.cells #[.int .i64 0, .slice none 0 0, .slice none 0 0] 56)) HB4
          have hsz5 : ((w4.alloc (Obj.cells #[.int .i64 0, .slice none 0 0, .slice none 0 0] 56)).setCells (w4.heap.size) 0 [.int .i64 (c : Int), .slice s.a s.n s.d, .slice s.a2 s.n2 s.d2]).heap.size = (w4.alloc (Obj.cells #[.int .i64 0, .slice none 0 0, .slice none 0 0] 56)).heap.size := size_setCells _ _ _ _
          have g9 := HQ.out _ _ (by omega) (Or.inr (Nat.le_refl _)) fr (by rw [hsz5]; omega)
          have hE : Hid (T5 W q pb1 pb2 lg1 lg2 c1 c2 c s lv bv lv2 bv2 (f i 0) (f i 2) (f i 3) (f i 4) (f i 5) (fun b => b = w4.heap.size ∨ b = xa + 1) ((w4.alloc (Obj.cells #[.int .i64 0, .slice none 0 0, .slice none 0 0] 56)).setCells (w4.heap.size) 0 [.int .i64 (c : Int), .slice s.a s.n s.d, .slice s.a2 s.n2 s.d2])) := g9.2.weak (fun b hb => by
            rcases hb with e | e
            · exact Or.inl e
            · exact Or.inr ⟨by rw [hxa]; omega, by omega⟩)
          have hx1 : ((w4.alloc (Obj.cells #[.int .i64 0, .slice none 0 0, .slice none 0 0] 56)).setCells (w4.heap.size) 0 [.int .i64 (c : Int), .slice s.a s.n s.d, .slice s.a2 s.n2 s.d2]).heap[xa + 1]? = some (.cells #[.int .i64 (f i 0), .int .i64 (f i 1), .int .i64 (f i 2), .int .i64 pk2, .int .i64 (f i 4), .int .i64 (f i 5)] 60 (0, 0)) := (fr.block _ (by omega) (by omega)).trans ((HX.out.2 (xa + 1) (by omega) (by omega)).trans XB.out)
          refine hK.out _ _ ⟨g9.1, range_heap (fr.block _ (by omega) (by omega) |>.trans XW.out)⟩ (fun hHeld => ?_)
          clear hK KK
          try simp only [Act.put, List.setIfInBounds_toArray, List.set_cons_zero, List.set_cons_succ]
          refine wpAnyH_take (i := 13) (v := ?_) (by simp only [List.getElem?_toArray, List.getElem?_cons_succ, List.getElem?_cons_zero]; rfl) (by kernel_rfl) (by kernel_rfl) (by kernel_rfl) (by intro _ _ _ h; exact h) (Or.inl ⟨by rfl, ?_⟩) (by assumption) ?_
          rotate_left
          · (intro w hSw; (try dsimp only at hSw); go_simp <;> with_reducible rfl)
          try simp only [Act.put, List.setIfInBounds_toArray, List.set_cons_zero, List.set_cons_succ]
          refine wpAnyH_done (by kernel_rfl) ?_ _
          first | go_meet | (go_wp2_with fail; go_meet)
          exact ⟨_, s, rfl, rfl, by omega, by omega, hrb, hx1, hE.out⟩
        · skip
          go_simp
          have HB3 := heap_alloc_new wd (Obj.cells #[.int .i64 0, .slice none 0 0, .slice none 0 0] 56)
          have uz : Up wd (wd.alloc (Obj.cells #[.int .i64 0, .slice none 0 0, .slice none 0 0] 56)) := (Up.refl wd).alloc _
          have hsz : (wd.alloc (Obj.cells #[.int .i64 0, .slice none 0 0, .slice none 0 0] 56)).heap.size = wd.heap.size + 1 := by simp
          refine hK.out _ _ (HS0.out _ (u6.trans uz)) (fun hHeld => ?_)
          clear hK KK
          try simp only [Act.put, List.setIfInBounds_toArray, List.set_cons_zero, List.set_cons_succ]
          generalize World.alloc wd _ = wa at uz hsz HB3 hHeld ⊢
          refine wpAnyH_ready (rs := [7]) (by kernel_rfl) (by simp) ?_
          refine AllReadyH.cons (by simp only [List.getElem?_toArray, List.getElem?_cons_succ, List.getElem?_cons_zero]; rfl) (fun KK hK => ?_) AllReadyH.nil
          go_simp
          refine (HAc.out wa (HC1.out.trans (u6.trans uz))).mono ?_
          rintro e w4 ⟨s, rfl, z1, z2, z3⟩
          have HQ : Hid (∀ g w3, wr.heap.size ≤ g → (g < wa.heap.size ∨ w4.heap.size ≤ g) → Fr g w4 w3 → g < w3.heap.size → (w3.rangeAt lg1 (c * 3) [.int .i64 (c : Int), lv, bv]) ∧ T5 W q pb1 pb2 lg1 lg2 c1 c2 c s lv bv lv2 bv2 (f i 0) (f i 2) (f i 3) (f i 4) (f i 5) (fun b => b = g ∨ (wr.heap.size ≤ b ∧ b < wa.heap.size)) w3) := fun g w3 h1 h2 h3 h4 => ⟨((z3 g w3 h1 h2 h3 h4).rows hc4).2.1, z3 g w3 h1 h2 h3 h4⟩
          have HX : Hid (wa.heap.size ≤ w4.heap.size ∧ (∀ b, xa ≤ b → b < wa.heap.size → w4.heap[b]? = wa.heap[b]?)) := ⟨z1, fun b h1 h2 => z2 b (by rw [hxa]; exact h1) h2⟩
          clear z1 z2 z3
          have sz6 := u6.size
          have sz7 := HX.out.1
          have uw := u6.trans uz
          have XW : Hid (w4.heap[xa]? = some (.cells #[.int .i64 (f i 0), .int .i64 (f i 1), .int .i64 (f i 2), .int .i64 (f i 3), .int .i64 (f i 4), .int .i64 (f i 5)] 60 (0, 0))) := (HX.out.2 xa (Nat.le_refl _) (by omega)).trans ((uw.block _ (by omega)).trans XA.out)
          have XB : Hid (wa.heap[xa + 1]? = some (.cells #[.int .i64 (f i 0), .int .i64 (f i 1), .int .i64 (f i 2), .int .i64 pk2, .int .i64 (f i 4), .int .i64 (f i 5)] 60 (0, 0))) := (uw.block _ (by omega)).trans XB.out
          have g0 := HQ.out xa w4 (by omega) (Or.inl (by omega)) (Fr.refl _ _) (by omega)
          have HB4 := (HX.out.2 wd.heap.size (by omega) (by omega)).trans HB3
          refine hK.out _ _ ⟨g0.1, range_heap XW.out⟩ (fun hHeld => ?_)
          clear hK KK g0
          try simp only [Act.put, List.setIfInBounds_toArray, List.set_cons_zero, List.set_cons_succ]
          refine wpAnyH_take (i := 8) (v := ?_) (by simp only [List.getElem?_toArray, List.getElem?_cons_succ, List.getElem?_cons_zero]; rfl) (by kernel_rfl) (by kernel_rfl) (by kernel_rfl) (by intro _ _ _ h; exact h) (Or.inl ⟨by rfl, ?_⟩) (by assumption) ?_
          rotate_left
          · (intro w hSw; (try dsimp only at hSw); go_simp <;> with_reducible rfl)
          try simp only [Act.put, List.setIfInBounds_toArray, List.set_cons_zero, List.set_cons_succ]
          refine wpAnyH_take (i := 9) (v := ?_) (by simp only [List.getElem?_toArray, List.getElem?_cons_succ, List.getElem?_cons_zero]; rfl) (by kernel_rfl) (by kernel_rfl) (by kernel_rfl) (by intro _ _ _ h; exact h) (Or.inl ⟨by rfl, ?_⟩) (by assumption) ?_
          rotate_left
          · (intro w hSw; (try dsimp only at hSw); go_simp <;> with_reducible rfl)
          try simp only [Act.put, List.setIfInBounds_toArray, List.set_cons_zero, List.set_cons_succ]
          refine wpAnyH_take (i := 10) (v := ?_) (by simp only [List.getElem?_toArray, List.getElem?_cons_succ, List.getElem?_cons_zero]; rfl) (by kernel_rfl) (by kernel_rfl) (by kernel_rfl) (by intro _ _ _ h; exact h) (Or.inl ⟨by rfl, ?_⟩) (by assumption) ?_
          rotate_left
          · (intro w hSw; (try dsimp only at hSw); go_simp <;> with_reducible rfl)
          try simp only [Act.put, List.setIfInBounds_toArray, List.set_cons_zero, List.set_cons_succ]
          refine wpAnyH_ready (rs := [12]) (by kernel_rfl) (by simp) ?_
          refine AllReadyH.cons (by simp only [List.getElem?_toArray, List.getElem?_cons_succ, List.getElem?_cons_zero]; rfl) (fun KK hK => ?_) AllReadyH.nil
          rw [if_pos (by rfl)]
          refine wp_store_mid 56 _ _ rfl (wd.heap.size) 0 #[.int .i64 (c : Int), .slice s.a s.n s.d, .slice s.a2 s.n2 s.d2] rfl rfl (there3 HB4) (by kernel_rfl) (by simp [Value.oneCell']) ?_
          have fr : Fr (wd.heap.size) w4 (w4.setCells (wd.heap.size) 0 [.int .i64 (c : Int), .slice s.a s.n s.d, .slice s.a2 s.n2 s.d2]) := (Fr.refl _ _).trans (fr_setCells _ _ 0 _)
          have hrb : (w4.setCells (wd.heap.size) 0 [.int .i64 (c : Int), .slice s.a s.n s.d, .slice s.a2 s.n2 s.d2]).heap[wd.heap.size]? = some (.cells #[.int .i64 (c : Int), .slice s.a s.n s.d, .slice s.a2 s.n2 s.d2] 56 (0, 0)) := heap_setCells_same _ _ _ 0 _ w4 HB4
          have hsz5 : (w4.setCells (wd.heap.size) 0 [.int .i64 (c : Int), .slice s.a s.n s.d, .slice s.a2 s.n2 s.d2]).heap.size = w4.heap.size := size_setCells _ _ _ _
          have g9 := HQ.out _ _ (by omega) (Or.inl (by omega)) fr (by rw [hsz5]; omega)
          have hE : Hid (T5 W q pb1 pb2 lg1 lg2 c1 c2 c s lv bv lv2 bv2 (f i 0) (f i 2) (f i 3) (f i 4) (f i 5) (fun b => b = wd.heap.size ∨ b = xa + 1) (w4.setCells (wd.heap.size) 0 [.int .i64 (c : Int), .slice s.a s.n s.d, .slice s.a2 s.n2 s.d2])) := g9.2.weak (fun b hb => by
            rcases hb with e | e
            · exact Or.inl e
            · exact Or.inr ⟨by rw [hxa]; omega, by omega⟩)
          have hx1 : (w4.setCells (wd.heap.size) 0 [.int .i64 (c : Int), .slice s.a s.n s.d, .slice s.a2 s.n2 s.d2]).heap[xa + 1]? = some (.cells #[.int .i64 (f i 0), .int .i64 (f i 1), .int .i64 (f i 2), .int .i64 pk2, .int .i64 (f i 4), .int .i64 (f i 5)] 60 (0, 0)) := (fr.block _ (by omega) (by omega)).trans ((HX.out.2 (xa + 1) (by omega) (by omega)).trans XB.out)
          refine hK.out _ _ ⟨g9.1, range_heap (fr.block _ (by omega) (by omega) |>.trans XW.out)⟩ (fun hHeld => ?_)
          clear hK KK
          try simp only [Act.put, List.setIfInBounds_toArray, List.set_cons_zero, List.set_cons_succ]
          refine wpAnyH_take (i := 13) (v := ?_) (by simp only [List.getElem?_toArray, List.getElem?_cons_succ, List.getElem?_cons_zero]; rfl) (by kernel_rfl) (by kernel_rfl) (by kernel_rfl) (by intro _ _ _ h; exact h) (Or.inl ⟨by rfl, ?_⟩) (by assumption) ?_
          rotate_left
          · (intro w hSw; (try dsimp only at hSw); go_simp <;> with_reducible rfl)
          try simp only [Act.put, List.setIfInBounds_toArray, List.set_cons_zero, List.set_cons_succ]
          refine wpAnyH_done (by kernel_rfl) ?_ _
          first | go_meet | (go_wp2_with fail; go_meet)
          exact ⟨_, s, rfl, rfl, by omega, by omega, hrb, hx1, hE.out⟩
      case rest =>
      obtain ⟨nb, s, rfl, rfl, hn1, hn2, hn3, hn4, hn5⟩ := hcut
      generalize wc = wy at hn3 hn4 hn5 ⊢
      have NB : Hid (wy.heap[nb]? = some (.cells #[.int .i64 (c : Int), .slice s.a s.n s.d, .slice s.a2 s.n2 s.d2] 56 (0, 0))) := hn3
      have XB2 : Hid (wy.heap[xa + 1]? = some (.cells #[.int .i64 (f i 0), .int .i64 (f i 1), .int .i64 (f i 2), .int .i64 pk2, .int .i64 (f i 4), .int .i64 (f i 5)] 60 (0, 0))) := hn4
      have HT5 : Hid (T5 W q pb1 pb2 lg1 lg2 c1 c2 c s lv bv lv2 bv2 (f i 0) (f i 2) (f i 3) (f i 4) (f i 5) (fun b => b = nb ∨ b = xa + 1) wy) := hn5
      have u5 : Up W wy := (hn5.rows hc4).1
      have HU5 : Hid (Up W wy) := u5
      clear hn3 hn4 hn5 XA XB HS0 HAc H4 HC1 HU u5
      have XB := XB2
      clear XB2
      have xl2 : xa + 1 < wy.heap.size := heap_at XB.out
      have nbl : nb < wy.heap.size := heap_at NB.out
      have HS0 : Hid (∀ w2, Up wy w2 → w2.rangeAt lg2 (c * 3) [.int .i64 (c : Int), lv2, bv2] ∧ w2.rangeAt (xa + 1) 0 [.int .i64 (f i 0), .int .i64 (f i 1), .int .i64 (f i 2), .int .i64 pk2, .int .i64 (f i 4), .int .i64 (f i 5)]) := fun w2 u => ⟨((HT5.out.more u).rows hc4).2.2, range_heap ((u.block _ (by omega)).trans XB.out)⟩
      have HAc : Hid (∀ w2, Up wy w2 → _) := fun w2 u => HT5.out.go HA.out q1 (by omega) hc4 (who := f i 1) (HI1.out i 0) (HI1.out i 2) ipk (HI1.out i 4) (HI1.out i 5) (by rw [hkI]; exact hpk) u
      go_upto_region 15 with fail
      go_cut [20, 21] (fun X Y wz => ∃ nb2 t hl hg, X = .pointer (some ⟨nb2, 0, none⟩) ∧ Y = .bool true ∧ nbs hl = nbs hg ∧ xa ≤ nb2 ∧ wz.heap[nb]? = some (.cells #[.int .i64 (c : Int), .slice s.a s.n s.d, .slice s.a2 s.n2 s.d2] 56 (0, 0)) ∧ wz.heap[nb2]? = some (.cells #[.int .i64 (c : Int), .slice t.a t.n t.d, .slice t.a2 t.n2 t.d2] 56 (0, 0)) ∧ T6 W q pb1 pb2 lg1 lg2 c1 c2 c s t hl hg lv2 bv2 false false wz)
      case first =>
        refine wp_region_held_drew (S := fun w => w.rangeAt lg2 (c * 3) [.int .i64 (c : Int), lv2, bv2] ∧ w.rangeAt (xa + 1) 0 [.int .i64 (f i 0), .int .i64 (f i 1), .int .i64 (f i 2), .int .i64 pk2, .int .i64 (f i 4), .int .i64 (f i 5)]) (by kernel_rfl) ?_ (fun hHeld => ?_)
        · exact HS0.out _ (Up.refl wy).drew
        have u6 : Up wy wy.drew := (Up.refl wy).drew
        generalize World.drew wy = wd at u6 hHeld ⊢
        refine wpAnyH_take (i := 0) (v := ?_) (by simp only [List.getElem?_toArray, List.getElem?_cons_zero]; rfl) (by kernel_rfl) (by kernel_rfl) (by kernel_rfl) (by intro _ _ _ h; exact h) (Or.inl ⟨by rfl, ?_⟩) (by assumption) ?_
        rotate_left
        · (intro w hSw; (try dsimp only at hSw); go_simp <;> with_reducible rfl)
        try simp only [Act.put, List.setIfInBounds_toArray, List.set_cons_zero, List.set_cons_succ]
        refine wpAnyH_take (i := 1) (v := ?_) (by simp only [List.getElem?_toArray, List.getElem?_cons_succ, List.getElem?_cons_zero]; rfl) (by kernel_rfl) (by kernel_rfl) (by kernel_rfl) (by intro _ _ _ h; exact h) (Or.inl ⟨by rfl, ?_⟩) (by assumption) ?_
        rotate_left
        · (intro w hSw; (try dsimp only at hSw); go_simp <;> with_reducible rfl)
        try simp only [Act.put, List.setIfInBounds_toArray, List.set_cons_zero, List.set_cons_succ]
        refine wpAnyH_take (i := 2) (v := ?_) (by simp only [List.getElem?_toArray, List.getElem?_cons_succ, List.getElem?_cons_zero]; rfl) (by kernel_rfl) (by kernel_rfl) (by kernel_rfl) (by intro _ _ _ h; exact h) (Or.inl ⟨by rfl, ?_⟩) (by assumption) ?_
        rotate_left
        · (intro w hSw; (try dsimp only at hSw); go_simp <;> with_reducible rfl)
        try simp only [Act.put, List.setIfInBounds_toArray, List.set_cons_zero, List.set_cons_succ]
        refine wpAnyH_take (i := 3) (v := ?_) (by simp only [List.getElem?_toArray, List.getElem?_cons_succ, List.getElem?_cons_zero]; rfl) (by kernel_rfl) (by kernel_rfl) (by kernel_rfl) (by intro _ _ _ h; exact h) (Or.inl ⟨by rfl, ?_⟩) (by assumption) ?_
        rotate_left
        · (intro w hSw; (try dsimp only at hSw); go_simp <;> with_reducible rfl)
        try simp only [Act.put, List.setIfInBounds_toArray, List.set_cons_zero, List.set_cons_succ]
        refine wpAnyH_take (i := 4) (v := .agg [.int .i64 (c : Int), lv2, bv2].toArray) (by simp only [List.getElem?_toArray, List.getElem?_cons_succ, List.getElem?_cons_zero]; rfl) (by kernel_rfl) (by kernel_rfl) (by kernel_rfl) (by intro _ _ _ h; exact h) (yieldsIf_load_mid (by rfl) 56 _ rfl lg2 (c * 3) rfl [.int .i64 (c : Int), lv2, bv2] _ (fun w hw => hw.1) Try.underlying56 rfl (by kernel_rfl)) (by assumption) ?_
        simp only [Act.put, List.setIfInBounds_toArray, List.set_cons_zero, List.set_cons_succ]
        refine wpAnyH_take (i := 5) (v := .agg [.int .i64 (f i 0), .int .i64 (f i 1), .int .i64 (f i 2), .int .i64 pk2, .int .i64 (f i 4), .int .i64 (f i 5)].toArray) (by simp only [List.getElem?_toArray, List.getElem?_cons_succ, List.getElem?_cons_zero]; rfl) (by kernel_rfl) (by kernel_rfl) (by kernel_rfl) (by intro _ _ _ h; exact h) (yieldsIf_load_mid (by rfl) 60 _ rfl (xa + 1) 0 rfl [.int .i64 (f i 0), .int .i64 (f i 1), .int .i64 (f i 2), .int .i64 pk2, .int .i64 (f i 4), .int .i64 (f i 5)] _ (fun w hw => hw.2) Try.underlying60 rfl (by kernel_rfl)) (by assumption) ?_
        simp only [Act.put, List.setIfInBounds_toArray, List.set_cons_zero, List.set_cons_succ]
        refine wpAnyH_take (i := 6) (v := ?_) (by simp only [List.getElem?_toArray, List.getElem?_cons_succ, List.getElem?_cons_zero]; rfl) (by kernel_rfl) (by kernel_rfl) (by kernel_rfl) (by intro _ _ _ h; exact h) (Or.inl ⟨by rfl, ?_⟩) (by assumption) ?_
        rotate_left
        · (intro w hSw; (try dsimp only at hSw); go_simp <;> with_reducible rfl)
        try simp only [Act.put, List.setIfInBounds_toArray, List.set_cons_zero, List.set_cons_succ]
        refine wpAnyH_ready (rs := [7, 11]) (by kernel_rfl) (by simp) ?_
        refine AllReadyH.cons (by simp only [List.getElem?_toArray, List.getElem?_cons_succ, List.getElem?_cons_zero]; rfl) (fun KK hK => ?_) (AllReadyH.cons (by simp only [List.getElem?_toArray, List.getElem?_cons_succ, List.getElem?_cons_zero]; rfl) (fun KK hK => ?_) AllReadyH.nil)
        · skip
          go_simp
          refine (HAc.out wd (u6)).mono ?_
          rintro e w4 ⟨t, hl, hg, rfl, en, z1, zg, z2, z3⟩
          have HQ : Hid (∀ g w3, wy.heap.size ≤ g → (g < wd.heap.size ∨ w4.heap.size ≤ g) → Fr g w4 w3 → (w3.rangeAt lg2 (c * 3) [.int .i64 (c : Int), lv2, bv2]) ∧ T6 W q pb1 pb2 lg1 lg2 c1 c2 c s t hl hg lv2 bv2 false false w3) := fun g w3 h1 h2 h3 => ⟨(z3 g w3 h1 h2 h3).row2 hc4, z3 g w3 h1 h2 h3⟩
          have HX : Hid (wd.heap.size ≤ w4.heap.size ∧ (∀ b, wy.heap.size ≤ b → b < wd.heap.size → w4.heap[b]? = wd.heap[b]?) ∧ (∀ b, (b = nb ∨ b = xa + 1) → w4.heap[b]? = wd.heap[b]?)) := ⟨z1, z2, zg⟩
          clear z1 z2 z3 zg
          have sz6 := u6.size
          have sz7 := HX.out.1
          have XW : Hid (w4.heap[(xa + 1)]? = some (.cells #[.int .i64 (f i 0), .int .i64 (f i 1), .int .i64 (f i 2), .int .i64 pk2, .int .i64 (f i 4), .int .i64 (f i 5)] 60 (0, 0))) := (HX.out.2.2 (xa + 1) (Or.inr rfl)).trans ((u6.block _ (by omega)).trans XB.out)
          have NBd : Hid (wd.heap[nb]? = some (.cells #[.int .i64 (c : Int), .slice s.a s.n s.d, .slice s.a2 s.n2 s.d2] 56 (0, 0))) := (u6.block _ (by omega)).trans NB.out
          have g0 := HQ.out w4.heap.size w4 (by omega) (Or.inr (Nat.le_refl _)) (Fr.refl _ _)
          refine hK.out _ _ ⟨g0.1, range_heap XW.out⟩ (fun hHeld => ?_)
          clear hK KK g0
          try simp only [Act.put, List.setIfInBounds_toArray, List.set_cons_zero, List.set_cons_succ]
          refine wpAnyH_take (i := 8) (v := ?_) (by simp only [List.getElem?_toArray, List.getElem?_cons_succ, List.getElem?_cons_zero]; rfl) (by kernel_rfl) (by kernel_rfl) (by kernel_rfl) (by intro _ _ _ h; exact h) (Or.inl ⟨by rfl, ?_⟩) (by assumption) ?_
          rotate_left
          · (intro w hSw; (try dsimp only at hSw); go_simp <;> with_reducible rfl)
          try simp only [Act.put, List.setIfInBounds_toArray, List.set_cons_zero, List.set_cons_succ]
          refine wpAnyH_take (i := 9) (v := ?_) (by simp only [List.getElem?_toArray, List.getElem?_cons_succ, List.getElem?_cons_zero]; rfl) (by kernel_rfl) (by kernel_rfl) (by kernel_rfl) (by intro _ _ _ h; exact h) (Or.inl ⟨by rfl, ?_⟩) (by assumption) ?_
          rotate_left
          · (intro w hSw; (try dsimp only at hSw); go_simp <;> with_reducible rfl)
          try simp only [Act.put, List.setIfInBounds_toArray, List.set_cons_zero, List.set_cons_succ]
          refine wpAnyH_take (i := 10) (v := ?_) (by simp only [List.getElem?_toArray, List.getElem?_cons_succ, List.getElem?_cons_zero]; rfl) (by kernel_rfl) (by kernel_rfl) (by kernel_rfl) (by intro _ _ _ h; exact h) (Or.inl ⟨by rfl, ?_⟩) (by assumption) ?_
          rotate_left
          · (intro w hSw; (try dsimp only at hSw); go_simp <;> with_reducible rfl)
          try simp only [Act.put, List.setIfInBounds_toArray, List.set_cons_zero, List.set_cons_succ]
          refine wpAnyH_ready (rs := [11]) (by kernel_rfl) (by simp) ?_
          refine AllReadyH.cons (by simp only [List.getElem?_toArray, List.getElem?_cons_succ, List.getElem?_cons_zero]; rfl) (fun KK hK => ?_) AllReadyH.nil
          go_simp
          have HB4 := heap_alloc_new w4 (Obj.cells #[.int .i64 0, .slice none 0 0, .slice none 0 0] 56)
          have ua : Up w4 (w4.alloc (Obj.cells #[.int .i64 0, .slice none 0 0, .slice none 0 0] 56)) := (Up.refl w4).alloc _
          have sz8 : (w4.alloc (Obj.cells #[.int .i64 0, .slice none 0 0, .slice none 0 0] 56)).heap.size = w4.heap.size + 1 := by simp
          have g0 := HQ.out w4.heap.size _ (by omega) (Or.inr (Nat.le_refl _)) (Fr.ofUp ua)
          refine hK.out _ _ ⟨g0.1, range_heap ((ua.block _ (by omega)).trans XW.out)⟩ (fun hHeld => ?_)
          clear hK KK g0
          try simp only [Act.put, List.setIfInBounds_toArray, List.set_cons_zero, List.set_cons_succ]
          refine wpAnyH_ready (rs := [12]) (by kernel_rfl) (by simp) ?_
          refine AllReadyH.cons (by simp only [List.getElem?_toArray, List.getElem?_cons_succ, List.getElem?_cons_zero]; rfl) (fun KK hK => ?_) AllReadyH.nil
          rw [if_pos (by rfl)]
          refine wp_store_mid 56 _ _ rfl (w4.heap.size) 0 #[.int .i64 (c : Int), .slice t.a t.n t.d, .slice t.a2 t.n2 t.d2] rfl rfl (there3 HB4) (by kernel_rfl) (by simp [Value.oneCell']) ?_
          have fr : Fr (w4.heap.size) w4 ((w4.alloc (Obj.cells #[.int .i64 0, .slice none 0 0, .slice none 0 0] 56)).setCells (w4.heap.size) 0 [.int .i64 (c : Int), .slice t.a t.n t.d, .slice t.a2 t.n2 t.d2]) := (Fr.ofUp ua).trans (fr_setCells _ _ 0 _)
          have hrb : ((w4.alloc (Obj.cells #[.int .i64 0, .slice none 0 0, .slice none 0 0] 56)).setCells (w4.heap.size) 0 [.int .i64 (c : Int), .slice t.a t.n t.d, .slice t.a2 t.n2 t.d2]).heap[w4.heap.size]? = some (.cells #[.int .i64 (c : Int), .slice t.a t.n t.d, .slice t.a2 t.n2 t.d2] 56 (0, 0)) := heap_setCells_same _ _ _ 0 _ (w4.alloc (Obj.cells #[.int .i64 0, .slice none 0 0, .slice none 0 0] 56)) HB4
          have hsz5 : ((w4.alloc (Obj.cells #[.int .i64 0, .slice none 0 0, .slice none 0 0] 56)).setCells (w4.heap.size) 0 [.int .i64 (c : Int), .slice t.a t.n t.d, .slice t.a2 t.n2 t.d2]).heap.size = (w4.alloc (Obj.cells #[.int .i64 0, .slice none 0 0, .slice none 0 0] 56)).heap.size := size_setCells _ _ _ _
          have g9 := HQ.out _ _ (by omega) (Or.inr (Nat.le_refl _)) fr
          have hE : Hid (T6 W q pb1 pb2 lg1 lg2 c1 c2 c s t hl hg lv2 bv2 false false ((w4.alloc (Obj.cells #[.int .i64 0, .slice none 0 0, .slice none 0 0] 56)).setCells (w4.heap.size) 0 [.int .i64 (c : Int), .slice t.a t.n t.d, .slice t.a2 t.n2 t.d2])) := g9.2
          have hx1 : ((w4.alloc (Obj.cells #[.int .i64 0, .slice none 0 0, .slice none 0 0] 56)).setCells (w4.heap.size) 0 [.int .i64 (c : Int), .slice t.a t.n t.d, .slice t.a2 t.n2 t.d2]).heap[nb]? = some (.cells #[.int .i64 (c : Int), .slice s.a s.n s.d, .slice s.a2 s.n2 s.d2] 56 (0, 0)) := (fr.block _ (by omega) (by omega)).trans ((HX.out.2.2 nb (Or.inl rfl)).trans NBd.out)
          refine hK.out _ _ ⟨g9.1, range_heap (fr.block _ (by omega) (by omega) |>.trans XW.out)⟩ (fun hHeld => ?_)
          clear hK KK
          try simp only [Act.put, List.setIfInBounds_toArray, List.set_cons_zero, List.set_cons_succ]
          refine wpAnyH_take (i := 13) (v := ?_) (by simp only [List.getElem?_toArray, List.getElem?_cons_succ, List.getElem?_cons_zero]; rfl) (by kernel_rfl) (by kernel_rfl) (by kernel_rfl) (by intro _ _ _ h; exact h) (Or.inl ⟨by rfl, ?_⟩) (by assumption) ?_
          rotate_left
          · (intro w hSw; (try dsimp only at hSw); go_simp <;> with_reducible rfl)
          try simp only [Act.put, List.setIfInBounds_toArray, List.set_cons_zero, List.set_cons_succ]
          refine wpAnyH_done (by kernel_rfl) ?_ _
          first | go_meet | (go_wp2_with fail; go_meet)
          exact ⟨_, t, hl, hg, rfl, rfl, en, by omega, hx1, hrb, hE.out⟩
        · skip
          go_simp
          have HB3 := heap_alloc_new wd (Obj.cells #[.int .i64 0, .slice none 0 0, .slice none 0 0] 56)
          have uz : Up wd (wd.alloc (Obj.cells #[.int .i64 0, .slice none 0 0, .slice none 0 0] 56)) := (Up.refl wd).alloc _
          have hsz : (wd.alloc (Obj.cells #[.int .i64 0, .slice none 0 0, .slice none 0 0] 56)).heap.size = wd.heap.size + 1 := by simp
          refine hK.out _ _ (HS0.out _ (u6.trans uz)) (fun hHeld => ?_)
          clear hK KK
          try simp only [Act.put, List.setIfInBounds_toArray, List.set_cons_zero, List.set_cons_succ]
          generalize World.alloc wd _ = wa at uz hsz HB3 hHeld ⊢
          refine wpAnyH_ready (rs := [7]) (by kernel_rfl) (by simp) ?_
          refine AllReadyH.cons (by simp only [List.getElem?_toArray, List.getElem?_cons_succ, List.getElem?_cons_zero]; rfl) (fun KK hK => ?_) AllReadyH.nil
          go_simp
          refine (HAc.out wa (u6.trans uz)).mono ?_
          rintro e w4 ⟨t, hl, hg, rfl, en, z1, zg, z2, z3⟩
          have HQ : Hid (∀ g w3, wy.heap.size ≤ g → (g < wa.heap.size ∨ w4.heap.size ≤ g) → Fr g w4 w3 → (w3.rangeAt lg2 (c * 3) [.int .i64 (c : Int), lv2, bv2]) ∧ T6 W q pb1 pb2 lg1 lg2 c1 c2 c s t hl hg lv2 bv2 false false w3) := fun g w3 h1 h2 h3 => ⟨(z3 g w3 h1 h2 h3).row2 hc4, z3 g w3 h1 h2 h3⟩
          have HX : Hid (wa.heap.size ≤ w4.heap.size ∧ (∀ b, wy.heap.size ≤ b → b < wa.heap.size → w4.heap[b]? = wa.heap[b]?) ∧ (∀ b, (b = nb ∨ b = xa + 1) → w4.heap[b]? = wa.heap[b]?)) := ⟨z1, z2, zg⟩
          clear z1 z2 z3 zg
          have sz6 := u6.size
          have sz7 := HX.out.1
          have uw := u6.trans uz
          have XW : Hid (w4.heap[(xa + 1)]? = some (.cells #[.int .i64 (f i 0), .int .i64 (f i 1), .int .i64 (f i 2), .int .i64 pk2, .int .i64 (f i 4), .int .i64 (f i 5)] 60 (0, 0))) := (HX.out.2.2 (xa + 1) (Or.inr rfl)).trans ((uw.block _ (by omega)).trans XB.out)
          have NBd : Hid (wa.heap[nb]? = some (.cells #[.int .i64 (c : Int), .slice s.a s.n s.d, .slice s.a2 s.n2 s.d2] 56 (0, 0))) := (uw.block _ (by omega)).trans NB.out
          have g0 := HQ.out w4.heap.size w4 (by omega) (Or.inr (Nat.le_refl _)) (Fr.refl _ _)
          have HB4 := (HX.out.2.1 wd.heap.size (by omega) (by omega)).trans HB3
          refine hK.out _ _ ⟨g0.1, range_heap XW.out⟩ (fun hHeld => ?_)
          clear hK KK g0
          try simp only [Act.put, List.setIfInBounds_toArray, List.set_cons_zero, List.set_cons_succ]
          refine wpAnyH_take (i := 8) (v := ?_) (by simp only [List.getElem?_toArray, List.getElem?_cons_succ, List.getElem?_cons_zero]; rfl) (by kernel_rfl) (by kernel_rfl) (by kernel_rfl) (by intro _ _ _ h; exact h) (Or.inl ⟨by rfl, ?_⟩) (by assumption) ?_
          rotate_left
          · (intro w hSw; (try dsimp only at hSw); go_simp <;> with_reducible rfl)
          try simp only [Act.put, List.setIfInBounds_toArray, List.set_cons_zero, List.set_cons_succ]
          refine wpAnyH_take (i := 9) (v := ?_) (by simp only [List.getElem?_toArray, List.getElem?_cons_succ, List.getElem?_cons_zero]; rfl) (by kernel_rfl) (by kernel_rfl) (by kernel_rfl) (by intro _ _ _ h; exact h) (Or.inl ⟨by rfl, ?_⟩) (by assumption) ?_
          rotate_left
          · (intro w hSw; (try dsimp only at hSw); go_simp <;> with_reducible rfl)
          try simp only [Act.put, List.setIfInBounds_toArray, List.set_cons_zero, List.set_cons_succ]
          refine wpAnyH_take (i := 10) (v := ?_) (by simp only [List.getElem?_toArray, List.getElem?_cons_succ, List.getElem?_cons_zero]; rfl) (by kernel_rfl) (by kernel_rfl) (by kernel_rfl) (by intro _ _ _ h; exact h) (Or.inl ⟨by rfl, ?_⟩) (by assumption) ?_
          rotate_left
          · (intro w hSw; (try dsimp only at hSw); go_simp <;> with_reducible rfl)
          try simp only [Act.put, List.setIfInBounds_toArray, List.set_cons_zero, List.set_cons_succ]
          refine wpAnyH_ready (rs := [12]) (by kernel_rfl) (by simp) ?_
          refine AllReadyH.cons (by simp only [List.getElem?_toArray, List.getElem?_cons_succ, List.getElem?_cons_zero]; rfl) (fun KK hK => ?_) AllReadyH.nil
          rw [if_pos (by rfl)]
          refine wp_store_mid 56 _ _ rfl (wd.heap.size) 0 #[.int .i64 (c : Int), .slice t.a t.n t.d, .slice t.a2 t.n2 t.d2] rfl rfl (there3 HB4) (by kernel_rfl) (by simp [Value.oneCell']) ?_
          have fr : Fr (wd.heap.size) w4 (w4.setCells (wd.heap.size) 0 [.int .i64 (c : Int), .slice t.a t.n t.d, .slice t.a2 t.n2 t.d2]) := (Fr.refl _ _).trans (fr_setCells _ _ 0 _)
          have hrb : (w4.setCells (wd.heap.size) 0 [.int .i64 (c : Int), .slice t.a t.n t.d, .slice t.a2 t.n2 t.d2]).heap[wd.heap.size]? = some (.cells #[.int .i64 (c : Int), .slice t.a t.n t.d, .slice t.a2 t.n2 t.d2] 56 (0, 0)) := heap_setCells_same _ _ _ 0 _ w4 HB4
          have hsz5 : (w4.setCells (wd.heap.size) 0 [.int .i64 (c : Int), .slice t.a t.n t.d, .slice t.a2 t.n2 t.d2]).heap.size = w4.heap.size := size_setCells _ _ _ _
          have g9 := HQ.out _ _ (by omega) (Or.inl (by omega)) fr
          have hE : Hid (T6 W q pb1 pb2 lg1 lg2 c1 c2 c s t hl hg lv2 bv2 false false (w4.setCells (wd.heap.size) 0 [.int .i64 (c : Int), .slice t.a t.n t.d, .slice t.a2 t.n2 t.d2])) := g9.2
          have hx1 : (w4.setCells (wd.heap.size) 0 [.int .i64 (c : Int), .slice t.a t.n t.d, .slice t.a2 t.n2 t.d2]).heap[nb]? = some (.cells #[.int .i64 (c : Int), .slice s.a s.n s.d, .slice s.a2 s.n2 s.d2] 56 (0, 0)) := (fr.block _ (by omega) (by omega)).trans ((HX.out.2.2 nb (Or.inl rfl)).trans NBd.out)
          refine hK.out _ _ ⟨g9.1, range_heap (fr.block _ (by omega) (by omega) |>.trans XW.out)⟩ (fun hHeld => ?_)
          clear hK KK
          try simp only [Act.put, List.setIfInBounds_toArray, List.set_cons_zero, List.set_cons_succ]
          refine wpAnyH_take (i := 13) (v := ?_) (by simp only [List.getElem?_toArray, List.getElem?_cons_succ, List.getElem?_cons_zero]; rfl) (by kernel_rfl) (by kernel_rfl) (by kernel_rfl) (by intro _ _ _ h; exact h) (Or.inl ⟨by rfl, ?_⟩) (by assumption) ?_
          rotate_left
          · (intro w hSw; (try dsimp only at hSw); go_simp <;> with_reducible rfl)
          try simp only [Act.put, List.setIfInBounds_toArray, List.set_cons_zero, List.set_cons_succ]
          refine wpAnyH_done (by kernel_rfl) ?_ _
          first | go_meet | (go_wp2_with fail; go_meet)
          exact ⟨_, t, hl, hg, rfl, rfl, en, by omega, hx1, hrb, hE.out⟩
      case rest =>
      obtain ⟨nb2, t, hl, hg, rfl, rfl, en, m1, m2, m3, m4⟩ := hcut
      generalize wc = wz at m2 m3 m4 ⊢
      obtain ⟨va, vn, vd, va2, vn2, vd2⟩ := s
      obtain ⟨ta, tn, td, ta2, tn2, td2⟩ := t
      have hv1 : Hv wz pb1 c va vn vd va2 vn2 vd2 hl := (m4.hv hc4).1
      have hv2 : Hv wz pb2 c ta tn td ta2 tn2 td2 hg := (m4.hv hc4).2
      have elen : hg.length = hl.length := by
        have := congrArg List.length en
        unfold nbs at this
        simpa using this.symm
      have esz : sizes hg = sizes hl := by rw [← nbSize_nbs, ← nbSize_nbs, en]
      obtain ⟨y1, y2, y3⟩ := hv1.len
      obtain ⟨y4, y5, y6⟩ := hv2.len
      rw [elen] at y4
      subst y1 y4
      have y7 := hv1.few
      have ysz : sizes hl ≤ 65536 * 4096 := by
        have := sizes_le (ls := hl) hv1.sz
        have h2 : 65536 * hl.length ≤ 65536 * 4096 := Nat.mul_le_mul_left _ y7
        omega
      have HV1 : Hid (Hv wz pb1 c va hl.length vd va2 vn2 vd2 hl) := hv1
      have HV2 : Hid (Hv wz pb2 c ta hl.length td ta2 tn2 td2 hg) := hv2
      have HN1 : Hid (wz.heap[nb]? = some (.cells #[.int .i64 (c : Int), .slice va hl.length vd, .slice va2 vn2 vd2] 56 (0, 0))) := m2
      have HN2 : Hid (wz.heap[nb2]? = some (.cells #[.int .i64 (c : Int), .slice ta hl.length td, .slice ta2 tn2 td2] 56 (0, 0))) := m3
      have HT6 : Hid (T6 W q pb1 pb2 lg1 lg2 c1 c2 c ⟨va, hl.length, vd, va2, vn2, vd2⟩ ⟨ta, hl.length, td, ta2, tn2, td2⟩ hl hg lv2 bv2 false false wz) := m4
      clear m2 m3 m4 hv1 hv2 NB XB HT5 HS0 HAc
      have kh1 : wz.cell? ⟨nb, 1, none⟩ = some (.slice va hl.length vd) := heap_cell HN1.out rfl
      have kg1 : wz.cell? ⟨nb2, 1, none⟩ = some (.slice ta hl.length td) := heap_cell HN2.out rfl
      have hss : ((sizes hl : Int) == (sizes hl : Int)) = true := by simp
      have hll : ((hl.length : Int) == (hl.length : Int)) = true := by simp
      have HSz : Hid (∀ w', Up wz w' → w'.cell? ⟨nb, 1, none⟩ = some (.slice va hl.length vd) ∧ w'.cell? ⟨nb2, 1, none⟩ = some (.slice ta hl.length td) ∧ w'.rangeAt nb 0 [.int .i64 (c : Int), .slice va hl.length vd, .slice va2 vn2 vd2] ∧ w'.rangeAt nb2 0 [.int .i64 (c : Int), .slice ta hl.length td, .slice ta2 tn2 td2]) := fun w' u => by
        have a1 := (u.block _ (heap_at HN1.out)).trans HN1.out
        have a2 := (u.block _ (heap_at HN2.out)).trans HN2.out
        exact ⟨heap_cell a1 rfl, heap_cell a2 rfl, range_heap a1, range_heap a2⟩
      have HV2s : Hid (∀ w', Up wz w' → Calls Try.prog 24 #[.agg #[.int .i64 (c : Int), .slice ta hl.length td, .slice ta2 tn2 td2]] w' fun e w2 => e = .returned (.int .i64 (sizes hl : Nat)) ∧ Up w' w2) := fun w' u => by
        have := HV2.out.size w' u
        rw [esz] at this
        exact this
      go_upto_region 16 with fail
      refine wp_region_held_drew (S := fun w' : World => w'.cell? ⟨nb, 1, none⟩ = some (.slice va hl.length vd) ∧ w'.cell? ⟨nb2, 1, none⟩ = some (.slice ta hl.length td) ∧ w'.rangeAt nb 0 [.int .i64 (c : Int), .slice va hl.length vd, .slice va2 vn2 vd2] ∧ w'.rangeAt nb2 0 [.int .i64 (c : Int), .slice ta hl.length td, .slice ta2 tn2 td2]) (by kernel_rfl) ?_ (fun hHeld => ?_)
      · exact HSz.out _ (Up.refl wz).drew
      have H4d : Hid (Up wz wz.drew) := (Up.refl wz).drew
      clear kh1 kg1
      generalize World.drew wz = wd at H4d hHeld ⊢
      refine wpAnyH_take (i := 0) (v := ?_) (by simp only [List.getElem?_toArray, List.getElem?_cons_zero]; rfl) (by kernel_rfl) (by kernel_rfl) (by kernel_rfl) (by intro _ _ _ h; exact h) (Or.inl ⟨by rfl, ?_⟩) (by assumption) ?_
      rotate_left
      · (intro w hSw; (try dsimp only at hSw); go_simp <;> with_reducible rfl)
      try simp only [Act.put, List.setIfInBounds_toArray, List.set_cons_zero, List.set_cons_succ]
      refine wpAnyH_take (i := 1) (v := ?_) (by simp only [List.getElem?_toArray, List.getElem?_cons_succ, List.getElem?_cons_zero]; rfl) (by kernel_rfl) (by kernel_rfl) (by kernel_rfl) (by intro _ _ _ h; exact h) (Or.inl ⟨by rfl, ?_⟩) (by assumption) ?_
      rotate_left
      · (intro w hSw; (try dsimp only at hSw); go_simp <;> with_reducible rfl)
      try simp only [Act.put, List.setIfInBounds_toArray, List.set_cons_zero, List.set_cons_succ]
      refine wpAnyH_take (i := 2) (v := ?_) (by simp only [List.getElem?_toArray, List.getElem?_cons_succ, List.getElem?_cons_zero]; rfl) (by kernel_rfl) (by kernel_rfl) (by kernel_rfl) (by intro _ _ _ h; exact h) (Or.inl ⟨by rfl, ?_⟩) (by assumption) ?_
      rotate_left
      · (intro w hSw; (try dsimp only at hSw); go_simp <;> with_reducible rfl)
      try simp only [Act.put, List.setIfInBounds_toArray, List.set_cons_zero, List.set_cons_succ]
      refine wpAnyH_take (i := 3) (v := ?_) (by simp only [List.getElem?_toArray, List.getElem?_cons_succ, List.getElem?_cons_zero]; rfl) (by kernel_rfl) (by kernel_rfl) (by kernel_rfl) (by intro _ _ _ h; exact h) (Or.inl ⟨by rfl, ?_⟩) (by assumption) ?_
      rotate_left
      · (intro w hSw; (try dsimp only at hSw); go_simp <;> with_reducible rfl)
      try simp only [Act.put, List.setIfInBounds_toArray, List.set_cons_zero, List.set_cons_succ]
      refine wpAnyH_take (i := 4) (v := ?_) (by simp only [List.getElem?_toArray, List.getElem?_cons_succ, List.getElem?_cons_zero]; rfl) (by kernel_rfl) (by kernel_rfl) (by kernel_rfl) (by intro _ _ _ h; exact h) (Or.inl ⟨by rfl, ?_⟩) (by assumption) ?_
      rotate_left
      · (intro w hSw; (try dsimp only at hSw); go_simp <;> with_reducible rfl)
      try simp only [Act.put, List.setIfInBounds_toArray, List.set_cons_zero, List.set_cons_succ]
      refine wpAnyH_take (i := 5) (v := ?_) (by simp only [List.getElem?_toArray, List.getElem?_cons_succ, List.getElem?_cons_zero]; rfl) (by kernel_rfl) (by kernel_rfl) (by kernel_rfl) (by intro _ _ _ h; exact h) (Or.inl ⟨by rfl, ?_⟩) (by assumption) ?_
      rotate_left
      · (intro w hSw; (try dsimp only at hSw); go_simp <;> with_reducible rfl)
      try simp only [Act.put, List.setIfInBounds_toArray, List.set_cons_zero, List.set_cons_succ]
      refine wpAnyH_take (i := 6) (v := ?_) (by simp only [List.getElem?_toArray, List.getElem?_cons_succ, List.getElem?_cons_zero]; rfl) (by kernel_rfl) (by kernel_rfl) (by kernel_rfl) (by intro _ _ _ h; exact h) (Or.inl ⟨by rfl, ?_⟩) (by assumption) ?_
      rotate_left
      · (intro w hSw; (try dsimp only at hSw); go_simp <;> with_reducible rfl)
      try simp only [Act.put, List.setIfInBounds_toArray, List.set_cons_zero, List.set_cons_succ]
      refine wpAnyH_take (i := 7) (v := ?_) (by simp only [List.getElem?_toArray, List.getElem?_cons_succ, List.getElem?_cons_zero]; rfl) (by kernel_rfl) (by kernel_rfl) (by kernel_rfl) (by intro _ _ _ h; exact h) (Or.inl ⟨by rfl, ?_⟩) (by assumption) ?_
      rotate_left
      · (intro w hSw; (try dsimp only at hSw); go_simp <;> with_reducible rfl)
      try simp only [Act.put, List.setIfInBounds_toArray, List.set_cons_zero, List.set_cons_succ]
      refine wpAnyH_take (i := 8) (v := ?_) (by simp only [List.getElem?_toArray, List.getElem?_cons_succ, List.getElem?_cons_zero]; rfl) (by kernel_rfl) (by kernel_rfl) (by kernel_rfl) (by intro _ _ _ h; exact h) (Or.inl ⟨by rfl, ?_⟩) (by assumption) ?_
      rotate_left
      · (intro w hSw; (try dsimp only at hSw); go_simp <;> with_reducible rfl)
      try simp only [Act.put, List.setIfInBounds_toArray, List.set_cons_zero, List.set_cons_succ]
      refine wpAnyH_take (i := 9) (v := ?_) (by simp only [List.getElem?_toArray, List.getElem?_cons_succ, List.getElem?_cons_zero]; rfl) (by kernel_rfl) (by kernel_rfl) (by kernel_rfl) (by intro _ _ _ h; exact h) (Or.inl ⟨by rfl, ?_⟩) (by assumption) ?_
      rotate_left
      · (intro w hSw; (try dsimp only at hSw); go_simp <;> with_reducible rfl)
      try simp only [Act.put, List.setIfInBounds_toArray, List.set_cons_zero, List.set_cons_succ]
      refine wpAnyH_take (i := 10) (v := ?_) (by simp only [List.getElem?_toArray, List.getElem?_cons_succ, List.getElem?_cons_zero]; rfl) (by kernel_rfl) (by kernel_rfl) (by kernel_rfl) (by intro _ _ _ h; exact h) (Or.inl ⟨by rfl, ?_⟩) (by assumption) ?_
      rotate_left
      · (intro w hSw; (try dsimp only at hSw); go_simp <;> with_reducible rfl)
      try simp only [Act.put, List.setIfInBounds_toArray, List.set_cons_zero, List.set_cons_succ]
      refine wpAnyH_take (i := 11) (v := ?_) (by simp only [List.getElem?_toArray, List.getElem?_cons_succ, List.getElem?_cons_zero]; rfl) (by kernel_rfl) (by kernel_rfl) (by kernel_rfl) (by intro _ _ _ h; exact h) (Or.inl ⟨by rfl, ?_⟩) (by assumption) ?_
      rotate_left
      · (intro w hSw; (try dsimp only at hSw); go_simp <;> with_reducible rfl)
      try simp only [Act.put, List.setIfInBounds_toArray, List.set_cons_zero, List.set_cons_succ]
      refine wpAnyH_take (i := 12) (v := ?_) (by simp only [List.getElem?_toArray, List.getElem?_cons_succ, List.getElem?_cons_zero]; rfl) (by kernel_rfl) (by kernel_rfl) (by kernel_rfl) (by intro _ _ _ h; exact h) (Or.inl ⟨by rfl, ?_⟩) (by assumption) ?_
      rotate_left
      · (intro w hSw; (try dsimp only at hSw); go_simp <;> with_reducible rfl)
      try simp only [Act.put, List.setIfInBounds_toArray, List.set_cons_zero, List.set_cons_succ]
      refine wpAnyH_take (i := 13) (v := .agg [.int .i64 (c : Int), .slice va hl.length vd, .slice va2 vn2 vd2].toArray) (by simp only [List.getElem?_toArray, List.getElem?_cons_succ, List.getElem?_cons_zero]; rfl) (by kernel_rfl) (by kernel_rfl) (by kernel_rfl) (by intro _ _ _ h; exact h) (yieldsIf_load_mid (by rfl) 56 _ rfl nb 0 rfl [.int .i64 (c : Int), .slice va hl.length vd, .slice va2 vn2 vd2] _ (fun w hw => hw.2.2.1) Try.underlying56 rfl (by kernel_rfl)) (by assumption) ?_
      simp only [Act.put, List.setIfInBounds_toArray, List.set_cons_zero, List.set_cons_succ]
      refine wpAnyH_take (i := 15) (v := .agg [.int .i64 (c : Int), .slice ta hl.length td, .slice ta2 tn2 td2].toArray) (by simp only [List.getElem?_toArray, List.getElem?_cons_succ, List.getElem?_cons_zero]; rfl) (by kernel_rfl) (by kernel_rfl) (by kernel_rfl) (by intro _ _ _ h; exact h) (yieldsIf_load_mid (by rfl) 56 _ rfl nb2 0 rfl [.int .i64 (c : Int), .slice ta hl.length td, .slice ta2 tn2 td2] _ (fun w hw => hw.2.2.2) Try.underlying56 rfl (by kernel_rfl)) (by assumption) ?_
      simp only [Act.put, List.setIfInBounds_toArray, List.set_cons_zero, List.set_cons_succ]
      refine wpAnyH_ready (rs := [14]) (by kernel_rfl) (by simp) ?_
      refine AllReadyH.cons (by simp only [List.getElem?_toArray, List.getElem?_cons_succ, List.getElem?_cons_zero]; rfl) (fun KK hK => ?_) AllReadyH.nil
      go_simp
      refine (HV1.out.size wd H4d.out).mono ?_
      rintro e w5 ⟨rfl, z5⟩
      have H5 : Hid (Up wz w5) := H4d.out.trans z5
      clear z5 H4d
      refine hK.out _ _ (HSz.out _ H5.out) (fun hHeld => ?_)
      clear hK KK
      try simp only [Act.put, List.setIfInBounds_toArray, List.set_cons_zero, List.set_cons_succ]
      refine wpAnyH_ready (rs := [16]) (by kernel_rfl) (by simp) ?_
      refine AllReadyH.cons (by simp only [List.getElem?_toArray, List.getElem?_cons_succ, List.getElem?_cons_zero]; rfl) (fun KK hK => ?_) AllReadyH.nil
      go_simp
      refine (HV2s.out w5 H5.out).mono ?_
      rintro e w6 ⟨rfl, z6⟩
      have H6 : Hid (Up wz w6) := H5.out.trans z6
      clear z6 H5
      refine hK.out _ _ (HSz.out _ H6.out) (fun hHeld => ?_)
      clear hK KK
      try simp only [Act.put, List.setIfInBounds_toArray, List.set_cons_zero, List.set_cons_succ]
      refine wpAnyH_take (i := 17) (v := ?_) (by simp only [List.getElem?_toArray, List.getElem?_cons_succ, List.getElem?_cons_zero]; rfl) (by kernel_rfl) (by kernel_rfl) (by kernel_rfl) (by intro _ _ _ h; exact h) (Or.inl ⟨by rfl, ?_⟩) (by assumption) ?_
      rotate_left
      · (intro w hSw; (try dsimp only at hSw); go_simp <;> with_reducible rfl)
      try simp only [Act.put, List.setIfInBounds_toArray, List.set_cons_zero, List.set_cons_succ]
      refine wpAnyH_take (i := 18) (v := ?_) (by simp only [List.getElem?_toArray, List.getElem?_cons_succ, List.getElem?_cons_zero]; rfl) (by kernel_rfl) (by kernel_rfl) (by kernel_rfl) (by intro _ _ _ h; exact h) (Or.inl ⟨by rfl, ?_⟩) (by assumption) ?_
      rotate_left
      · (intro w hSw; (try dsimp only at hSw); go_simp <;> with_reducible rfl)
      try simp only [Act.put, List.setIfInBounds_toArray, List.set_cons_zero, List.set_cons_succ]
      refine wpAnyH_done (by kernel_rfl) ?_ _
      clear hHeld HSz HV2s
      have HX7 : Hid (w6.there lg1 (c * 3) 3 ∧ w6.rangeAt nb 0 [.int .i64 (c : Int), .slice va hl.length vd, .slice va2 vn2 vd2] ∧ (w6.setCells lg1 (c * 3) [.int .i64 (c : Int), .slice va hl.length vd, .slice va2 vn2 vd2]).there lg2 (c * 3) 3 ∧ (w6.setCells lg1 (c * 3) [.int .i64 (c : Int), .slice va hl.length vd, .slice va2 vn2 vd2]).rangeAt nb2 0 [.int .i64 (c : Int), .slice ta hl.length td, .slice ta2 tn2 td2] ∧ T6 W q pb1 pb2 lg1 lg2 c1 c2 c ⟨va, hl.length, vd, va2, vn2, vd2⟩ ⟨ta, hl.length, td, ta2, tn2, td2⟩ hl hg lv2 bv2 true true ((w6.setCells lg1 (c * 3) [.int .i64 (c : Int), .slice va hl.length vd, .slice va2 vn2 vd2]).setCells lg2 (c * 3) [.int .i64 (c : Int), .slice ta hl.length td, .slice ta2 tn2 td2]) ∧ ((w6.setCells lg1 (c * 3) [.int .i64 (c : Int), .slice va hl.length vd, .slice va2 vn2 vd2]).setCells lg2 (c * 3) [.int .i64 (c : Int), .slice ta hl.length td, .slice ta2 tn2 td2]).heap[nb]? = some (.cells #[.int .i64 (c : Int), .slice va hl.length vd, .slice va2 vn2 vd2] 56 (0, 0)) ∧ ((w6.setCells lg1 (c * 3) [.int .i64 (c : Int), .slice va hl.length vd, .slice va2 vn2 vd2]).setCells lg2 (c * 3) [.int .i64 (c : Int), .slice ta hl.length td, .slice ta2 tn2 td2]).heap[nb2]? = some (.cells #[.int .i64 (c : Int), .slice ta hl.length td, .slice ta2 tn2 td2] 56 (0, 0))) := by
        have t0 := HT6.out.more H6.out
        obtain ⟨t1, t2⟩ := t0.store1 hc4
        obtain ⟨t3, t4⟩ := t2.store2 hc4
        have a1 := (H6.out.block _ (heap_at HN1.out)).trans HN1.out
        have a2 := (H6.out.block _ (heap_at HN2.out)).trans HN2.out
        have f1 := fr_setCells lg1 [.int .i64 (c : Int), .slice va hl.length vd, .slice va2 vn2 vd2] (c * 3) w6
        have f2 := fr_setCells lg2 [.int .i64 (c : Int), .slice ta hl.length td, .slice ta2 tn2 td2] (c * 3) (w6.setCells lg1 (c * 3) [.int .i64 (c : Int), .slice va hl.length vd, .slice va2 vn2 vd2])
        have b1 := (f1.block _ (heap_at a1) (by omega)).trans a1
        have b2 := (f1.block _ (heap_at a2) (by omega)).trans a2
        exact ⟨t1, range_heap a1, t3, range_heap b2, t4, (f2.block _ (heap_at b1) (by omega)).trans b1, (f2.block _ (heap_at b2) (by omega)).trans b2⟩
      go_upto_region 19 with (first | refine wpList_load_mid rfl 56 _ rfl nb 0 rfl [.int .i64 (c : Int), .slice va hl.length vd, .slice va2 vn2 vd2] _ HX7.out.2.1 Try.underlying56 rfl (by kernel_rfl) ?_ | refine wpList_store_mid rfl 56 _ _ rfl lg1 (c * 3) #[.int .i64 (c : Int), .slice va hl.length vd, .slice va2 vn2 vd2] rfl rfl HX7.out.1 (by kernel_rfl) (by simp [Value.oneCell']) ?_)
      generalize World.setCells w6 lg1 _ _ = w7 at HX7 ⊢
      go_wp2_with (first | refine wpList_load_mid rfl 56 _ rfl nb2 0 rfl [.int .i64 (c : Int), .slice ta hl.length td, .slice ta2 tn2 td2] _ HX7.out.2.2.2.1 Try.underlying56 rfl (by kernel_rfl) ?_ | refine wpList_store_mid rfl 56 _ _ rfl lg2 (c * 3) #[.int .i64 (c : Int), .slice ta hl.length td, .slice ta2 tn2 td2] rfl rfl HX7.out.2.2.1 (by kernel_rfl) (by simp [Value.oneCell']) ?_)
      generalize World.setCells w7 lg2 _ _ = w8 at HX7 ⊢
      have HT8 : Hid (T6 W q pb1 pb2 lg1 lg2 c1 c2 c ⟨va, hl.length, vd, va2, vn2, vd2⟩ ⟨ta, hl.length, td, ta2, tn2, td2⟩ hl hg lv2 bv2 true true w8) := HX7.out.2.2.2.2.1
      have HW1 : Hid (Hv w8 pb1 c va hl.length vd va2 vn2 vd2 hl) := (HT8.out.hv hc4).1
      have HW2 : Hid (Hv w8 pb2 c ta hl.length td ta2 tn2 td2 hg) := (HT8.out.hv hc4).2
      have HN : Hid (∀ w', Up w8 w' → w'.heap[nb]? = some (.cells #[.int .i64 (c : Int), .slice va hl.length vd, .slice va2 vn2 vd2] 56 (0, 0)) ∧ w'.heap[nb2]? = some (.cells #[.int .i64 (c : Int), .slice ta hl.length td, .slice ta2 tn2 td2] 56 (0, 0))) := fun w' u => ⟨(u.block _ (heap_at HX7.out.2.2.2.2.2.1)).trans HX7.out.2.2.2.2.2.1, (u.block _ (heap_at HX7.out.2.2.2.2.2.2)).trans HX7.out.2.2.2.2.2.2⟩
      clear HX7 HT6 HN1 HN2 HV1 HV2 H6
      go_loopw [22, 23, 24, 25, 26] (fun I _ _ _ _ ws => ∃ k : Nat, k ≤ hl.length ∧ I = .int .i64 (k : Int) ∧ Hid (Up w8 ws)) (fun I _ _ _ _ _ => hl.length - (intOf I).toNat)
      case atStart => exact ⟨0, Nat.zero_le _, rfl, Up.refl w8⟩
      case round =>
        obtain ⟨k, hk9, rfl, M0⟩ := hrel
        generalize wr = ws at M0 ⊢
        have kh : ws.cell? ⟨nb, 1, none⟩ = some (.slice va hl.length vd) := heap_cell (HN.out ws M0.out).1 rfl
        by_cases hkl : k < hl.length
        · have d1 : (k : Int) < (hl.length : Int) := by omega
          obtain ⟨l, hx1⟩ : ∃ l, hl[k]? = some l := ⟨_, List.getElem?_eq_getElem hkl⟩
          obtain ⟨l2, hx2, es, ef⟩ : ∃ l2, hg[k]? = some l2 ∧ l2.size = l.size ∧ l2.f = l.f := by
            have hx : (nbs hl)[k]? = some l.nb := by unfold nbs; rw [List.getElem?_map, hx1]; rfl
            rw [en] at hx
            unfold nbs at hx
            rw [List.getElem?_map] at hx
            cases hb : hg[k]? with
            | none => rw [hb] at hx; cases hx
            | some l2 =>
              rw [hb] at hx
              injection hx with hx
              injection hx with _ hx
              injection hx with h1 h2
              exact ⟨l2, rfl, h1, h2⟩
          have HEs : Hid (l2.size = l.size ∧ l2.f = l.f) := ⟨es, ef⟩
          clear es ef
          obtain ⟨la, rfl, hla⟩ := HW1.out.cell k l hx1
          obtain ⟨lb, rfl, hlb⟩ := HW2.out.cell k l2 hx2
          have HS1 : Hid (∀ w', Up w8 w' → w'.cell? ⟨nb, 0, none⟩ = some (.int .i64 (c : Int)) ∧ w'.cell? ⟨nb, 1, none⟩ = some (.slice (some ⟨la, 0, none⟩) hl.length vd) ∧ w'.cell? ⟨la, k * 3, none⟩ = some (.int .i64 (l.buf : Int)) ∧ w'.cell? ⟨la, k * 3 + 2, none⟩ = some (.int .i64 (l.size : Int))) := fun w' u => ⟨heap_cell (HN.out w' u).1 rfl, heap_cell (HN.out w' u).1 rfl, (hla w' u).1, (hla w' u).2⟩
          have HS2 : Hid (∀ w', Up w8 w' → w'.cell? ⟨nb2, 0, none⟩ = some (.int .i64 (c : Int)) ∧ w'.cell? ⟨nb2, 1, none⟩ = some (.slice (some ⟨lb, 0, none⟩) hl.length td) ∧ w'.cell? ⟨lb, k * 3, none⟩ = some (.int .i64 (l2.buf : Int)) ∧ w'.cell? ⟨lb, k * 3 + 2, none⟩ = some (.int .i64 (l2.size : Int))) := fun w' u => ⟨heap_cell (HN.out w' u).2 rfl, heap_cell (HN.out w' u).2 rfl, (hlb w' u).1, (hlb w' u).2⟩
          have HL1 : Hid (∀ w', Up w8 w' → _) := fun w' u => HW1.out.load w' k l u hx1
          have HL2 : Hid (∀ w', Up w8 w' → _) := fun w' u => HW2.out.load w' k l2 u hx2
          clear hla hlb hx1 hx2 HN
          go_wp2_with fail
          clear kh
          refine wp_region_held_drew (S := fun w' : World => w'.cell? ⟨nb, 0, none⟩ = some (.int .i64 (c : Int)) ∧ w'.cell? ⟨nb, 1, none⟩ = some (.slice (some ⟨la, 0, none⟩) hl.length vd) ∧ w'.cell? ⟨la, k * 3, none⟩ = some (.int .i64 (l.buf : Int)) ∧ w'.cell? ⟨la, k * 3 + 2, none⟩ = some (.int .i64 (l.size : Int))) (by kernel_rfl) ?_ (fun hHeld => ?_)
          · exact HS1.out _ M0.out.drew
          have M1 : Hid (Up w8 ws.drew) := M0.out.drew
          clear M0
          generalize World.drew ws = wd at M1 hHeld ⊢
          refine wpAnyH_take (i := 0) (v := ?_) (by simp only [List.getElem?_toArray, List.getElem?_cons_zero]; rfl) (by kernel_rfl) (by kernel_rfl) (by kernel_rfl) (by intro _ _ _ h; exact h) (Or.inl ⟨by rfl, ?_⟩) (by assumption) ?_
          rotate_left
          · (intro w hSw; (try dsimp only at hSw); go_simp <;> with_reducible rfl)
          try simp only [Act.put, List.setIfInBounds_toArray, List.set_cons_zero, List.set_cons_succ]
          refine wpAnyH_take (i := 1) (v := ?_) (by simp only [List.getElem?_toArray, List.getElem?_cons_succ, List.getElem?_cons_zero]; rfl) (by kernel_rfl) (by kernel_rfl) (by kernel_rfl) (by intro _ _ _ h; exact h) (Or.inl ⟨by rfl, ?_⟩) (by assumption) ?_
          rotate_left
          · (intro w hSw; (try dsimp only at hSw); go_simp <;> with_reducible rfl)
          try simp only [Act.put, List.setIfInBounds_toArray, List.set_cons_zero, List.set_cons_succ]
          refine wpAnyH_take (i := 2) (v := ?_) (by simp only [List.getElem?_toArray, List.getElem?_cons_succ, List.getElem?_cons_zero]; rfl) (by kernel_rfl) (by kernel_rfl) (by kernel_rfl) (by intro _ _ _ h; exact h) (Or.inl ⟨by rfl, ?_⟩) (by assumption) ?_
          rotate_left
          · (intro w hSw; (try dsimp only at hSw); go_simp <;> with_reducible rfl)
          try simp only [Act.put, List.setIfInBounds_toArray, List.set_cons_zero, List.set_cons_succ]
          refine wpAnyH_take (i := 3) (v := ?_) (by simp only [List.getElem?_toArray, List.getElem?_cons_succ, List.getElem?_cons_zero]; rfl) (by kernel_rfl) (by kernel_rfl) (by kernel_rfl) (by intro _ _ _ h; exact h) (Or.inl ⟨by rfl, ?_⟩) (by assumption) ?_
          rotate_left
          · (intro w hSw; (try dsimp only at hSw); go_simp <;> with_reducible rfl)
          try simp only [Act.put, List.setIfInBounds_toArray, List.set_cons_zero, List.set_cons_succ]
          refine wpAnyH_take (i := 4) (v := ?_) (by simp only [List.getElem?_toArray, List.getElem?_cons_succ, List.getElem?_cons_zero]; rfl) (by kernel_rfl) (by kernel_rfl) (by kernel_rfl) (by intro _ _ _ h; exact h) (Or.inl ⟨by rfl, ?_⟩) (by assumption) ?_
          rotate_left
          · (intro w hSw; (try dsimp only at hSw); go_simp <;> with_reducible rfl)
          try simp only [Act.put, List.setIfInBounds_toArray, List.set_cons_zero, List.set_cons_succ]
          refine wpAnyH_take (i := 5) (v := ?_) (by simp only [List.getElem?_toArray, List.getElem?_cons_succ, List.getElem?_cons_zero]; rfl) (by kernel_rfl) (by kernel_rfl) (by kernel_rfl) (by intro _ _ _ h; exact h) (Or.inl ⟨by rfl, ?_⟩) (by assumption) ?_
          rotate_left
          · (intro w hSw; (try dsimp only at hSw); go_simp <;> with_reducible rfl)
          try simp only [Act.put, List.setIfInBounds_toArray, List.set_cons_zero, List.set_cons_succ]
          refine wpAnyH_take (i := 6) (v := ?_) (by simp only [List.getElem?_toArray, List.getElem?_cons_succ, List.getElem?_cons_zero]; rfl) (by kernel_rfl) (by kernel_rfl) (by kernel_rfl) (by intro _ _ _ h; exact h) (Or.inl ⟨by rfl, ?_⟩) (by assumption) ?_
          rotate_left
          · (intro w hSw; (try dsimp only at hSw); go_simp <;> with_reducible rfl)
          try simp only [Act.put, List.setIfInBounds_toArray, List.set_cons_zero, List.set_cons_succ]
          refine wpAnyH_take (i := 7) (v := ?_) (by simp only [List.getElem?_toArray, List.getElem?_cons_succ, List.getElem?_cons_zero]; rfl) (by kernel_rfl) (by kernel_rfl) (by kernel_rfl) (by intro _ _ _ h; exact h) (Or.inl ⟨by rfl, ?_⟩) (by assumption) ?_
          rotate_left
          · (intro w hSw; (try dsimp only at hSw); go_simp <;> with_reducible rfl)
          try simp only [Act.put, List.setIfInBounds_toArray, List.set_cons_zero, List.set_cons_succ]
          refine wpAnyH_take (i := 8) (v := ?_) (by simp only [List.getElem?_toArray, List.getElem?_cons_succ, List.getElem?_cons_zero]; rfl) (by kernel_rfl) (by kernel_rfl) (by kernel_rfl) (by intro _ _ _ h; exact h) (Or.inl ⟨by rfl, ?_⟩) (by assumption) ?_
          rotate_left
          · (intro w hSw; (try dsimp only at hSw); go_simp <;> with_reducible rfl)
          try simp only [Act.put, List.setIfInBounds_toArray, List.set_cons_zero, List.set_cons_succ]
          refine wpAnyH_take (i := 9) (v := ?_) (by simp only [List.getElem?_toArray, List.getElem?_cons_succ, List.getElem?_cons_zero]; rfl) (by kernel_rfl) (by kernel_rfl) (by kernel_rfl) (by intro _ _ _ h; exact h) (Or.inl ⟨by rfl, ?_⟩) (by assumption) ?_
          rotate_left
          · (intro w hSw; (try dsimp only at hSw); go_simp <;> with_reducible rfl)
          try simp only [Act.put, List.setIfInBounds_toArray, List.set_cons_zero, List.set_cons_succ]
          refine wpAnyH_take (i := 10) (v := ?_) (by simp only [List.getElem?_toArray, List.getElem?_cons_succ, List.getElem?_cons_zero]; rfl) (by kernel_rfl) (by kernel_rfl) (by kernel_rfl) (by intro _ _ _ h; exact h) (Or.inl ⟨by rfl, ?_⟩) (by assumption) ?_
          rotate_left
          · (intro w hSw; (try dsimp only at hSw); go_simp <;> with_reducible rfl)
          try simp only [Act.put, List.setIfInBounds_toArray, List.set_cons_zero, List.set_cons_succ]
          refine wpAnyH_take (i := 11) (v := ?_) (by simp only [List.getElem?_toArray, List.getElem?_cons_succ, List.getElem?_cons_zero]; rfl) (by kernel_rfl) (by kernel_rfl) (by kernel_rfl) (by intro _ _ _ h; exact h) (Or.inl ⟨by rfl, ?_⟩) (by assumption) ?_
          rotate_left
          · (intro w hSw; (try dsimp only at hSw); go_simp <;> with_reducible rfl)
          try simp only [Act.put, List.setIfInBounds_toArray, List.set_cons_zero, List.set_cons_succ]
          refine wpAnyH_take (i := 12) (v := ?_) (by simp only [List.getElem?_toArray, List.getElem?_cons_succ, List.getElem?_cons_zero]; rfl) (by kernel_rfl) (by kernel_rfl) (by kernel_rfl) (by intro _ _ _ h; exact h) (Or.inl ⟨by rfl, ?_⟩) (by assumption) ?_
          rotate_left
          · (intro w hSw; (try dsimp only at hSw); go_simp <;> with_reducible rfl)
          try simp only [Act.put, List.setIfInBounds_toArray, List.set_cons_zero, List.set_cons_succ]
          refine wpAnyH_take (i := 13) (v := ?_) (by simp only [List.getElem?_toArray, List.getElem?_cons_succ, List.getElem?_cons_zero]; rfl) (by kernel_rfl) (by kernel_rfl) (by kernel_rfl) (by intro _ _ _ h; exact h) (Or.inl ⟨by rfl, ?_⟩) (by assumption) ?_
          rotate_left
          · (intro w hSw; (try dsimp only at hSw); go_simp <;> with_reducible rfl)
          try simp only [Act.put, List.setIfInBounds_toArray, List.set_cons_zero, List.set_cons_succ]
          refine wpAnyH_take (i := 14) (v := ?_) (by simp only [List.getElem?_toArray, List.getElem?_cons_succ, List.getElem?_cons_zero]; rfl) (by kernel_rfl) (by kernel_rfl) (by kernel_rfl) (by intro _ _ _ h; exact h) (Or.inl ⟨by rfl, ?_⟩) (by assumption) ?_
          rotate_left
          · (intro w hSw; (try dsimp only at hSw); go_simp <;> with_reducible rfl)
          try simp only [Act.put, List.setIfInBounds_toArray, List.set_cons_zero, List.set_cons_succ]
          refine wpAnyH_ready (rs := [15]) (by kernel_rfl) (by simp) ?_
          refine AllReadyH.cons (by simp only [List.getElem?_toArray, List.getElem?_cons_succ, List.getElem?_cons_zero]; rfl) (fun KK hK => ?_) AllReadyH.nil
          go_simp
          refine (HL1.out wd M1.out).mono ?_
          rintro e w9 ⟨g1, e1x, rfl, z1, z2⟩
          have M0 : Hid (Up w8 w9) := M1.out.trans z2
          have HG1 : Hid (Lst w9 g1 l.size e1x l.f) := z1
          clear z1 z2 M1
          refine hK.out _ _ (HS1.out _ M0.out) (fun hHeld => ?_)
          clear hK KK
          try simp only [Act.put, List.setIfInBounds_toArray, List.set_cons_zero, List.set_cons_succ]
          refine wpAnyH_take (i := 16) (v := ?_) (by simp only [List.getElem?_toArray, List.getElem?_cons_succ, List.getElem?_cons_zero]; rfl) (by kernel_rfl) (by kernel_rfl) (by kernel_rfl) (by intro _ _ _ h; exact h) (Or.inl ⟨by rfl, ?_⟩) (by assumption) ?_
          rotate_left
          · (intro w hSw; (try dsimp only at hSw); go_simp <;> with_reducible rfl)
          try simp only [Act.put, List.setIfInBounds_toArray, List.set_cons_zero, List.set_cons_succ]
          refine wpAnyH_take (i := 17) (v := ?_) (by simp only [List.getElem?_toArray, List.getElem?_cons_succ, List.getElem?_cons_zero]; rfl) (by kernel_rfl) (by kernel_rfl) (by kernel_rfl) (by intro _ _ _ h; exact h) (Or.inl ⟨by rfl, ?_⟩) (by assumption) ?_
          rotate_left
          · (intro w hSw; (try dsimp only at hSw); go_simp <;> with_reducible rfl)
          try simp only [Act.put, List.setIfInBounds_toArray, List.set_cons_zero, List.set_cons_succ]
          refine wpAnyH_take (i := 18) (v := ?_) (by simp only [List.getElem?_toArray, List.getElem?_cons_succ, List.getElem?_cons_zero]; rfl) (by kernel_rfl) (by kernel_rfl) (by kernel_rfl) (by intro _ _ _ h; exact h) (Or.inl ⟨by rfl, ?_⟩) (by assumption) ?_
          rotate_left
          · (intro w hSw; (try dsimp only at hSw); go_simp <;> with_reducible rfl)
          try simp only [Act.put, List.setIfInBounds_toArray, List.set_cons_zero, List.set_cons_succ]
          refine wpAnyH_take (i := 19) (v := ?_) (by simp only [List.getElem?_toArray, List.getElem?_cons_succ, List.getElem?_cons_zero]; rfl) (by kernel_rfl) (by kernel_rfl) (by kernel_rfl) (by intro _ _ _ h; exact h) (Or.inl ⟨by rfl, ?_⟩) (by assumption) ?_
          rotate_left
          · (intro w hSw; (try dsimp only at hSw); go_simp <;> with_reducible rfl)
          try simp only [Act.put, List.setIfInBounds_toArray, List.set_cons_zero, List.set_cons_succ]
          refine wpAnyH_take (i := 20) (v := ?_) (by simp only [List.getElem?_toArray, List.getElem?_cons_succ, List.getElem?_cons_zero]; rfl) (by kernel_rfl) (by kernel_rfl) (by kernel_rfl) (by intro _ _ _ h; exact h) (Or.inl ⟨by rfl, ?_⟩) (by assumption) ?_
          rotate_left
          · (intro w hSw; (try dsimp only at hSw); go_simp <;> with_reducible rfl)
          try simp only [Act.put, List.setIfInBounds_toArray, List.set_cons_zero, List.set_cons_succ]
          refine wpAnyH_done (by kernel_rfl) ?_ _
          clear hHeld
          go_wp2_with fail
          refine wp_region_held_drew (S := fun w' : World => w'.cell? ⟨nb2, 0, none⟩ = some (.int .i64 (c : Int)) ∧ w'.cell? ⟨nb2, 1, none⟩ = some (.slice (some ⟨lb, 0, none⟩) hl.length td) ∧ w'.cell? ⟨lb, k * 3, none⟩ = some (.int .i64 (l2.buf : Int)) ∧ w'.cell? ⟨lb, k * 3 + 2, none⟩ = some (.int .i64 (l2.size : Int))) (by kernel_rfl) ?_ (fun hHeld => ?_)
          · exact HS2.out _ M0.out.drew
          have M1 : Hid (Up w8 w9.drew) := M0.out.drew
          clear M0
          have HUd : Hid (Up w9 w9.drew) := (Up.refl w9).drew
          generalize World.drew w9 = wd at M1 hHeld HUd ⊢
          refine wpAnyH_take (i := 0) (v := ?_) (by simp only [List.getElem?_toArray, List.getElem?_cons_zero]; rfl) (by kernel_rfl) (by kernel_rfl) (by kernel_rfl) (by intro _ _ _ h; exact h) (Or.inl ⟨by rfl, ?_⟩) (by assumption) ?_
          rotate_left
          · (intro w hSw; (try dsimp only at hSw); go_simp <;> with_reducible rfl)
          try simp only [Act.put, List.setIfInBounds_toArray, List.set_cons_zero, List.set_cons_succ]
          refine wpAnyH_take (i := 1) (v := ?_) (by simp only [List.getElem?_toArray, List.getElem?_cons_succ, List.getElem?_cons_zero]; rfl) (by kernel_rfl) (by kernel_rfl) (by kernel_rfl) (by intro _ _ _ h; exact h) (Or.inl ⟨by rfl, ?_⟩) (by assumption) ?_
          rotate_left
          · (intro w hSw; (try dsimp only at hSw); go_simp <;> with_reducible rfl)
          try simp only [Act.put, List.setIfInBounds_toArray, List.set_cons_zero, List.set_cons_succ]
          refine wpAnyH_take (i := 2) (v := ?_) (by simp only [List.getElem?_toArray, List.getElem?_cons_succ, List.getElem?_cons_zero]; rfl) (by kernel_rfl) (by kernel_rfl) (by kernel_rfl) (by intro _ _ _ h; exact h) (Or.inl ⟨by rfl, ?_⟩) (by assumption) ?_
          rotate_left
          · (intro w hSw; (try dsimp only at hSw); go_simp <;> with_reducible rfl)
          try simp only [Act.put, List.setIfInBounds_toArray, List.set_cons_zero, List.set_cons_succ]
          refine wpAnyH_take (i := 3) (v := ?_) (by simp only [List.getElem?_toArray, List.getElem?_cons_succ, List.getElem?_cons_zero]; rfl) (by kernel_rfl) (by kernel_rfl) (by kernel_rfl) (by intro _ _ _ h; exact h) (Or.inl ⟨by rfl, ?_⟩) (by assumption) ?_
          rotate_left
          · (intro w hSw; (try dsimp only at hSw); go_simp <;> with_reducible rfl)
          try simp only [Act.put, List.setIfInBounds_toArray, List.set_cons_zero, List.set_cons_succ]
          refine wpAnyH_take (i := 4) (v := ?_) (by simp only [List.getElem?_toArray, List.getElem?_cons_succ, List.getElem?_cons_zero]; rfl) (by kernel_rfl) (by kernel_rfl) (by kernel_rfl) (by intro _ _ _ h; exact h) (Or.inl ⟨by rfl, ?_⟩) (by assumption) ?_
          rotate_left
          · (intro w hSw; (try dsimp only at hSw); go_simp <;> with_reducible rfl)
          try simp only [Act.put, List.setIfInBounds_toArray, List.set_cons_zero, List.set_cons_succ]
          refine wpAnyH_take (i := 5) (v := ?_) (by simp only [List.getElem?_toArray, List.getElem?_cons_succ, List.getElem?_cons_zero]; rfl) (by kernel_rfl) (by kernel_rfl) (by kernel_rfl) (by intro _ _ _ h; exact h) (Or.inl ⟨by rfl, ?_⟩) (by assumption) ?_
          rotate_left
          · (intro w hSw; (try dsimp only at hSw); go_simp <;> with_reducible rfl)
          try simp only [Act.put, List.setIfInBounds_toArray, List.set_cons_zero, List.set_cons_succ]
          refine wpAnyH_take (i := 6) (v := ?_) (by simp only [List.getElem?_toArray, List.getElem?_cons_succ, List.getElem?_cons_zero]; rfl) (by kernel_rfl) (by kernel_rfl) (by kernel_rfl) (by intro _ _ _ h; exact h) (Or.inl ⟨by rfl, ?_⟩) (by assumption) ?_
          rotate_left
          · (intro w hSw; (try dsimp only at hSw); go_simp <;> with_reducible rfl)
          try simp only [Act.put, List.setIfInBounds_toArray, List.set_cons_zero, List.set_cons_succ]
          refine wpAnyH_take (i := 7) (v := ?_) (by simp only [List.getElem?_toArray, List.getElem?_cons_succ, List.getElem?_cons_zero]; rfl) (by kernel_rfl) (by kernel_rfl) (by kernel_rfl) (by intro _ _ _ h; exact h) (Or.inl ⟨by rfl, ?_⟩) (by assumption) ?_
          rotate_left
          · (intro w hSw; (try dsimp only at hSw); go_simp <;> with_reducible rfl)
          try simp only [Act.put, List.setIfInBounds_toArray, List.set_cons_zero, List.set_cons_succ]
          refine wpAnyH_take (i := 8) (v := ?_) (by simp only [List.getElem?_toArray, List.getElem?_cons_succ, List.getElem?_cons_zero]; rfl) (by kernel_rfl) (by kernel_rfl) (by kernel_rfl) (by intro _ _ _ h; exact h) (Or.inl ⟨by rfl, ?_⟩) (by assumption) ?_
          rotate_left
          · (intro w hSw; (try dsimp only at hSw); go_simp <;> with_reducible rfl)
          try simp only [Act.put, List.setIfInBounds_toArray, List.set_cons_zero, List.set_cons_succ]
          refine wpAnyH_take (i := 9) (v := ?_) (by simp only [List.getElem?_toArray, List.getElem?_cons_succ, List.getElem?_cons_zero]; rfl) (by kernel_rfl) (by kernel_rfl) (by kernel_rfl) (by intro _ _ _ h; exact h) (Or.inl ⟨by rfl, ?_⟩) (by assumption) ?_
          rotate_left
          · (intro w hSw; (try dsimp only at hSw); go_simp <;> with_reducible rfl)
          try simp only [Act.put, List.setIfInBounds_toArray, List.set_cons_zero, List.set_cons_succ]
          refine wpAnyH_take (i := 10) (v := ?_) (by simp only [List.getElem?_toArray, List.getElem?_cons_succ, List.getElem?_cons_zero]; rfl) (by kernel_rfl) (by kernel_rfl) (by kernel_rfl) (by intro _ _ _ h; exact h) (Or.inl ⟨by rfl, ?_⟩) (by assumption) ?_
          rotate_left
          · (intro w hSw; (try dsimp only at hSw); go_simp <;> with_reducible rfl)
          try simp only [Act.put, List.setIfInBounds_toArray, List.set_cons_zero, List.set_cons_succ]
          refine wpAnyH_take (i := 11) (v := ?_) (by simp only [List.getElem?_toArray, List.getElem?_cons_succ, List.getElem?_cons_zero]; rfl) (by kernel_rfl) (by kernel_rfl) (by kernel_rfl) (by intro _ _ _ h; exact h) (Or.inl ⟨by rfl, ?_⟩) (by assumption) ?_
          rotate_left
          · (intro w hSw; (try dsimp only at hSw); go_simp <;> with_reducible rfl)
          try simp only [Act.put, List.setIfInBounds_toArray, List.set_cons_zero, List.set_cons_succ]
          refine wpAnyH_take (i := 12) (v := ?_) (by simp only [List.getElem?_toArray, List.getElem?_cons_succ, List.getElem?_cons_zero]; rfl) (by kernel_rfl) (by kernel_rfl) (by kernel_rfl) (by intro _ _ _ h; exact h) (Or.inl ⟨by rfl, ?_⟩) (by assumption) ?_
          rotate_left
          · (intro w hSw; (try dsimp only at hSw); go_simp <;> with_reducible rfl)
          try simp only [Act.put, List.setIfInBounds_toArray, List.set_cons_zero, List.set_cons_succ]
          refine wpAnyH_take (i := 13) (v := ?_) (by simp only [List.getElem?_toArray, List.getElem?_cons_succ, List.getElem?_cons_zero]; rfl) (by kernel_rfl) (by kernel_rfl) (by kernel_rfl) (by intro _ _ _ h; exact h) (Or.inl ⟨by rfl, ?_⟩) (by assumption) ?_
          rotate_left
          · (intro w hSw; (try dsimp only at hSw); go_simp <;> with_reducible rfl)
          try simp only [Act.put, List.setIfInBounds_toArray, List.set_cons_zero, List.set_cons_succ]
          refine wpAnyH_take (i := 14) (v := ?_) (by simp only [List.getElem?_toArray, List.getElem?_cons_succ, List.getElem?_cons_zero]; rfl) (by kernel_rfl) (by kernel_rfl) (by kernel_rfl) (by intro _ _ _ h; exact h) (Or.inl ⟨by rfl, ?_⟩) (by assumption) ?_
          rotate_left
          · (intro w hSw; (try dsimp only at hSw); go_simp <;> with_reducible rfl)
          try simp only [Act.put, List.setIfInBounds_toArray, List.set_cons_zero, List.set_cons_succ]
          refine wpAnyH_ready (rs := [15]) (by kernel_rfl) (by simp) ?_
          refine AllReadyH.cons (by simp only [List.getElem?_toArray, List.getElem?_cons_succ, List.getElem?_cons_zero]; rfl) (fun KK hK => ?_) AllReadyH.nil
          go_simp
          refine (HL2.out wd M1.out).mono ?_
          rintro e w10 ⟨g2, e2x, rfl, z1, z2⟩
          have M0 : Hid (Up w8 w10) := M1.out.trans z2
          have HG2 : Hid (Lst w10 g2 l2.size e2x l2.f) := z1
          have HUz : Hid (Up wd w10) := z2
          clear z1 z2 M1
          refine hK.out _ _ (HS2.out _ M0.out) (fun hHeld => ?_)
          clear hK KK
          try simp only [Act.put, List.setIfInBounds_toArray, List.set_cons_zero, List.set_cons_succ]
          refine wpAnyH_take (i := 16) (v := ?_) (by simp only [List.getElem?_toArray, List.getElem?_cons_succ, List.getElem?_cons_zero]; rfl) (by kernel_rfl) (by kernel_rfl) (by kernel_rfl) (by intro _ _ _ h; exact h) (Or.inl ⟨by rfl, ?_⟩) (by assumption) ?_
          rotate_left
          · (intro w hSw; (try dsimp only at hSw); go_simp <;> with_reducible rfl)
          try simp only [Act.put, List.setIfInBounds_toArray, List.set_cons_zero, List.set_cons_succ]
          refine wpAnyH_take (i := 17) (v := ?_) (by simp only [List.getElem?_toArray, List.getElem?_cons_succ, List.getElem?_cons_zero]; rfl) (by kernel_rfl) (by kernel_rfl) (by kernel_rfl) (by intro _ _ _ h; exact h) (Or.inl ⟨by rfl, ?_⟩) (by assumption) ?_
          rotate_left
          · (intro w hSw; (try dsimp only at hSw); go_simp <;> with_reducible rfl)
          try simp only [Act.put, List.setIfInBounds_toArray, List.set_cons_zero, List.set_cons_succ]
          refine wpAnyH_take (i := 18) (v := ?_) (by simp only [List.getElem?_toArray, List.getElem?_cons_succ, List.getElem?_cons_zero]; rfl) (by kernel_rfl) (by kernel_rfl) (by kernel_rfl) (by intro _ _ _ h; exact h) (Or.inl ⟨by rfl, ?_⟩) (by assumption) ?_
          rotate_left
          · (intro w hSw; (try dsimp only at hSw); go_simp <;> with_reducible rfl)
          try simp only [Act.put, List.setIfInBounds_toArray, List.set_cons_zero, List.set_cons_succ]
          refine wpAnyH_take (i := 19) (v := ?_) (by simp only [List.getElem?_toArray, List.getElem?_cons_succ, List.getElem?_cons_zero]; rfl) (by kernel_rfl) (by kernel_rfl) (by kernel_rfl) (by intro _ _ _ h; exact h) (Or.inl ⟨by rfl, ?_⟩) (by assumption) ?_
          rotate_left
          · (intro w hSw; (try dsimp only at hSw); go_simp <;> with_reducible rfl)
          try simp only [Act.put, List.setIfInBounds_toArray, List.set_cons_zero, List.set_cons_succ]
          refine wpAnyH_take (i := 20) (v := ?_) (by simp only [List.getElem?_toArray, List.getElem?_cons_succ, List.getElem?_cons_zero]; rfl) (by kernel_rfl) (by kernel_rfl) (by kernel_rfl) (by intro _ _ _ h; exact h) (Or.inl ⟨by rfl, ?_⟩) (by assumption) ?_
          rotate_left
          · (intro w hSw; (try dsimp only at hSw); go_simp <;> with_reducible rfl)
          try simp only [Act.put, List.setIfInBounds_toArray, List.set_cons_zero, List.set_cons_succ]
          refine wpAnyH_done (by kernel_rfl) ?_ _
          clear hHeld
          have c1x : (convert 45 9 (.slice (some ⟨g1, 0, none⟩) l.size e1x)).run Try.prog w10 = .ok (.string (strN l.size l.f)) w10 := (HG1.out.up (HUd.out.trans HUz.out)).conv
          have c2x : (convert 45 9 (.slice (some ⟨g2, 0, none⟩) l2.size e2x)).run Try.prog w10 = .ok (.string (strN l.size l.f)) w10 := by
            have h := HG2.out.conv
            have e : strN l2.size l2.f = strN l.size l.f := by rw [HEs.out.1, HEs.out.2]
            rw [e] at h
            exact h
          have hse : (strN l.size l.f == strN l.size l.f) = true := str_self _
          clear HS1 HS2 HL1 HL2 HG1 HG2 HUd HUz
          generalize strN l.size l.f = str at *
          go_wp2_with fail
          go_round
          case rel => exact ⟨k + 1, by omega, by go_num, M0⟩
          case measure => simp [intOf]; omega
        · have d1 : ¬ (k : Int) < (hl.length : Int) := by omega
          go_wp2_with fail
          go_round
          case rel => exact ⟨i + 1, by omega, by omega, by go_num, (HT8.out.more M0.out).t4 en⟩
          case measure => simp [intOf]; omega
    · by_cases hs : i < sl
      · have e1 : (i : Int) < (sl : Int) := by omega
        have e2 : ¬ (i : Int) < 80 := by omega
        go_wp2_with fail
        go_ret
        exact ⟨by first | rfl | (simp; done), H4.out.up⟩
      · have e1 : ¬ (i : Int) < (sl : Int) := by omega
        go_wp2_with fail
        go_ret
        exact ⟨by first | rfl | (simp; done), H4.out.up⟩
end Go.Proofs.Ythdfcbckipgehaa
