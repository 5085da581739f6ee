import Derived.Test.YthdfcbckipgehaaMtA
/- ArenaApart: the walk. -/
namespace Go.Proofs.Ythdfcbckipgehaa
open Go.RowKit
set_option linter.unusedVariables false
set_option linter.unusedSimpArgs false
variable {W : World}
set_option maxRecDepth 100000 in
set_option maxHeartbeats 1000000 in
theorem apart_walk (HA0 : ActsAny) {sa : Option Addr} {sb so sl sc : Nat} {f : Nat → Nat → Int} {q0 n0 : Int} (D : Act6s W sa sb so sl sc f) (hq : I64 q0) (hm : I64 n0) :
    Calls Try.prog 9 #[.slice sa sl sc, .int .i64 q0, .int .i64 n0] W fun e w' => e = .returned (.bool true) ∧ Up W w' := by
  have l1 := D.lc
  have l2 : sc ≤ 9223372036854775807 := by have := D.cm; unfold maxLen at this; omega
  have HPq : Hid (∀ W, Calls Try.prog 11 #[.int .i64 q0, .int .i64 90] W fun e w' => e = .returned (.int .i64 (pickI q0 90)) ∧ w' = W) := fun W => pick_any q0 90 W hq (by decide) (by decide)
  have HPn : Hid (∀ W, Calls Try.prog 11 #[.int .i64 n0, .int .i64 6] W fun e w' => e = .returned (.int .i64 (pickI n0 6)) ∧ w' = W) := fun W => pick_any n0 6 W hm (by decide) (by decide)
  have HPw : Hid (∀ k W, Calls Try.prog 11 #[.int .i64 (f k 1), .int .i64 4] W fun e w' => e = .returned (.int .i64 (pickI (f k 1) 4)) ∧ w' = W) := fun k W => pick_any (f k 1) 4 W (D.i64 k 1) (by decide) (by decide)
  have q1 := pickI_lo q0 90 (by decide)
  have q2 := pickI_hi q0 90 (by decide)
  have n1 := pickI_lo n0 6 (by decide)
  have n2 := pickI_hi n0 6 (by decide)
  generalize pickI q0 90 = q at *
  generalize pickI n0 6 = NI at *
  obtain ⟨m, rfl⟩ := Int.eq_ofNat_of_zero_le n1
  have HD : Hid (Act6s W sa sb so sl sc f) := D
  have HA : Hid ActsAny := HA0
  have HH : Hid (Calls Try.prog 22 #[.int .i64 ((1 : Int) + (m : Int)), .int .i64 q] W fun e w' => ∃ pb V K, e = .returned (.tuple #[.pointer (some ⟨pb, 0, none⟩), V, .bool true]) ∧ Hs W K pb (1 + m) q V 4 4 w') := by
    have e : (1 : Int) + (m : Int) = ((1 + m : Nat) : Int) := by omega
    rw [e]
    exact house_ok (by omega) ⟨by omega, by omega⟩ q1
  clear D hq hm HA0
  go_enter Try.func9, Try.ntmps9
  go_wp2_with fail
  refine (HPq.out _).mono ?_
  rintro e w1 ⟨rfl, hw⟩
  obtain rfl := hw.symm
  clear hw
  go_wp2_with fail
  refine (HPn.out _).mono ?_
  rintro e w2 ⟨rfl, hw⟩
  obtain rfl := hw.symm
  clear hw
  go_wp2_with fail
  refine Calls.mono HH.out ?_
  rintro e w3 ⟨pb, V, K, rfl, h3⟩
  obtain ⟨lg, cap, P, rfl, c1, p1, p2⟩ := Fp.house h3
  have c0 : 4 ≤ cap := by
    obtain ⟨_, _, _, h, _⟩ := p2
    exact h
  have H3 : Hid (F4 W pb (1 + m) q lg cap w3) := ⟨K, P, _, p1, p2⟩
  clear h3 p1 p2 HH HPq HPn
  go_wp2_with fail
  go_loopw [10, 11] (fun _ I wr => ∃ i : Nat, i ≤ sl ∧ i ≤ 80 ∧ I = .int .i64 (i : Int) ∧ Hid (F4 W pb (1 + m) q lg cap wr)) (fun _ I _ => 80 - (intOf I).toNat)
  case atStart => exact ⟨0, Nat.zero_le _, Nat.zero_le _, rfl, H3⟩
  case round =>
    obtain ⟨i, hi, hi8, rfl, H4⟩ := hrel
    clear H3
    by_cases hlt : i < sl ∧ i < 80
    · obtain ⟨hlt, hl8⟩ := hlt
      have e1 : (i : Int) < (sl : Int) := by omega
      have e2 : (i : Int) < 80 := by omega
      obtain rfl := HD.out.ad (by omega)
      have HU : Hid (Up W wr) := H4.out.up
      have k1 := cell_up HU.out (HD.out.cell i hlt 1 (by decide))
      have HR2 : Hid _ := HD.out.range HU.out hlt
      have r1 := pickI_lo (f i 1) 4 (by decide)
      have r2 := pickI_hi (f i 1) 4 (by decide)
      have HPi : Hid _ := HPw.out i
      clear HPw
      generalize pickI (f i 1) 4 = wI at *
      obtain ⟨c, rfl⟩ := Int.eq_ofNat_of_zero_le r1
      have hc4 : c < 4 := by omega
      obtain ⟨lv, bv, hr1, ha⟩ := H4.out.acted HA.out q1 (by omega) hc4 (who := f i 1) (HD.out.i64 i 0) (HD.out.i64 i 2) (HD.out.i64 i 3) (HD.out.i64 i 4) (HD.out.i64 i 5)
      have HR1 : Hid _ := hr1
      have HAc : Hid _ := ha
      clear hr1 ha H4
      go_wp2_with fail
      refine (HPi.out _).mono ?_
      rintro e w' ⟨rfl, hw'⟩
      obtain rfl := hw'.symm
      clear hw' HPi k1
      have HRa : Hid (∀ w2, Up wr w2 → w2.rangeAt lg (c * 3) [.int .i64 (c : Int), lv, bv]) := fun w2 u k v hk => cell_up u (HR1.out k v hk)
      go_wp2_with fail
      refine wp_region_held_drew (S := fun w => w.rangeAt lg (c * 3) [.int .i64 (c : Int), lv, bv] ∧ w.rangeAt sb (so + i * 6) [.int .i64 (f i 0), .int .i64 (f i 1), .int .i64 (f i 2), .int .i64 (f i 3), .int .i64 (f i 4), .int .i64 (f i 5)]) (by kernel_rfl) ?_ (fun hHeld => ?_)
      · exact ⟨HRa.out _ (Up.refl wr).drew, HD.out.range (HU.out.trans (Up.refl wr).drew) hlt⟩
      have u6 : Up wr wr.drew := (Up.refl wr).drew
      generalize World.drew wr = wd at u6 hHeld ⊢
      refine wpAnyH_take (i := 0) (v := ?_) (by simp only [List.getElem?_toArray, List.getElem?_cons_zero]; rfl) (by kernel_rfl) (by kernel_rfl) (by kernel_rfl) (by intro _ _ _ h; exact h) (Or.inl ⟨by rfl, ?_⟩) (by assumption) ?_
      rotate_left
      · (intro w hSw; (try dsimp only at hSw); go_simp <;> with_reducible rfl)
      try simp only [Act.put, List.setIfInBounds_toArray, List.set_cons_zero, List.set_cons_succ]
      refine wpAnyH_take (i := 1) (v := ?_) (by simp only [List.getElem?_toArray, List.getElem?_cons_succ, List.getElem?_cons_zero]; rfl) (by kernel_rfl) (by kernel_rfl) (by kernel_rfl) (by intro _ _ _ h; exact h) (Or.inl ⟨by rfl, ?_⟩) (by assumption) ?_
      rotate_left
      · (intro w hSw; (try dsimp only at hSw); go_simp <;> with_reducible rfl)
      try simp only [Act.put, List.setIfInBounds_toArray, List.set_cons_zero, List.set_cons_succ]
      refine wpAnyH_take (i := 2) (v := ?_) (by simp only [List.getElem?_toArray, List.getElem?_cons_succ, List.getElem?_cons_zero]; rfl) (by kernel_rfl) (by kernel_rfl) (by kernel_rfl) (by intro _ _ _ h; exact h) (Or.inl ⟨by rfl, ?_⟩) (by assumption) ?_
      rotate_left
      · (intro w hSw; (try dsimp only at hSw); go_simp <;> with_reducible rfl)
      try simp only [Act.put, List.setIfInBounds_toArray, List.set_cons_zero, List.set_cons_succ]
      refine wpAnyH_take (i := 3) (v := ?_) (by simp only [List.getElem?_toArray, List.getElem?_cons_succ, List.getElem?_cons_zero]; rfl) (by kernel_rfl) (by kernel_rfl) (by kernel_rfl) (by intro _ _ _ h; exact h) (Or.inl ⟨by rfl, ?_⟩) (by assumption) ?_
      rotate_left
      · (intro w hSw; (try dsimp only at hSw); go_simp <;> with_reducible rfl)
      try simp only [Act.put, List.setIfInBounds_toArray, List.set_cons_zero, List.set_cons_succ]
      refine wpAnyH_take (i := 4) (v := .agg [.int .i64 (c : Int), lv, bv].toArray) (by simp only [List.getElem?_toArray, List.getElem?_cons_succ, List.getElem?_cons_zero]; rfl) (by kernel_rfl) (by kernel_rfl) (by kernel_rfl) (by intro _ _ _ h; exact h) (yieldsIf_load_mid (by rfl) 56 _ rfl lg (c * 3) rfl [.int .i64 (c : Int), lv, bv] _ (fun w hw => hw.1) Try.underlying56 rfl (by kernel_rfl)) (by assumption) ?_
      simp only [Act.put, List.setIfInBounds_toArray, List.set_cons_zero, List.set_cons_succ]
      refine wpAnyH_take (i := 5) (v := ?_) (by simp only [List.getElem?_toArray, List.getElem?_cons_succ, List.getElem?_cons_zero]; rfl) (by kernel_rfl) (by kernel_rfl) (by kernel_rfl) (by intro _ _ _ h; exact h) (Or.inl ⟨by rfl, ?_⟩) (by assumption) ?_
      rotate_left
      · (intro w hSw; (try dsimp only at hSw); go_simp <;> with_reducible rfl)
      try simp only [Act.put, List.setIfInBounds_toArray, List.set_cons_zero, List.set_cons_succ]
      refine wpAnyH_take (i := 6) (v := ?_) (by simp only [List.getElem?_toArray, List.getElem?_cons_succ, List.getElem?_cons_zero]; rfl) (by kernel_rfl) (by kernel_rfl) (by kernel_rfl) (by intro _ _ _ h; exact h) (Or.inl ⟨by rfl, ?_⟩) (by assumption) ?_
      rotate_left
      · (intro w hSw; (try dsimp only at hSw); go_simp <;> with_reducible rfl)
      try simp only [Act.put, List.setIfInBounds_toArray, List.set_cons_zero, List.set_cons_succ]
      refine wpAnyH_take (i := 7) (v := ?_) (by simp only [List.getElem?_toArray, List.getElem?_cons_succ, List.getElem?_cons_zero]; rfl) (by kernel_rfl) (by kernel_rfl) (by kernel_rfl) (by intro _ _ _ h; exact h) (Or.inl ⟨by rfl, ?_⟩) (by assumption) ?_
      rotate_left
      · (intro w hSw; (try dsimp only at hSw); go_simp <;> with_reducible rfl)
      try simp only [Act.put, List.setIfInBounds_toArray, List.set_cons_zero, List.set_cons_succ]
      refine wpAnyH_take (i := 8) (v := .agg [.int .i64 (f i 0), .int .i64 (f i 1), .int .i64 (f i 2), .int .i64 (f i 3), .int .i64 (f i 4), .int .i64 (f i 5)].toArray) (by simp only [List.getElem?_toArray, List.getElem?_cons_succ, List.getElem?_cons_zero]; rfl) (by kernel_rfl) (by kernel_rfl) (by kernel_rfl) (by intro _ _ _ h; exact h) (yieldsIf_load_mid (by rfl) 60 _ rfl sb (so + i * 6) rfl [.int .i64 (f i 0), .int .i64 (f i 1), .int .i64 (f i 2), .int .i64 (f i 3), .int .i64 (f i 4), .int .i64 (f i 5)] _ (fun w hw => hw.2) Try.underlying60 rfl (by kernel_rfl)) (by assumption) ?_
      simp only [Act.put, List.setIfInBounds_toArray, List.set_cons_zero, List.set_cons_succ]
      refine wpAnyH_take (i := 9) (v := ?_) (by simp only [List.getElem?_toArray, List.getElem?_cons_succ, List.getElem?_cons_zero]; rfl) (by kernel_rfl) (by kernel_rfl) (by kernel_rfl) (by intro _ _ _ h; exact h) (Or.inl ⟨by rfl, ?_⟩) (by assumption) ?_
      rotate_left
      · (intro w hSw; (try dsimp only at hSw); go_simp <;> with_reducible rfl)
      try simp only [Act.put, List.setIfInBounds_toArray, List.set_cons_zero, List.set_cons_succ]
      refine wpAnyH_ready (rs := [10, 14]) (by kernel_rfl) (by simp) ?_
      refine AllReadyH.cons (by simp only [List.getElem?_toArray, List.getElem?_cons_succ, List.getElem?_cons_zero]; rfl) (fun KK hK => ?_) (AllReadyH.cons (by simp only [List.getElem?_toArray, List.getElem?_cons_succ, List.getElem?_cons_zero]; rfl) (fun KK hK => ?_) AllReadyH.nil)
      · skip
        go_simp
        refine (HAc.out wd u6).mono ?_
        rintro e w4 ⟨a1, m1, d1, a2, m2, d2, rfl, z1, z2, z3⟩
        have H5 : Hid (∀ g w3, wr.heap.size ≤ g → (g < wd.heap.size ∨ w4.heap.size ≤ g) → Fr g w4 w3 → Up W w3 ∧ w3.rangeAt lg (c * 3) [.int .i64 (c : Int), lv, bv] ∧ w3.there lg (c * 3) 3 ∧ F4 W pb (1 + m) q lg cap (w3.setCells lg (c * 3) [.int .i64 (c : Int), .slice a1 m1 d1, .slice a2 m2 d2])) := z3
        have H6 : Hid (wd.heap.size ≤ w4.heap.size ∧ ∀ b, wr.heap.size ≤ b → b < wd.heap.size → w4.heap[b]? = wd.heap[b]?) := ⟨z1, z2⟩
        clear z1 z2 z3
        have g0 := H5.out w4.heap.size w4 (Nat.le_trans u6.size H6.out.1) (Or.inr (Nat.le_refl _)) (Fr.refl _ _)
        refine hK.out _ _ ⟨g0.2.1, HD.out.range g0.1 hlt⟩ (fun hHeld => ?_)
        clear hK KK g0
        try simp only [Act.put, List.setIfInBounds_toArray, List.set_cons_zero, List.set_cons_succ]
        refine wpAnyH_take (i := 11) (v := ?_) (by simp only [List.getElem?_toArray, List.getElem?_cons_succ, List.getElem?_cons_zero]; rfl) (by kernel_rfl) (by kernel_rfl) (by kernel_rfl) (by intro _ _ _ h; exact h) (Or.inl ⟨by rfl, ?_⟩) (by assumption) ?_
        rotate_left
        · (intro w hSw; (try dsimp only at hSw); go_simp <;> with_reducible rfl)
        try simp only [Act.put, List.setIfInBounds_toArray, List.set_cons_zero, List.set_cons_succ]
        refine wpAnyH_take (i := 12) (v := ?_) (by simp only [List.getElem?_toArray, List.getElem?_cons_succ, List.getElem?_cons_zero]; rfl) (by kernel_rfl) (by kernel_rfl) (by kernel_rfl) (by intro _ _ _ h; exact h) (Or.inl ⟨by rfl, ?_⟩) (by assumption) ?_
        rotate_left
        · (intro w hSw; (try dsimp only at hSw); go_simp <;> with_reducible rfl)
        try simp only [Act.put, List.setIfInBounds_toArray, List.set_cons_zero, List.set_cons_succ]
        refine wpAnyH_take (i := 13) (v := ?_) (by simp only [List.getElem?_toArray, List.getElem?_cons_succ, List.getElem?_cons_zero]; rfl) (by kernel_rfl) (by kernel_rfl) (by kernel_rfl) (by intro _ _ _ h; exact h) (Or.inl ⟨by rfl, ?_⟩) (by assumption) ?_
        rotate_left
        · (intro w hSw; (try dsimp only at hSw); go_simp <;> with_reducible rfl)
        try simp only [Act.put, List.setIfInBounds_toArray, List.set_cons_zero, List.set_cons_succ]
        refine wpAnyH_ready (rs := [14]) (by kernel_rfl) (by simp) ?_
        refine AllReadyH.cons (by simp only [List.getElem?_toArray, List.getElem?_cons_succ, List.getElem?_cons_zero]; rfl) (fun KK hK => ?_) AllReadyH.nil
        go_simp
        have HB4 := heap_alloc_new w4 (Obj.cells #[.int .i64 0, .slice none 0 0, .slice none 0 0] 56)
        have g0 := H5.out w4.heap.size _ (Nat.le_trans u6.size H6.out.1) (Or.inr (Nat.le_refl _)) (Fr.ofUp ((Up.refl w4).alloc (Obj.cells #[.int .i64 0, .slice none 0 0, .slice none 0 0] 56)))
        refine hK.out _ _ ⟨g0.2.1, HD.out.range g0.1 hlt⟩ (fun hHeld => ?_)
        clear hK KK g0
        try simp only [Act.put, List.setIfInBounds_toArray, List.set_cons_zero, List.set_cons_succ]
        have GB : Hid (wr.heap.size ≤ w4.heap.size ∧ (w4.heap.size < wd.heap.size ∨ w4.heap.size ≤ w4.heap.size)) := ⟨Nat.le_trans u6.size H6.out.1, Or.inr (Nat.le_refl _)⟩
        refine wpAnyH_ready (rs := [15]) (by kernel_rfl) (by simp) ?_
        refine AllReadyH.cons (by simp only [List.getElem?_toArray, List.getElem?_cons_succ, List.getElem?_cons_zero]; rfl) (fun KK hK => ?_) AllReadyH.nil
        rw [if_pos (by rfl)]
        have HB5 : Hid ((w4.alloc (Obj.cells #[.int .i64 0, .slice none 0 0, .slice none 0 0] 56)).heap[w4.heap.size]? = some (.cells #[.int .i64 0, .slice none 0 0, .slice none 0 0] 56 (0, 0))) := HB4
        refine wp_store_mid 56 _ _ rfl w4.heap.size 0 #[.int .i64 (c : Int), .slice a1 m1 d1, .slice a2 m2 d2] rfl rfl (there3 HB5.out) (by kernel_rfl) (by simp [Value.oneCell']) ?_
        have fr : Fr (w4.heap.size) w4 ((w4.alloc (Obj.cells #[.int .i64 0, .slice none 0 0, .slice none 0 0] 56)).setCells (w4.heap.size) 0 [.int .i64 (c : Int), .slice a1 m1 d1, .slice a2 m2 d2]) := (Fr.ofUp ((Up.refl w4).alloc (Obj.cells #[.int .i64 0, .slice none 0 0, .slice none 0 0] 56))).trans (fr_setCells _ _ 0 _)
        have hrb : ((w4.alloc (Obj.cells #[.int .i64 0, .slice none 0 0, .slice none 0 0] 56)).setCells (w4.heap.size) 0 [.int .i64 (c : Int), .slice a1 m1 d1, .slice a2 m2 d2]).heap[w4.heap.size]? = some (.cells #[.int .i64 (c : Int), .slice a1 m1 d1, .slice a2 m2 d2] 56 (0, 0)) := heap_setCells_same _ _ _ 0 _ (w4.alloc (Obj.cells #[.int .i64 0, .slice none 0 0, .slice none 0 0] 56)) HB5.out
        have h9 := H5.out _ _ GB.out.1 GB.out.2 fr
        have HB : Hid _ := hrb
        have HT : Hid (((w4.alloc (Obj.cells #[.int .i64 0, .slice none 0 0, .slice none 0 0] 56)).setCells (w4.heap.size) 0 [.int .i64 (c : Int), .slice a1 m1 d1, .slice a2 m2 d2]).there lg (c * 3) 3) := h9.2.2.1
        have HF : Hid (F4 W pb (1 + m) q lg cap (((w4.alloc (Obj.cells #[.int .i64 0, .slice none 0 0, .slice none 0 0] 56)).setCells (w4.heap.size) 0 [.int .i64 (c : Int), .slice a1 m1 d1, .slice a2 m2 d2]).setCells lg (c * 3) [.int .i64 (c : Int), .slice a1 m1 d1, .slice a2 m2 d2])) := h9.2.2.2
        have HS9 : Hid _ := And.intro h9.2.1 (HD.out.range h9.1 hlt)
        refine hK.out _ _ HS9.out (fun hHeld => ?_)
        clear hK KK
        try simp only [Act.put, List.setIfInBounds_toArray, List.set_cons_zero, List.set_cons_succ]
        refine wpAnyH_take (i := 16) (v := ?_) (by simp only [List.getElem?_toArray, List.getElem?_cons_succ, List.getElem?_cons_zero]; rfl) (by kernel_rfl) (by kernel_rfl) (by kernel_rfl) (by intro _ _ _ h; exact h) (Or.inl ⟨by rfl, ?_⟩) (by assumption) ?_
        rotate_left
        · (intro w hSw; (try dsimp only at hSw); go_simp <;> with_reducible rfl)
        try simp only [Act.put, List.setIfInBounds_toArray, List.set_cons_zero, List.set_cons_succ]
        refine wpAnyH_done (by kernel_rfl) ?_ _
        clear hHeld HS9 h9 hrb fr HB5 HB4 H5 H6 HAc HR1 HR2 GB
        generalize World.setCells (w4.alloc (Obj.cells #[.int .i64 0, .slice none 0 0, .slice none 0 0] 56)) w4.heap.size 0 _ = wz at HB HT HF ⊢
        generalize w4.heap.size = nz at HB ⊢
        have HRn : Hid (wz.rangeAt nz 0 [.int .i64 (c : Int), .slice a1 m1 d1, .slice a2 m2 d2]) := range3 (heap_cell HB.out rfl) (heap_cell HB.out rfl) (heap_cell HB.out rfl)
        clear HB
        go_wp2_with (first | refine wpList_load_mid rfl 56 _ rfl nz 0 rfl [.int .i64 (c : Int), .slice a1 m1 d1, .slice a2 m2 d2] _ HRn.out Try.underlying56 rfl (by kernel_rfl) ?_ | (refine wpList_store_mid rfl 56 _ _ rfl lg (c * 3) #[.int .i64 (c : Int), .slice a1 m1 d1, .slice a2 m2 d2] rfl rfl HT.out (by kernel_rfl) (by simp [Value.oneCell']) ?_; generalize World.setCells _ lg (c * 3) _ = w5 at HF ⊢))
        clear HRn HT
        go_loopw [10, 15] (fun _ J ws => ∃ k : Nat, k ≤ 4 ∧ J = .int .i64 (k : Int) ∧ Hid (F4 W pb (1 + m) q lg cap ws)) (fun _ J _ => 4 - (intOf J).toNat)
        case atStart => exact ⟨0, Nat.zero_le _, rfl, HF⟩
        case round =>
          obtain ⟨k, hk, rfl, H7⟩ := hrel
          clear HF
          by_cases hk4 : k < 4
          · have e3 : (k : Int) < 4 := by omega
            obtain ⟨lv2, bv2, hr, hh⟩ := H7.out.row hk4
            have HR : Hid _ := hr
            have HO : Hid _ := hh
            clear hr hh
            go_wp2_with (refine wpList_load_mid rfl 56 _ rfl lg (k * 3) rfl [.int .i64 (k : Int), lv2, bv2] _ HR.out Try.underlying56 rfl (by kernel_rfl) ?_)
            refine (HO.out _ (Up.refl _)).mono ?_
            rintro e w8 ⟨rfl, u8⟩
            have H8 : Hid (F4 W pb (1 + m) q lg cap w8) := H7.out.more u8
            clear u8 H7 HR HO
            go_wp2_with fail
            go_round
            case rel => exact ⟨k + 1, by omega, by go_num, H8⟩
            case measure => simp [intOf]; omega
          · have e3 : ¬ (k : Int) < 4 := by omega
            go_wp2_with fail
            go_round
            case rel => exact ⟨i + 1, by omega, by omega, by go_num, H7⟩
            case measure => simp [intOf]; omega
      · skip
        go_simp
        have HB3 := heap_alloc_new wd (Obj.cells #[.int .i64 0, .slice none 0 0, .slice none 0 0] 56)
        have uz : Up wr (wd.alloc (Obj.cells #[.int .i64 0, .slice none 0 0, .slice none 0 0] 56)) := u6.alloc _
        have hsz : (wd.alloc (Obj.cells #[.int .i64 0, .slice none 0 0, .slice none 0 0] 56)).heap.size = wd.heap.size + 1 := by simp
        refine hK.out _ _ ⟨HRa.out _ uz, HD.out.range (HU.out.trans uz) hlt⟩ (fun hHeld => ?_)
        clear hK KK
        try simp only [Act.put, List.setIfInBounds_toArray, List.set_cons_zero, List.set_cons_succ]
        have H3 : Hid ((World.heap (wd.alloc (Obj.cells #[.int .i64 0, .slice none 0 0, .slice none 0 0] 56)))[wd.heap.size]? = some (.cells #[.int .i64 0, .slice none 0 0, .slice none 0 0] 56 (0, 0))) := HB3
        clear HB3
        obtain ⟨nb, hnb⟩ : ∃ nb, nb = wd.heap.size := ⟨_, rfl⟩
        generalize World.alloc wd _ = wa at uz hsz H3 ⊢
        refine wpAnyH_ready (rs := [10]) (by kernel_rfl) (by simp) ?_
        refine AllReadyH.cons (by simp only [List.getElem?_toArray, List.getElem?_cons_succ, List.getElem?_cons_zero]; rfl) (fun KK hK => ?_) AllReadyH.nil
        go_simp
        refine (HAc.out wa uz).mono ?_
        rintro e w4 ⟨a1, m1, d1, a2, m2, d2, rfl, z1, z2, z3⟩
        have H5 : Hid (∀ g w3, wr.heap.size ≤ g → (g < wa.heap.size ∨ w4.heap.size ≤ g) → Fr g w4 w3 → Up W w3 ∧ w3.rangeAt lg (c * 3) [.int .i64 (c : Int), lv, bv] ∧ w3.there lg (c * 3) 3 ∧ F4 W pb (1 + m) q lg cap (w3.setCells lg (c * 3) [.int .i64 (c : Int), .slice a1 m1 d1, .slice a2 m2 d2])) := z3
        have H6 : Hid (wa.heap.size ≤ w4.heap.size ∧ ∀ b, wr.heap.size ≤ b → b < wa.heap.size → w4.heap[b]? = wa.heap[b]?) := ⟨z1, z2⟩
        clear z1 z2 z3
        have g0 := H5.out w4.heap.size w4 (Nat.le_trans uz.size H6.out.1) (Or.inr (Nat.le_refl _)) (Fr.refl _ _)
        refine hK.out _ _ ⟨g0.2.1, HD.out.range g0.1 hlt⟩ (fun hHeld => ?_)
        clear hK KK g0
        try simp only [Act.put, List.setIfInBounds_toArray, List.set_cons_zero, List.set_cons_succ]
        refine wpAnyH_take (i := 11) (v := ?_) (by simp only [List.getElem?_toArray, List.getElem?_cons_succ, List.getElem?_cons_zero]; rfl) (by kernel_rfl) (by kernel_rfl) (by kernel_rfl) (by intro _ _ _ h; exact h) (Or.inl ⟨by rfl, ?_⟩) (by assumption) ?_
        rotate_left
        · (intro w hSw; (try dsimp only at hSw); go_simp <;> with_reducible rfl)
        try simp only [Act.put, List.setIfInBounds_toArray, List.set_cons_zero, List.set_cons_succ]
        refine wpAnyH_take (i := 12) (v := ?_) (by simp only [List.getElem?_toArray, List.getElem?_cons_succ, List.getElem?_cons_zero]; rfl) (by kernel_rfl) (by kernel_rfl) (by kernel_rfl) (by intro _ _ _ h; exact h) (Or.inl ⟨by rfl, ?_⟩) (by assumption) ?_
        rotate_left
        · (intro w hSw; (try dsimp only at hSw); go_simp <;> with_reducible rfl)
        try simp only [Act.put, List.setIfInBounds_toArray, List.set_cons_zero, List.set_cons_succ]
        refine wpAnyH_take (i := 13) (v := ?_) (by simp only [List.getElem?_toArray, List.getElem?_cons_succ, List.getElem?_cons_zero]; rfl) (by kernel_rfl) (by kernel_rfl) (by kernel_rfl) (by intro _ _ _ h; exact h) (Or.inl ⟨by rfl, ?_⟩) (by assumption) ?_
        rotate_left
        · (intro w hSw; (try dsimp only at hSw); go_simp <;> with_reducible rfl)
        try simp only [Act.put, List.setIfInBounds_toArray, List.set_cons_zero, List.set_cons_succ]
        have HB4 := (H6.out.2 wd.heap.size u6.size (by rw [hsz]; omega)).trans H3.out
        have GB : Hid (wr.heap.size ≤ wd.heap.size ∧ (wd.heap.size < wa.heap.size ∨ w4.heap.size ≤ wd.heap.size)) := ⟨u6.size, Or.inl (by rw [hsz]; omega)⟩
        refine wpAnyH_ready (rs := [15]) (by kernel_rfl) (by simp) ?_
        refine AllReadyH.cons (by simp only [List.getElem?_toArray, List.getElem?_cons_succ, List.getElem?_cons_zero]; rfl) (fun KK hK => ?_) AllReadyH.nil
        rw [if_pos (by rfl)]
        have HB5 : Hid (w4.heap[wd.heap.size]? = some (.cells #[.int .i64 0, .slice none 0 0, .slice none 0 0] 56 (0, 0))) := HB4
        refine wp_store_mid 56 _ _ rfl wd.heap.size 0 #[.int .i64 (c : Int), .slice a1 m1 d1, .slice a2 m2 d2] rfl rfl (there3 HB5.out) (by kernel_rfl) (by simp [Value.oneCell']) ?_
        have fr : Fr (wd.heap.size) w4 (w4.setCells (wd.heap.size) 0 [.int .i64 (c : Int), .slice a1 m1 d1, .slice a2 m2 d2]) := (Fr.refl _ _).trans (fr_setCells _ _ 0 _)
        have hrb : (w4.setCells (wd.heap.size) 0 [.int .i64 (c : Int), .slice a1 m1 d1, .slice a2 m2 d2]).heap[wd.heap.size]? = some (.cells #[.int .i64 (c : Int), .slice a1 m1 d1, .slice a2 m2 d2] 56 (0, 0)) := heap_setCells_same _ _ _ 0 _ w4 HB5.out
        have h9 := H5.out _ _ GB.out.1 GB.out.2 fr
        have HB : Hid _ := hrb
        have HT : Hid ((w4.setCells (wd.heap.size) 0 [.int .i64 (c : Int), .slice a1 m1 d1, .slice a2 m2 d2]).there lg (c * 3) 3) := h9.2.2.1
        have HF : Hid (F4 W pb (1 + m) q lg cap ((w4.setCells (wd.heap.size) 0 [.int .i64 (c : Int), .slice a1 m1 d1, .slice a2 m2 d2]).setCells lg (c * 3) [.int .i64 (c : Int), .slice a1 m1 d1, .slice a2 m2 d2])) := h9.2.2.2
        have HS9 : Hid _ := And.intro h9.2.1 (HD.out.range h9.1 hlt)
        refine hK.out _ _ HS9.out (fun hHeld => ?_)
        clear hK KK
        try simp only [Act.put, List.setIfInBounds_toArray, List.set_cons_zero, List.set_cons_succ]
        refine wpAnyH_take (i := 16) (v := ?_) (by simp only [List.getElem?_toArray, List.getElem?_cons_succ, List.getElem?_cons_zero]; rfl) (by kernel_rfl) (by kernel_rfl) (by kernel_rfl) (by intro _ _ _ h; exact h) (Or.inl ⟨by rfl, ?_⟩) (by assumption) ?_
        rotate_left
        · (intro w hSw; (try dsimp only at hSw); go_simp <;> with_reducible rfl)
        try simp only [Act.put, List.setIfInBounds_toArray, List.set_cons_zero, List.set_cons_succ]
        refine wpAnyH_done (by kernel_rfl) ?_ _
        clear hHeld HS9 h9 hrb fr HB5 HB4 H5 H6 HAc HR1 HR2 GB
        generalize World.setCells w4 wd.heap.size 0 _ = wz at HB HT HF ⊢
        generalize wd.heap.size = nz at HB ⊢
        have HRn : Hid (wz.rangeAt nz 0 [.int .i64 (c : Int), .slice a1 m1 d1, .slice a2 m2 d2]) := range3 (heap_cell HB.out rfl) (heap_cell HB.out rfl) (heap_cell HB.out rfl)
        clear HB
        go_wp2_with (first | refine wpList_load_mid rfl 56 _ rfl nz 0 rfl [.int .i64 (c : Int), .slice a1 m1 d1, .slice a2 m2 d2] _ HRn.out Try.underlying56 rfl (by kernel_rfl) ?_ | (refine wpList_store_mid rfl 56 _ _ rfl lg (c * 3) #[.int .i64 (c : Int), .slice a1 m1 d1, .slice a2 m2 d2] rfl rfl HT.out (by kernel_rfl) (by simp [Value.oneCell']) ?_; generalize World.setCells _ lg (c * 3) _ = w5 at HF ⊢))
        clear HRn HT
        go_loopw [10, 15] (fun _ J ws => ∃ k : Nat, k ≤ 4 ∧ J = .int .i64 (k : Int) ∧ Hid (F4 W pb (1 + m) q lg cap ws)) (fun _ J _ => 4 - (intOf J).toNat)
        case atStart => exact ⟨0, Nat.zero_le _, rfl, HF⟩
        case round =>
          obtain ⟨k, hk, rfl, H7⟩ := hrel
          clear HF
          by_cases hk4 : k < 4
          · have e3 : (k : Int) < 4 := by omega
            obtain ⟨lv2, bv2, hr, hh⟩ := H7.out.row hk4
            have HR : Hid _ := hr
            have HO : Hid _ := hh
            clear hr hh
            go_wp2_with (refine wpList_load_mid rfl 56 _ rfl lg (k * 3) rfl [.int .i64 (k : Int), lv2, bv2] _ HR.out Try.underlying56 rfl (by kernel_rfl) ?_)
            refine (HO.out _ (Up.refl _)).mono ?_
            rintro e w8 ⟨rfl, u8⟩
            have H8 : Hid (F4 W pb (1 + m) q lg cap w8) := H7.out.more u8
            clear u8 H7 HR HO
            go_wp2_with fail
            go_round
            case rel => exact ⟨k + 1, by omega, by go_num, H8⟩
            case measure => simp [intOf]; omega
          · have e3 : ¬ (k : Int) < 4 := by omega
            go_wp2_with fail
            go_round
            case rel => exact ⟨i + 1, by omega, by omega, by go_num, H7⟩
            case measure => simp [intOf]; omega
    · by_cases hs : i < sl
      · have e1 : (i : Int) < (sl : Int) := by omega
        have e2 : ¬ (i : Int) < 80 := by omega
        go_wp2_with fail
        go_ret
        exact ⟨by first | rfl | (simp; done), H4.out.up⟩
      · have e1 : ¬ (i : Int) < (sl : Int) := by omega
        go_wp2_with fail
        go_ret
        exact ⟨by first | rfl | (simp; done), H4.out.up⟩
end Go.Proofs.Ythdfcbckipgehaa
