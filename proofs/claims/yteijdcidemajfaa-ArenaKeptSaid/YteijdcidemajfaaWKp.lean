/- ArenaKept: the walk. -/
import Derived.Test.YteijdcidemajfaaMtT
import Derived.Deep.DeepCutAuto
namespace Go.Proofs.Yteijdcidemajfaa
open Go.RowKit
set_option linter.unusedVariables false
set_option linter.unusedSimpArgs false
variable {W : World}
set_option maxRecDepth 100000 in
set_option maxHeartbeats 4000000 in
theorem kept_walk (HA0 : ActsAny) {sa : Option Addr} {sb so sl sc : Nat} {f : Nat → Nat → Int} {q0 n0 : Int} (D : Act6s W sa sb so sl sc f) (hq : I64 q0) (hm : I64 n0) :
    Calls Try.prog 8 #[.slice sa sl sc, .int .i64 q0, .int .i64 n0] W fun e w' => e = .returned (.bool true) ∧ Up W w' := by
  have l1 := D.lc
  have l2 : sc ≤ 9223372036854775807 := by have := D.cm; unfold maxLen at this; omega
  have HPq : Hid (∀ W, Calls Try.prog 11 #[.int .i64 q0, .int .i64 200] W fun e w' => e = .returned (.int .i64 (pickI q0 200)) ∧ w' = W) := fun W => pick_any q0 200 W hq (by decide) (by decide)
  have HPn : Hid (∀ W, Calls Try.prog 11 #[.int .i64 n0, .int .i64 6] W fun e w' => e = .returned (.int .i64 (pickI n0 6)) ∧ w' = W) := fun W => pick_any n0 6 W hm (by decide) (by decide)
  have HPw : Hid (∀ k W, Calls Try.prog 11 #[.int .i64 (f k 1), .int .i64 4] W fun e w' => e = .returned (.int .i64 (pickI (f k 1) 4)) ∧ w' = W) := fun k W => pick_any (f k 1) 4 W (D.i64 k 1) (by decide) (by decide)
  have q1 := pickI_lo q0 200 (by decide)
  have q2 := pickI_hi q0 200 (by decide)
  have n1 := pickI_lo n0 6 (by decide)
  have n2 := pickI_hi n0 6 (by decide)
  generalize pickI q0 200 = q at *
  generalize pickI n0 6 = NI at *
  obtain ⟨m, rfl⟩ := Int.eq_ofNat_of_zero_le n1
  have HD : Hid (Act6s W sa sb so sl sc f) := D
  have HA : Hid ActsAny := HA0
  have HH : Hid (Calls Try.prog 22 #[.int .i64 ((1 : Int) + (m : Int)), .int .i64 q] W fun e w' => ∃ pb V K, e = .returned (.tuple #[.pointer (some ⟨pb, 0, none⟩), V, .bool true]) ∧ Hs W K pb (1 + m) q V 4 4 w') := by
    have e : (1 : Int) + (m : Int) = ((1 + m : Nat) : Int) := by omega
    rw [e]
    exact house_ok (by omega) ⟨by omega, by omega⟩ q1
  have hie : Try.prog.info? 3 = some Try.t3 := by kernel_rfl
  have hmk : ∀ w : World, (Instr.makeSlice 22 (.int .i64 ((2 : Int) * ((1 : Int) + (m : Int)))) (.int .i64 ((2 : Int) * ((1 : Int) + (m : Int))))).run Try.prog w = .ok (.slice (some ⟨w.heap.size, 0, none⟩) (2 * (1 + m)) (2 * (1 + m))) (w.alloc (.cells (madeCells #[.int .i64 0] (2 * (1 + m))) 3)) := fun w => by
    have := run_make (P := Try.prog) w 22 3 Try.t3 (.int .i64 0) Try.underlying22 (by kernel_rfl) rfl .i64 .i64 ((2 * (1 + m) : Nat) : Int) ((2 * (1 + m) : Nat) : Int) (by omega) (by omega) (by show (8 : Int) * ((2 * (1 + m) : Nat) : Int) ≤ 281474976710656; omega) (by omega)
    have e1 : (Value.int .i64 0).cells = #[Value.int .i64 0] := rfl
    have e2 : Try.t3.size = 1 := rfl
    have e3 : ((2 * (1 + m) : Nat) : Int) = (2 : Int) * ((1 : Int) + (m : Int)) := by omega
    rw [e1, e2, e3] at this
    have e4 : ((2 : Int) * ((1 : Int) + (m : Int))).toNat = 2 * (1 + m) := by omega
    rw [e4] at this
    simpa using this
  clear D hq hm HA0
  go_enter Try.func8, Try.ntmps8
  go_wp2_with fail
  refine (HPq.out _).mono ?_
  rintro e w1 ⟨rfl, hw⟩
  obtain rfl := hw.symm
  clear hw
  go_wp2_with fail
  refine (HPn.out _).mono ?_
  rintro e w2 ⟨rfl, hw⟩
  obtain rfl := hw.symm
  clear hw
  go_wp2_with fail
  refine Calls.mono HH.out ?_
  rintro e w3 ⟨pb, V, K, rfl, h3⟩
  obtain ⟨lg, cap, rfl, c0, c1, p1⟩ := K4.house h3 q1
  have H3 : Hid (K4 W pb (1 + m) q lg cap w3) := p1
  clear h3 p1 HH HPq HPn
  go_wp2_with fail
  go_loopw [12] (fun I wr => ∃ i : Nat, i ≤ sl ∧ i ≤ 120 ∧ I = .int .i64 (i : Int) ∧ Hid (K4 W pb (1 + m) q lg cap wr)) (fun I _ => 120 - (intOf I).toNat)
  case atStart => exact ⟨0, Nat.zero_le _, Nat.zero_le _, rfl, H3⟩
  case round =>
    obtain ⟨i, hi, hi8, rfl, H4⟩ := hrel
    clear H3
    by_cases hlt : i < sl ∧ i < 120
    · obtain ⟨hlt, hl8⟩ := hlt
      have e1 : (i : Int) < (sl : Int) := by omega
      have e2 : (i : Int) < 120 := by omega
      obtain rfl := HD.out.ad (by omega)
      have HU : Hid (Up W wr) := H4.out.up
      have k1 := cell_up HU.out (HD.out.cell i hlt 1 (by decide))
      have HR2 : Hid _ := HD.out.range HU.out hlt
      have r1 := pickI_lo (f i 1) 4 (by decide)
      have r2 := pickI_hi (f i 1) 4 (by decide)
      have HPi : Hid _ := HPw.out i
      clear HPw
      generalize pickI (f i 1) 4 = wI at *
      obtain ⟨c, rfl⟩ := Int.eq_ofNat_of_zero_le r1
      have hc4 : c < 4 := by omega
      obtain ⟨lv, bv, hr1, ha⟩ := H4.out.acted HA.out q1 (by omega) hc4 (who := f i 1) (HD.out.i64 i 0) (HD.out.i64 i 2) (HD.out.i64 i 3) (HD.out.i64 i 4) (HD.out.i64 i 5)
      have HR1 : Hid _ := hr1
      have HAc : Hid _ := ha
      clear hr1 ha H4
      go_wp2_with fail
      refine (HPi.out _).mono ?_
      rintro e w' ⟨rfl, hw'⟩
      obtain rfl := hw'.symm
      clear hw' HPi k1
      have HRa : Hid (∀ w2, Up wr w2 → w2.rangeAt lg (c * 3) [.int .i64 (c : Int), lv, bv]) := fun w2 u k v hk => cell_up u (HR1.out k v hk)
      go_upto_region 12 with fail
      go_cut [14, 15] (fun X Y wy => ∃ (nz : Nat) (a1 : Option Addr) (m1 d1 : Nat) (a2 : Option Addr) (m2 d2 : Nat), X = .pointer (some ⟨nz, 0, none⟩) ∧ Y = .bool true ∧ Hid (wy.rangeAt nz 0 [.int .i64 (c : Int), .slice a1 m1 d1, .slice a2 m2 d2]) ∧ Hid (wy.there lg (c * 3) 3) ∧ Hid (K4 W pb (1 + m) q lg cap (wy.setCells lg (c * 3) [.int .i64 (c : Int), .slice a1 m1 d1, .slice a2 m2 d2])))
      case first =>
        refine wp_region_held_drew (S := fun w => w.rangeAt lg (c * 3) [.int .i64 (c : Int), lv, bv] ∧ w.rangeAt sb (so + i * 6) [.int .i64 (f i 0), .int .i64 (f i 1), .int .i64 (f i 2), .int .i64 (f i 3), .int .i64 (f i 4), .int .i64 (f i 5)]) (by kernel_rfl) ?_ (fun hHeld => ?_)
        · exact ⟨HRa.out _ (Up.refl wr).drew, HD.out.range (HU.out.trans (Up.refl wr).drew) hlt⟩
        have u6 : Up wr wr.drew := (Up.refl wr).drew
        generalize World.drew wr = wd at u6 hHeld ⊢
        refine wpAnyH_take (i := 0) (v := ?_) (by simp only [List.getElem?_toArray, List.getElem?_cons_zero]; rfl) (by kernel_rfl) (by kernel_rfl) (by kernel_rfl) (by intro _ _ _ h; exact h) (Or.inl ⟨by rfl, ?_⟩) (by assumption) ?_
        rotate_left
        · (intro w hSw; (try dsimp only at hSw); go_simp <;> with_reducible rfl)
        try simp only [Act.put, List.setIfInBounds_toArray, List.set_cons_zero, List.set_cons_succ]
        refine wpAnyH_take (i := 1) (v := ?_) (by simp only [List.getElem?_toArray, List.getElem?_cons_succ, List.getElem?_cons_zero]; rfl) (by kernel_rfl) (by kernel_rfl) (by kernel_rfl) (by intro _ _ _ h; exact h) (Or.inl ⟨by rfl, ?_⟩) (by assumption) ?_
        rotate_left
        · (intro w hSw; (try dsimp only at hSw); go_simp <;> with_reducible rfl)
        try simp only [Act.put, List.setIfInBounds_toArray, List.set_cons_zero, List.set_cons_succ]
        refine wpAnyH_take (i := 2) (v := ?_) (by simp only [List.getElem?_toArray, List.getElem?_cons_succ, List.getElem?_cons_zero]; rfl) (by kernel_rfl) (by kernel_rfl) (by kernel_rfl) (by intro _ _ _ h; exact h) (Or.inl ⟨by rfl, ?_⟩) (by assumption) ?_
        rotate_left
        · (intro w hSw; (try dsimp only at hSw); go_simp <;> with_reducible rfl)
        try simp only [Act.put, List.setIfInBounds_toArray, List.set_cons_zero, List.set_cons_succ]
        refine wpAnyH_take (i := 3) (v := ?_) (by simp only [List.getElem?_toArray, List.getElem?_cons_succ, List.getElem?_cons_zero]; rfl) (by kernel_rfl) (by kernel_rfl) (by kernel_rfl) (by intro _ _ _ h; exact h) (Or.inl ⟨by rfl, ?_⟩) (by assumption) ?_
        rotate_left
        · (intro w hSw; (try dsimp only at hSw); go_simp <;> with_reducible rfl)
        try simp only [Act.put, List.setIfInBounds_toArray, List.set_cons_zero, List.set_cons_succ]
        refine wpAnyH_take (i := 4) (v := .agg [.int .i64 (c : Int), lv, bv].toArray) (by simp only [List.getElem?_toArray, List.getElem?_cons_succ, List.getElem?_cons_zero]; rfl) (by kernel_rfl) (by kernel_rfl) (by kernel_rfl) (by intro _ _ _ h; exact h) (yieldsIf_load_mid (by rfl) 56 _ rfl lg (c * 3) rfl [.int .i64 (c : Int), lv, bv] _ (fun w hw => hw.1) Try.underlying56 rfl (by kernel_rfl)) (by assumption) ?_
        simp only [Act.put, List.setIfInBounds_toArray, List.set_cons_zero, List.set_cons_succ]
        refine wpAnyH_take (i := 5) (v := ?_) (by simp only [List.getElem?_toArray, List.getElem?_cons_succ, List.getElem?_cons_zero]; rfl) (by kernel_rfl) (by kernel_rfl) (by kernel_rfl) (by intro _ _ _ h; exact h) (Or.inl ⟨by rfl, ?_⟩) (by assumption) ?_
        rotate_left
        · (intro w hSw; (try dsimp only at hSw); go_simp <;> with_reducible rfl)
        try simp only [Act.put, List.setIfInBounds_toArray, List.set_cons_zero, List.set_cons_succ]
        refine wpAnyH_take (i := 6) (v := ?_) (by simp only [List.getElem?_toArray, List.getElem?_cons_succ, List.getElem?_cons_zero]; rfl) (by kernel_rfl) (by kernel_rfl) (by kernel_rfl) (by intro _ _ _ h; exact h) (Or.inl ⟨by rfl, ?_⟩) (by assumption) ?_
        rotate_left
        · (intro w hSw; (try dsimp only at hSw); go_simp <;> with_reducible rfl)
        try simp only [Act.put, List.setIfInBounds_toArray, List.set_cons_zero, List.set_cons_succ]
        refine wpAnyH_take (i := 7) (v := ?_) (by simp only [List.getElem?_toArray, List.getElem?_cons_succ, List.getElem?_cons_zero]; rfl) (by kernel_rfl) (by kernel_rfl) (by kernel_rfl) (by intro _ _ _ h; exact h) (Or.inl ⟨by rfl, ?_⟩) (by assumption) ?_
        rotate_left
        · (intro w hSw; (try dsimp only at hSw); go_simp <;> with_reducible rfl)
        try simp only [Act.put, List.setIfInBounds_toArray, List.set_cons_zero, List.set_cons_succ]
        refine wpAnyH_take (i := 8) (v := .agg [.int .i64 (f i 0), .int .i64 (f i 1), .int .i64 (f i 2), .int .i64 (f i 3), .int .i64 (f i 4), .int .i64 (f i 5)].toArray) (by simp only [List.getElem?_toArray, List.getElem?_cons_succ, List.getElem?_cons_zero]; rfl) (by kernel_rfl) (by kernel_rfl) (by kernel_rfl) (by intro _ _ _ h; exact h) (yieldsIf_load_mid (by rfl) 60 _ rfl sb (so + i * 6) rfl [.int .i64 (f i 0), .int .i64 (f i 1), .int .i64 (f i 2), .int .i64 (f i 3), .int .i64 (f i 4), .int .i64 (f i 5)] _ (fun w hw => hw.2) Try.underlying60 rfl (by kernel_rfl)) (by assumption) ?_
        simp only [Act.put, List.setIfInBounds_toArray, List.set_cons_zero, List.set_cons_succ]
        refine wpAnyH_take (i := 9) (v := ?_) (by simp only [List.getElem?_toArray, List.getElem?_cons_succ, List.getElem?_cons_zero]; rfl) (by kernel_rfl) (by kernel_rfl) (by kernel_rfl) (by intro _ _ _ h; exact h) (Or.inl ⟨by rfl, ?_⟩) (by assumption) ?_
        rotate_left
        · (intro w hSw; (try dsimp only at hSw); go_simp <;> with_reducible rfl)
        try simp only [Act.put, List.setIfInBounds_toArray, List.set_cons_zero, List.set_cons_succ]
        refine wpAnyH_ready (rs := [10, 14]) (by kernel_rfl) (by simp) ?_
        refine AllReadyH.cons (by simp only [List.getElem?_toArray, List.getElem?_cons_succ, List.getElem?_cons_zero]; rfl) (fun KK hK => ?_) (AllReadyH.cons (by simp only [List.getElem?_toArray, List.getElem?_cons_succ, List.getElem?_cons_zero]; rfl) (fun KK hK => ?_) AllReadyH.nil)
        · skip
          go_simp
          refine (HAc.out wd u6).mono ?_
          rintro e w4 ⟨a1, m1, d1, a2, m2, d2, rfl, z1, z2, z3⟩
          have H5 : Hid (∀ g w3, wr.heap.size ≤ g → (g < wd.heap.size ∨ w4.heap.size ≤ g) → Fr g w4 w3 → Up W w3 ∧ w3.rangeAt lg (c * 3) [.int .i64 (c : Int), lv, bv] ∧ w3.there lg (c * 3) 3 ∧ K4 W pb (1 + m) q lg cap (w3.setCells lg (c * 3) [.int .i64 (c : Int), .slice a1 m1 d1, .slice a2 m2 d2])) := z3
          have H6 : Hid (wd.heap.size ≤ w4.heap.size ∧ ∀ b, wr.heap.size ≤ b → b < wd.heap.size → w4.heap[b]? = wd.heap[b]?) := ⟨z1, z2⟩
          clear z1 z2 z3
          have g0 := H5.out w4.heap.size w4 (Nat.le_trans u6.size H6.out.1) (Or.inr (Nat.le_refl _)) (Fr.refl _ _)
          refine hK.out _ _ ⟨g0.2.1, HD.out.range g0.1 hlt⟩ (fun hHeld => ?_)
          clear hK KK g0
          try simp only [Act.put, List.setIfInBounds_toArray, List.set_cons_zero, List.set_cons_succ]
          refine wpAnyH_take (i := 11) (v := ?_) (by simp only [List.getElem?_toArray, List.getElem?_cons_succ, List.getElem?_cons_zero]; rfl) (by kernel_rfl) (by kernel_rfl) (by kernel_rfl) (by intro _ _ _ h; exact h) (Or.inl ⟨by rfl, ?_⟩) (by assumption) ?_
          rotate_left
          · (intro w hSw; (try dsimp only at hSw); go_simp <;> with_reducible rfl)
          try simp only [Act.put, List.setIfInBounds_toArray, List.set_cons_zero, List.set_cons_succ]
          refine wpAnyH_take (i := 12) (v := ?_) (by simp only [List.getElem?_toArray, List.getElem?_cons_succ, List.getElem?_cons_zero]; rfl) (by kernel_rfl) (by kernel_rfl) (by kernel_rfl) (by intro _ _ _ h; exact h) (Or.inl ⟨by rfl, ?_⟩) (by assumption) ?_
          rotate_left
          · (intro w hSw; (try dsimp only at hSw); go_simp <;> with_reducible rfl)
          try simp only [Act.put, List.setIfInBounds_toArray, List.set_cons_zero, List.set_cons_succ]
          refine wpAnyH_take (i := 13) (v := ?_) (by simp only [List.getElem?_toArray, List.getElem?_cons_succ, List.getElem?_cons_zero]; rfl) (by kernel_rfl) (by kernel_rfl) (by kernel_rfl) (by intro _ _ _ h; exact h) (Or.inl ⟨by rfl, ?_⟩) (by assumption) ?_
          rotate_left
          · (intro w hSw; (try dsimp only at hSw); go_simp <;> with_reducible rfl)
          try simp only [Act.put, List.setIfInBounds_toArray, List.set_cons_zero, List.set_cons_succ]
          refine wpAnyH_ready (rs := [14]) (by kernel_rfl) (by simp) ?_
          refine AllReadyH.cons (by simp only [List.getElem?_toArray, List.getElem?_cons_succ, List.getElem?_cons_zero]; rfl) (fun KK hK => ?_) AllReadyH.nil
          go_simp
          have HB4 := heap_alloc_new w4 (Obj.cells #[.int .i64 0, .slice none 0 0, .slice none 0 0] 56)
          have g0 := H5.out w4.heap.size _ (Nat.le_trans u6.size H6.out.1) (Or.inr (Nat.le_refl _)) (Fr.ofUp ((Up.refl w4).alloc (Obj.cells #[.int .i64 0, .slice none 0 0, .slice none 0 0] 56)))
          refine hK.out _ _ ⟨g0.2.1, HD.out.range g0.1 hlt⟩ (fun hHeld => ?_)
          clear hK KK g0
          try simp only [Act.put, List.setIfInBounds_toArray, List.set_cons_zero, List.set_cons_succ]
          have GB : Hid (wr.heap.size ≤ w4.heap.size ∧ (w4.heap.size < wd.heap.size ∨ w4.heap.size ≤ w4.heap.size)) := ⟨Nat.le_trans u6.size H6.out.1, Or.inr (Nat.le_refl _)⟩
          refine wpAnyH_ready (rs := [15]) (by kernel_rfl) (by simp) ?_
          refine AllReadyH.cons (by simp only [List.getElem?_toArray, List.getElem?_cons_succ, List.getElem?_cons_zero]; rfl) (fun KK hK => ?_) AllReadyH.nil
          rw [if_pos (by rfl)]
          have HB5 : Hid ((w4.alloc (Obj.cells #[.int .i64 0, .slice none 0 0, .slice none 0 0] 56)).heap[w4.heap.size]? = some (.cells #[.int .i64 0, .slice none 0 0, .slice none 0 0] 56 (0, 0))) := HB4
          refine wp_store_mid 56 _ _ rfl w4.heap.size 0 #[.int .i64 (c : Int), .slice a1 m1 d1, .slice a2 m2 d2] rfl rfl (there3 HB5.out) (by kernel_rfl) (by simp [Value.oneCell']) ?_
          have fr : Fr (w4.heap.size) w4 ((w4.alloc (Obj.cells #[.int .i64 0, .slice none 0 0, .slice none 0 0] 56)).setCells (w4.heap.size) 0 [.int .i64 (c : Int), .slice a1 m1 d1, .slice a2 m2 d2]) := (Fr.ofUp ((Up.refl w4).alloc (Obj.cells #[.int .i64 0, .slice none 0 0, .slice none 0 0] 56))).trans (fr_setCells _ _ 0 _)
          have hrb : ((w4.alloc (Obj.cells #[.int .i64 0, .slice none 0 0, .slice none 0 0] 56)).setCells (w4.heap.size) 0 [.int .i64 (c : Int), .slice a1 m1 d1, .slice a2 m2 d2]).heap[w4.heap.size]? = some (.cells #[.int .i64 (c : Int), .slice a1 m1 d1, .slice a2 m2 d2] 56 (0, 0)) := heap_setCells_same _ _ _ 0 _ (w4.alloc (Obj.cells #[.int .i64 0, .slice none 0 0, .slice none 0 0] 56)) HB5.out
          have h9 := H5.out _ _ GB.out.1 GB.out.2 fr
          have HB : Hid _ := hrb
          have HT : Hid (((w4.alloc (Obj.cells #[.int .i64 0, .slice none 0 0, .slice none 0 0] 56)).setCells (w4.heap.size) 0 [.int .i64 (c : Int), .slice a1 m1 d1, .slice a2 m2 d2]).there lg (c * 3) 3) := h9.2.2.1
          have HF : Hid (K4 W pb (1 + m) q lg cap (((w4.alloc (Obj.cells #[.int .i64 0, .slice none 0 0, .slice none 0 0] 56)).setCells (w4.heap.size) 0 [.int .i64 (c : Int), .slice a1 m1 d1, .slice a2 m2 d2]).setCells lg (c * 3) [.int .i64 (c : Int), .slice a1 m1 d1, .slice a2 m2 d2])) := h9.2.2.2
          have HS9 : Hid _ := And.intro h9.2.1 (HD.out.range h9.1 hlt)
          refine hK.out _ _ HS9.out (fun hHeld => ?_)
          clear hK KK
          try simp only [Act.put, List.setIfInBounds_toArray, List.set_cons_zero, List.set_cons_succ]
          refine wpAnyH_take (i := 16) (v := ?_) (by simp only [List.getElem?_toArray, List.getElem?_cons_succ, List.getElem?_cons_zero]; rfl) (by kernel_rfl) (by kernel_rfl) (by kernel_rfl) (by intro _ _ _ h; exact h) (Or.inl ⟨by rfl, ?_⟩) (by assumption) ?_
          rotate_left
          · (intro w hSw; (try dsimp only at hSw); go_simp <;> with_reducible rfl)
          try simp only [Act.put, List.setIfInBounds_toArray, List.set_cons_zero, List.set_cons_succ]
          refine wpAnyH_done (by kernel_rfl) ?_ _
          first | go_meet | (go_wp2_with fail; go_meet)
          exact ⟨_, _, _, _, _, _, _, rfl, rfl, range3 (heap_cell HB.out rfl) (heap_cell HB.out rfl) (heap_cell HB.out rfl), HT, HF⟩
        · skip
          go_simp
          have HB3 := heap_alloc_new wd (Obj.cells #[.int .i64 0, .slice none 0 0, .slice none 0 0] 56)
          have uz : Up wr (wd.alloc (Obj.cells #[.int .i64 0, .slice none 0 0, .slice none 0 0] 56)) := u6.alloc _
          have hsz : (wd.alloc (Obj.cells #[.int .i64 0, .slice none 0 0, .slice none 0 0] 56)).heap.size = wd.heap.size + 1 := by simp
          refine hK.out _ _ ⟨HRa.out _ uz, HD.out.range (HU.out.trans uz) hlt⟩ (fun hHeld => ?_)
          clear hK KK
          try simp only [Act.put, List.setIfInBounds_toArray, List.set_cons_zero, List.set_cons_succ]
          have H3 : Hid ((World.heap (wd.alloc (Obj.cells #[.int .i64 0, .slice none 0 0, .slice none 0 0] 56)))[wd.heap.size]? = some (.cells #[.int .i64 0, .slice none 0 0, .slice none 0 0] 56 (0, 0))) := HB3
          clear HB3
          obtain ⟨nb, hnb⟩ : ∃ nb, nb = wd.heap.size := ⟨_, rfl⟩
          generalize World.alloc wd _ = wa at uz hsz H3 ⊢
          refine wpAnyH_ready (rs := [10]) (by kernel_rfl) (by simp) ?_
          refine AllReadyH.cons (by simp only [List.getElem?_toArray, List.getElem?_cons_succ, List.getElem?_cons_zero]; rfl) (fun KK hK => ?_) AllReadyH.nil
          go_simp
          refine (HAc.out wa uz).mono ?_
          rintro e w4 ⟨a1, m1, d1, a2, m2, d2, rfl, z1, z2, z3⟩
          have H5 : Hid (∀ g w3, wr.heap.size ≤ g → (g < wa.heap.size ∨ w4.heap.size ≤ g) → Fr g w4 w3 → Up W w3 ∧ w3.rangeAt lg (c * 3) [.int .i64 (c : Int), lv, bv] ∧ w3.there lg (c * 3) 3 ∧ K4 W pb (1 + m) q lg cap (w3.setCells lg (c * 3) [.int .i64 (c : Int), .slice a1 m1 d1, .slice a2 m2 d2])) := z3
          have H6 : Hid (wa.heap.size ≤ w4.heap.size ∧ ∀ b, wr.heap.size ≤ b → b < wa.heap.size → w4.heap[b]? = wa.heap[b]?) := ⟨z1, z2⟩
          clear z1 z2 z3
          have g0 := H5.out w4.heap.size w4 (Nat.le_trans uz.size H6.out.1) (Or.inr (Nat.le_refl _)) (Fr.refl _ _)
          refine hK.out _ _ ⟨g0.2.1, HD.out.range g0.1 hlt⟩ (fun hHeld => ?_)
          clear hK KK g0
          try simp only [Act.put, List.setIfInBounds_toArray, List.set_cons_zero, List.set_cons_succ]
          refine wpAnyH_take (i := 11) (v := ?_) (by simp only [List.getElem?_toArray, List.getElem?_cons_succ, List.getElem?_cons_zero]; rfl) (by kernel_rfl) (by kernel_rfl) (by kernel_rfl) (by intro _ _ _ h; exact h) (Or.inl ⟨by rfl, ?_⟩) (by assumption) ?_
          rotate_left
          · (intro w hSw; (try dsimp only at hSw); go_simp <;> with_reducible rfl)
          try simp only [Act.put, List.setIfInBounds_toArray, List.set_cons_zero, List.set_cons_succ]
          refine wpAnyH_take (i := 12) (v := ?_) (by simp only [List.getElem?_toArray, List.getElem?_cons_succ, List.getElem?_cons_zero]; rfl) (by kernel_rfl) (by kernel_rfl) (by kernel_rfl) (by intro _ _ _ h; exact h) (Or.inl ⟨by rfl, ?_⟩) (by assumption) ?_
          rotate_left
          · (intro w hSw; (try dsimp only at hSw); go_simp <;> with_reducible rfl)
          try simp only [Act.put, List.setIfInBounds_toArray, List.set_cons_zero, List.set_cons_succ]
          refine wpAnyH_take (i := 13) (v := ?_) (by simp only [List.getElem?_toArray, List.getElem?_cons_succ, List.getElem?_cons_zero]; rfl) (by kernel_rfl) (by kernel_rfl) (by kernel_rfl) (by intro _ _ _ h; exact h) (Or.inl ⟨by rfl, ?_⟩) (by assumption) ?_
          rotate_left
          · (intro w hSw; (try dsimp only at hSw); go_simp <;> with_reducible rfl)
          try simp only [Act.put, List.setIfInBounds_toArray, List.set_cons_zero, List.set_cons_succ]
          have HB4 := (H6.out.2 wd.heap.size u6.size (by rw [hsz]; omega)).trans H3.out
          have GB : Hid (wr.heap.size ≤ wd.heap.size ∧ (wd.heap.size < wa.heap.size ∨ w4.heap.size ≤ wd.heap.size)) := ⟨u6.size, Or.inl (by rw [hsz]; omega)⟩
          refine wpAnyH_ready (rs := [15]) (by kernel_rfl) (by simp) ?_
          refine AllReadyH.cons (by simp only [List.getElem?_toArray, List.getElem?_cons_succ, List.getElem?_cons_zero]; rfl) (fun KK hK => ?_) AllReadyH.nil
          rw [if_pos (by rfl)]
          have HB5 : Hid (w4.heap[wd.heap.size]? = some (.cells #[.int .i64 0, .slice none 0 0, .slice none 0 0] 56 (0, 0))) := HB4
          refine wp_store_mid 56 _ _ rfl wd.heap.size 0 #[.int .i64 (c : Int), .slice a1 m1 d1, .slice a2 m2 d2] rfl rfl (there3 HB5.out) (by kernel_rfl) (by simp [Value.oneCell']) ?_
          have fr : Fr (wd.heap.size) w4 (w4.setCells (wd.heap.size) 0 [.int .i64 (c : Int), .slice a1 m1 d1, .slice a2 m2 d2]) := (Fr.refl _ _).trans (fr_setCells _ _ 0 _)
          have hrb : (w4.setCells (wd.heap.size) 0 [.int .i64 (c : Int), .slice a1 m1 d1, .slice a2 m2 d2]).heap[wd.heap.size]? = some (.cells #[.int .i64 (c : Int), .slice a1 m1 d1, .slice a2 m2 d2] 56 (0, 0)) := heap_setCells_same _ _ _ 0 _ w4 HB5.out
          have h9 := H5.out _ _ GB.out.1 GB.out.2 fr
          have HB : Hid _ := hrb
          have HT : Hid ((w4.setCells (wd.heap.size) 0 [.int .i64 (c : Int), .slice a1 m1 d1, .slice a2 m2 d2]).there lg (c * 3) 3) := h9.2.2.1
          have HF : Hid (K4 W pb (1 + m) q lg cap ((w4.setCells (wd.heap.size) 0 [.int .i64 (c : Int), .slice a1 m1 d1, .slice a2 m2 d2]).setCells lg (c * 3) [.int .i64 (c : Int), .slice a1 m1 d1, .slice a2 m2 d2])) := h9.2.2.2
          have HS9 : Hid _ := And.intro h9.2.1 (HD.out.range h9.1 hlt)
          refine hK.out _ _ HS9.out (fun hHeld => ?_)
          clear hK KK
          try simp only [Act.put, List.setIfInBounds_toArray, List.set_cons_zero, List.set_cons_succ]
          refine wpAnyH_take (i := 16) (v := ?_) (by simp only [List.getElem?_toArray, List.getElem?_cons_succ, List.getElem?_cons_zero]; rfl) (by kernel_rfl) (by kernel_rfl) (by kernel_rfl) (by intro _ _ _ h; exact h) (Or.inl ⟨by rfl, ?_⟩) (by assumption) ?_
          rotate_left
          · (intro w hSw; (try dsimp only at hSw); go_simp <;> with_reducible rfl)
          try simp only [Act.put, List.setIfInBounds_toArray, List.set_cons_zero, List.set_cons_succ]
          refine wpAnyH_done (by kernel_rfl) ?_ _
          first | go_meet | (go_wp2_with fail; go_meet)
          exact ⟨_, _, _, _, _, _, _, rfl, rfl, range3 (heap_cell HB.out rfl) (heap_cell HB.out rfl) (heap_cell HB.out rfl), HT, HF⟩
      case rest =>
      obtain ⟨nz, a1, m1, d1, a2, m2, d2, rfl, rfl, HRn, HT, HF⟩ := hcut
      clear HAc HR1 HR2 HRa HU
      generalize wc = wz at HRn HT HF ⊢
      go_wp2_with (first | refine wpList_load_mid rfl 56 _ rfl nz 0 rfl [.int .i64 (c : Int), .slice a1 m1 d1, .slice a2 m2 d2] _ HRn.out Try.underlying56 rfl (by kernel_rfl) ?_ | (refine wpList_store_mid rfl 56 _ _ rfl lg (c * 3) #[.int .i64 (c : Int), .slice a1 m1 d1, .slice a2 m2 d2] rfl rfl HT.out (by kernel_rfl) (by simp [Value.oneCell']) ?_; generalize World.setCells _ lg (c * 3) _ = w5 at HF ⊢))
      clear HRn HT
      obtain ⟨F0, F1, L, ht⟩ := HF.out.tells
      have HTe : Hid (Tells w5 pb (1 + m) q lg cap F0 F1 L) := ht
      clear ht
      have hlen : (F0 ++ F1 ++ bufsTo L 4).length = 2 * (1 + m) := by rw [HTe.out.pm.length_eq, List.length_range']
      have hle : ∀ k, k ≤ 4 → (F0 ++ F1 ++ bufsTo L k).length ≤ 2 * (1 + m) := fun k hk => by
        rw [← hlen]
        simp only [List.length_append]
        have : (bufsTo L k).length ≤ (bufsTo L 4).length := by
          have h4 : k = 0 ∨ k = 1 ∨ k = 2 ∨ k = 3 ∨ k = 4 := by omega
          rcases h4 with rfl | rfl | rfl | rfl | rfl <;> simp [bufsTo] <;> omega
        omega
      have hF0 : F0.length ≤ 20 := by
        have := hle 0 (by decide)
        simp only [List.length_append] at this
        omega
      have hF1 : F0.length + F1.length ≤ 20 := by
        have := hle 0 (by decide)
        simp only [List.length_append] at this
        omega
      refine (HTe.out.f0 w5 (Up.refl _)).mono ?_
      rintro e w6 ⟨v, rfl, ho, u⟩
      have HX : Hid (w6.ownsRow 0 3 1 v F0.length (nums F0)) := ho
      have HL : Hid (Al w5 (.slice none 0 0) [] w6) := (Al.nil w5).more u
      have hb : Hid (w5.heap.size ≤ w6.heap.size) := u.size
      clear ho u
      go_wp2_with (at_builtin; refine wpList_append_rows rfl _ _ 22 rfl w5.heap.size 3 Try.t3 (.int .i64 0) 1 8 Try.underlying22 hie rfl rfl rfl rfl (by decide) _ _ _ rfl HL.out.own v 0 F0.length (nums F0) rfl HX.out (nums_one F0) (by unfold maxLen; simp; omega) (by simp; omega) hb.out ?_; intro v' w' hown hgrow; have HW : Hid (Al w5 v' ([] ++ F0) w') := HL.out.grown hgrow hown; clear hown hgrow HX HL hb)
      refine (HTe.out.f1 _ HW.out.up).mono ?_
      rintro e w7 ⟨vb, rfl, ho, u⟩
      have HX : Hid (w7.ownsRow 0 3 1 vb F1.length (nums F1)) := ho
      have HL : Hid (Al w5 v' ([] ++ F0) w7) := HW.out.more u
      have hb : Hid (w5.heap.size ≤ w7.heap.size) := (HW.out.up.trans u).size
      clear ho u HW
      go_wp2_with (at_builtin; refine wpList_append_rows rfl _ _ 22 rfl w5.heap.size 3 Try.t3 (.int .i64 0) 1 8 Try.underlying22 hie rfl rfl rfl rfl (by decide) _ _ _ rfl HL.out.own vb 0 F1.length (nums F1) rfl HX.out (nums_one F1) (by unfold maxLen; simp; omega) (by simp; omega) hb.out ?_; intro v'' w'' hown hgrow; have HW : Hid (Al w5 v'' ([] ++ F0 ++ F1) w'') := HL.out.grown hgrow hown; clear hown hgrow HX HL hb)
      have HB0 : Hid (Al w5 v'' (F0 ++ F1 ++ bufsTo L 0) w'') := by
        have h := HW.out
        rw [List.nil_append] at h
        show Al w5 v'' (F0 ++ F1 ++ []) w''
        rw [List.append_nil]
        exact h
      clear HW
      go_loopw [16, 17] (fun A J ws => ∃ k : Nat, k ≤ 4 ∧ J = .int .i64 (k : Int) ∧ Hid (Al w5 A (F0 ++ F1 ++ bufsTo L k) ws)) (fun _ J _ => 4 - (intOf J).toNat)
      case atStart => exact ⟨0, Nat.zero_le _, rfl, HB0⟩
      case round =>
        obtain ⟨k, hk, rfl, HK⟩ := hrel
        clear HB0
        by_cases hk4 : k < 4
        · have e3 : (k : Int) < 4 := by omega
          have kid := cell_up HK.out.up (HTe.out.id k hk4)
          go_wp2_with fail
          refine (HTe.out.ls k hk4 _ HK.out.up).mono ?_
          rintro e w8 ⟨vx, rfl, hls⟩
          obtain ⟨xa, xn, xc, rfl⟩ := own_slice3 hls.own
          obtain ⟨hxn, ⟨hx1, hx2⟩, hx3⟩ := lease_read hls.own
          have HJ0 : Hid (Al w5 u16 (F0 ++ F1 ++ bufsTo L k ++ ((L k).map (·.buf)).take 0) w8 ∧ w8.ownsRow wr.heap.size 38 3 (.slice xa xn xc) (L k).length (leaseCells (L k))) := ⟨by rw [List.take_zero, List.append_nil]; exact HK.out.more hls.up, hls.own⟩
          clear hls hx3 kid HK
          generalize wr.heap.size = b2 at HJ0
          subst hxn
          go_wp2_with fail
          go_loopw [16, 19] (fun A J wt => ∃ j : Nat, j ≤ (L k).length ∧ J = .int .i64 (j : Int) ∧ Hid (Al w5 A (F0 ++ F1 ++ bufsTo L k ++ ((L k).map (·.buf)).take j) wt ∧ wt.ownsRow b2 38 3 (.slice xa (L k).length xc) (L k).length (leaseCells (L k)))) (fun _ J _ => (L k).length - (intOf J).toNat)
          case atStart => exact ⟨0, Nat.zero_le _, rfl, HJ0⟩
          case round =>
            obtain ⟨j, hj, rfl, HJ⟩ := hrel
            clear HJ0
            by_cases hjl : j < (L k).length
            · have e4 : (j : Int) < ((L k).length : Int) := by omega
              obtain ⟨l, hl⟩ : ∃ l, (L k)[j]? = some l := ⟨_, List.getElem?_eq_getElem hjl⟩
              have hlB : Hid (((L k).map (·.buf)).take (j + 1) = ((L k).map (·.buf)).take j ++ [l.buf]) := by
                show _ = _
                rw [List.take_add_one, List.getElem?_map, hl]
                rfl
              obtain ⟨xg, rfl, kx⟩ := (lease_read HJ.out.2).2.2 j l hl
              have hA20 : (F0 ++ F1 ++ bufsTo L k ++ ((L k).map (·.buf)).take j).length ≤ 20 := by
                have h5 := hle (k + 1) (by omega)
                have e5 : bufsTo L (k + 1) = bufsTo L k ++ (L k).map (·.buf) := rfl
                rw [e5, List.length_append, List.length_append, List.length_append] at h5
                rw [List.length_append, List.length_append, List.length_append, List.length_take]
                omega
              have ua : Up wr (wr.alloc (Obj.cells #[.int .i64 (l.buf : Int)] 3)) := (Up.refl wr).alloc _
              have HL : Hid (Al w5 u16 (F0 ++ F1 ++ bufsTo L k ++ ((L k).map (·.buf)).take j) (wr.alloc (Obj.cells #[.int .i64 (l.buf : Int)] 3)) ∧ (wr.alloc (Obj.cells #[.int .i64 (l.buf : Int)] 3)).ownsRow b2 38 3 (.slice (some ⟨xg, 0, none⟩) (L k).length xc) (L k).length (leaseCells (L k))) := ⟨HJ.out.1.more ua, ownsRow_up HJ.out.2 ua⟩
              have HB : Hid ((wr.alloc (Obj.cells #[.int .i64 (l.buf : Int)] 3)).heap[wr.heap.size]? = some (.cells #[.int .i64 (l.buf : Int)] 3 (0, 0))) := heap_alloc_new wr _
              have hb : Hid (w5.heap.size ≤ (wr.alloc (Obj.cells #[.int .i64 (l.buf : Int)] 3)).heap.size) := HL.out.1.up.size
              have HA20 : Hid ((F0 ++ F1 ++ bufsTo L k ++ ((L k).map (·.buf)).take j).length ≤ 20) := hA20
              clear hA20 ua HJ hl
              go_wp2_with (at_builtin; refine wpList_append_own _ rfl _ _ 22 rfl w5.heap.size 3 Try.t3 (.int .i64 0) 1 8 Try.underlying22 hie rfl rfl rfl rfl (by decide) _ _ _ rfl HL.out.1.own ⟨wr.heap.size, 0, none⟩ 1 1 [.int .i64 (l.buf : Int)] rfl rfl (fun jj u hjj => by
                have : jj = 0 := by have := (List.getElem?_eq_some_iff.1 hjj).1; simpa using this
                subst this
                simp at hjj
                subst hjj
                exact heap_cell HB.out rfl) (by simp [Value.oneCell']) (by have := HA20.out; unfold maxLen; omega) (by have := HA20.out; omega) hb.out ?_; intro v' w' hown hgrow hiff; have HW : Hid (Al w5 v' (F0 ++ F1 ++ bufsTo L k ++ ((L k).map (·.buf)).take (j + 1)) w' ∧ w'.ownsRow b2 38 3 (.slice (some ⟨xg, 0, none⟩) (L k).length xc) (L k).length (leaseCells (L k))) := ⟨by rw [hlB.out, ← List.append_assoc]; exact HL.out.1.grown (B := [l.buf]) hgrow hown, row_kept HL.out.1 HL.out.2 hgrow⟩; clear hown hgrow hiff HL HB hb)
              go_round
              case rel => exact ⟨j + 1, by omega, by go_num, HW⟩
              case measure => simp [intOf]; omega
            · have e4 : ¬ (j : Int) < ((L k).length : Int) := by omega
              have hjk : j = (L k).length := by omega
              have kid := cell_up HJ.out.1.up (HTe.out.id k hk4)
              have hsz := HTe.out.sz k hk4
              have e6 : ¬ q < (sizes (L k) : Int) := by omega
              have HB1 : Hid (Al w5 u16 (F0 ++ F1 ++ bufsTo L (k + 1)) wr) := by
                have h5 := HJ.out.1
                rw [hjk, List.take_of_length_le (by rw [List.length_map]; omega)] at h5
                show Al w5 u16 (F0 ++ F1 ++ (bufsTo L k ++ (L k).map (·.buf))) wr
                rw [← List.append_assoc]
                exact h5
              clear HJ hjk
              go_wp2_with fail
              refine (HTe.out.us k hk4 _ HB1.out.up).mono ?_
              rintro e w9 ⟨rfl, u9⟩
              have HB2 : Hid (Al w5 u16 (F0 ++ F1 ++ bufsTo L (k + 1)) w9) := HB1.out.more u9
              clear HB1 u9 kid
              go_wp2_with fail
              go_round
              case rel => exact ⟨k + 1, by omega, by go_num, HB2⟩
              case measure => simp [intOf]; omega
        · have e3 : ¬ (k : Int) < 4 := by omega
          obtain rfl : k = 4 := by omega
          have hpm : Hid ((F0 ++ F1 ++ bufsTo L 4).Perm (List.range' 0 (2 * (1 + m)))) := HTe.out.pm
          have HFu : Hid (K4 W pb (1 + m) q lg cap wr) := HF.out.more HK.out.up
          generalize F0 ++ F1 ++ bufsTo L 4 = A at *
          obtain ⟨ag, ac, hv, ha1, ha2, hag, hab, hac⟩ := row_read HK.out.own (by omega)
          subst hv
          clear hle hF0 hF1 HTe hac
          go_wp2_with fail
          have ub : Up wr (wr.alloc (Obj.cells (madeCells #[.int .i64 0] (2 * (1 + m))) 3)) := (Up.refl wr).alloc _
          have HC0 : Hid (Cn (wr.alloc (Obj.cells (madeCells #[.int .i64 0] (2 * (1 + m))) 3)) wr.heap.size (2 * (1 + m)) (A.take 0) ∧ Al w5 (.slice (some ⟨ag, 0, none⟩) A.length ac) A (wr.alloc (Obj.cells (madeCells #[.int .i64 0] (2 * (1 + m))) 3))) := ⟨by rw [List.take_zero]; exact made_cn wr _, HK.out.more ub⟩
          have hsg : Hid (w5.heap.size ≤ wr.heap.size ∧ ag ≠ wr.heap.size) := ⟨HK.out.up.size, by omega⟩
          clear ub HK HFu hag
          generalize World.alloc wr _ = wm at HC0 ⊢
          generalize wr.heap.size = sg at HC0 hsg ⊢
          go_loopw [23] (fun J wt => ∃ j : Nat, j ≤ A.length ∧ J = .int .i64 (j : Int) ∧ Hid (Cn wt sg (2 * (1 + m)) (A.take j) ∧ Al w5 (.slice (some ⟨ag, 0, none⟩) A.length ac) A wt)) (fun J _ => A.length - (intOf J).toNat)
          case atStart => exact ⟨0, Nat.zero_le _, rfl, HC0⟩
          case round =>
            obtain ⟨j, hj, rfl, HC⟩ := hrel
            clear HC0
            by_cases hjl : j < A.length
            · have e4 : (j : Int) < (A.length : Int) := by omega
              obtain ⟨b, hbj⟩ : ∃ b, A[j]? = some b := ⟨_, List.getElem?_eq_getElem hjl⟩
              have hb2 := met_lt hpm.out hbj
              have e5 : ¬ (2 : Int) * (1 + (m : Int)) ≤ (b : Int) := by omega
              have e6 : ¬ (b : Int) < 0 := by omega
              have e7 : (b : Int) < ((2 * (1 + m) : Nat) : Int) := by omega
              obtain ⟨_, _, hv2, _, _, _, _, hr⟩ := row_read HC.out.2.own (by omega)
              injection hv2 with hv2 _ _
              injection hv2 with hv2
              injection hv2 with hv2 _
              subst hv2
              have ka := hr j b hbj
              have ks := HC.out.1.cell hb2
              have kf := HC.out.1.fz b
              have hct : (A.take j).count b ≤ 20 := by
                have h1 := List.count_le_length (a := b) (l := A.take j)
                rw [List.length_take] at h1
                omega
              have hbt : Hid (A.take (j + 1) = A.take j ++ [b]) := by
                show _ = _
                rw [List.take_add_one, hbj]
                rfl
              clear hr hbj
              have HN : Hid (Cn (wr.setCell ⟨sg, b, none⟩ (.int .i64 (((A.take j).count b : Int) + 1))) sg (2 * (1 + m)) (A.take (j + 1)) ∧ Al w5 (.slice (some ⟨ag, 0, none⟩) A.length ac) A (wr.setCell ⟨sg, b, none⟩ (.int .i64 (((A.take j).count b : Int) + 1)))) := ⟨by rw [hbt.out]; exact HC.out.1.set hb2, HC.out.2.frG ((Fr.refl sg wr).setCell) hsg.out.1 (fun e => by injection e with e; exact hsg.out.2 e)⟩
              generalize (A.take j).count b = ct at *
              clear HC hbt
              go_wp2_with fail
              go_round
              case rel => exact ⟨j + 1, by omega, by go_num, HN⟩
              case measure => simp [intOf]; omega
            · have e4 : ¬ (j : Int) < (A.length : Int) := by omega
              have hjk : j = A.length := by omega
              have HC1 : Hid (Cn wr sg (2 * (1 + m)) A ∧ Al w5 (.slice (some ⟨ag, 0, none⟩) A.length ac) A wr) := by
                have h5 := HC.out
                rw [hjk, List.take_length] at h5
                exact h5
              clear HC hjk
              go_wp2_with fail
              generalize hwq : wr = wq at HC1 ⊢
              go_loopw [24] (fun J wt => wt = wq ∧ ∃ j : Nat, j ≤ 2 * (1 + m) ∧ J = .int .i64 (j : Int)) (fun J _ => 2 * (1 + m) - (intOf J).toNat)
              case atStart => exact ⟨rfl, 0, Nat.zero_le _, rfl⟩
              case round =>
                obtain ⟨hww, jj, hjj, rfl⟩ := hrel
                subst hww
                by_cases hlj : jj < 2 * (1 + m)
                · have e8 : (jj : Int) < 2 * (1 + (m : Int)) := by omega
                  have e9 : (jj : Int) < ((2 * (1 + m) : Nat) : Int) := by omega
                  have ks := HC1.out.1.cell hlj
                  rw [count_one hpm.out hlj] at ks
                  go_wp2_with fail
                  go_round
                  case rel => exact ⟨by trivial, jj + 1, by omega, by go_num⟩
                  case measure => simp [intOf]; omega
                · have e8 : ¬ (jj : Int) < 2 * (1 + (m : Int)) := by omega
                  have HFu : Hid (K4 W pb (1 + m) q lg cap wr) := HF.out.more HC1.out.2.up
                  clear HC1
                  go_wp2_with fail
                  go_round
                  case rel => exact ⟨i + 1, by omega, by omega, by go_num, HFu⟩
                  case measure => simp [intOf]; omega
    · by_cases hs : i < sl
      · have e1 : (i : Int) < (sl : Int) := by omega
        have e2 : ¬ (i : Int) < 120 := by omega
        have HS0 : Hid (Shut W pb (1 + m) lg cap 0 wr) := H4.out.shut
        clear H4 hmk
        go_wp2_with fail
        go_loopw [25] (fun J wt => ∃ k : Nat, k ≤ 4 ∧ J = .int .i64 (k : Int) ∧ Hid (Shut W pb (1 + m) lg cap k wt)) (fun J _ => 4 - (intOf J).toNat)
        case atStart => exact ⟨0, Nat.zero_le _, rfl, HS0⟩
        case round =>
          obtain ⟨k, hk, rfl, HS⟩ := hrel
          clear HS0
          by_cases hk4 : k < 4
          · have e3 : (k : Int) < 4 := by omega
            have kid := HS.out.id hk4
            go_wp2_with fail
            refine (HS.out.close hk4).mono ?_
            rintro e w8 ⟨sm, rfl, h8⟩
            have H8 : Hid (Shut W pb (1 + m) lg cap (k + 1) w8) := h8
            clear h8 HS kid
            go_wp2_with fail
            go_round
            case rel => exact ⟨k + 1, by omega, by go_num, H8⟩
            case measure => simp [intOf]; omega
          · have e3 : ¬ (k : Int) < 4 := by omega
            obtain rfl : k = 4 := by omega
            have hrl : (List.range' 0 (1 + m)).length = 1 + m := List.length_range'
            have hrl1 : (List.range' (1 + m) (1 + m)).length = 1 + m := List.length_range'
            go_wp2_with fail
            refine (HS.out.free0 _ (Up.refl _)).mono ?_
            rintro e w8 ⟨v0, rfl, ho, u8⟩
            have ho' : w8.ownsRow 0 3 1 v0 (List.range' 0 (1 + m)).length (nums (List.range' 0 (1 + m))) := by rw [hrl]; exact ho
            obtain ⟨g0, c2, hv, z1, z2, z3, _, hr0⟩ := row_read ho' (by omega)
            rw [hrl] at hv z1
            subst hv
            have HR0 : Hid (∀ i, i < 1 + m → w8.cell? ⟨g0, i, none⟩ = some (.int .i64 (i : Int))) := fun i hi => hr0 i i (by rw [List.getElem?_range' hi]; simp)
            have HU8 : Hid (Up wr w8) := u8
            clear ho ho' hr0 u8
            go_wp2_with fail
            refine (HS.out.free1 _ HU8.out).mono ?_
            rintro e w9 ⟨v1, rfl, ho, u9⟩
            have ho' : w9.ownsRow 0 3 1 v1 (List.range' (1 + m) (1 + m)).length (nums (List.range' (1 + m) (1 + m))) := by rw [hrl1]; exact ho
            obtain ⟨g1, c3, hv, y1, y2, y3, _, hr1⟩ := row_read ho' (by omega)
            rw [hrl1] at hv y1
            subst hv
            have HRR : Hid (∀ i, i < 1 + m → w9.cell? ⟨g0, i, none⟩ = some (.int .i64 (i : Int)) ∧ w9.cell? ⟨g1, i, none⟩ = some (.int .i64 ((1 : Int) + (m : Int) + (i : Int)))) := fun i hi => ⟨cell_up u9 (HR0.out i hi), by
              have h := hr1 i (1 + m + i) (by rw [List.getElem?_range' hi]; simp)
              rw [h]
              congr 2⟩
            have HU9 : Hid (Up W w9) := HS.out.up.trans (HU8.out.trans u9)
            clear ho ho' hr1 u9 HR0 HU8 HS hrl hrl1
            have e5 : ((1 + m : Nat) : Int) = (1 : Int) + (m : Int) := by omega
            have d1 : (((1 + m : Nat) : Int) == (1 : Int) + (m : Int)) = true := by rw [e5]; exact beq_self_eq_true _
            have d2 : decide (((1 + m : Nat) : Int) = (1 : Int) + (m : Int)) = true := decide_eq_true e5
            clear e5
            go_wp2_with fail
            go_loopw [30] (fun J wt => wt = w9 ∧ ∃ j : Nat, j ≤ 1 + m ∧ J = .int .i64 (j : Int)) (fun J _ => 1 + m - (intOf J).toNat)
            case atStart => exact ⟨rfl, 0, Nat.zero_le _, rfl⟩
            case round =>
              obtain ⟨hww, j, hj, rfl⟩ := hrel
              subst hww
              by_cases hjl : j < 1 + m
              · have e6 : (j : Int) < (1 : Int) + (m : Int) := by omega
                have e7 : (j : Int) < ((1 + m : Nat) : Int) := by omega
                obtain ⟨k0, k1⟩ := HRR.out j hjl
                go_wp2_with fail
                go_round
                case rel => exact ⟨by trivial, j + 1, by omega, by go_num⟩
                case measure => simp [intOf]; omega
              · have e6 : ¬ (j : Int) < (1 : Int) + (m : Int) := by omega
                go_wp2_with fail
                go_ret
                exact ⟨by first | rfl | (simp; done), HU9.out⟩
      · have e1 : ¬ (i : Int) < (sl : Int) := by omega
        have HS0 : Hid (Shut W pb (1 + m) lg cap 0 wr) := H4.out.shut
        clear H4 hmk
        go_wp2_with fail
        go_loopw [25] (fun J wt => ∃ k : Nat, k ≤ 4 ∧ J = .int .i64 (k : Int) ∧ Hid (Shut W pb (1 + m) lg cap k wt)) (fun J _ => 4 - (intOf J).toNat)
        case atStart => exact ⟨0, Nat.zero_le _, rfl, HS0⟩
        case round =>
          obtain ⟨k, hk, rfl, HS⟩ := hrel
          clear HS0
          by_cases hk4 : k < 4
          · have e3 : (k : Int) < 4 := by omega
            have kid := HS.out.id hk4
            go_wp2_with fail
            refine (HS.out.close hk4).mono ?_
            rintro e w8 ⟨sm, rfl, h8⟩
            have H8 : Hid (Shut W pb (1 + m) lg cap (k + 1) w8) := h8
            clear h8 HS kid
            go_wp2_with fail
            go_round
            case rel => exact ⟨k + 1, by omega, by go_num, H8⟩
            case measure => simp [intOf]; omega
          · have e3 : ¬ (k : Int) < 4 := by omega
            obtain rfl : k = 4 := by omega
            have hrl : (List.range' 0 (1 + m)).length = 1 + m := List.length_range'
            have hrl1 : (List.range' (1 + m) (1 + m)).length = 1 + m := List.length_range'
            go_wp2_with fail
            refine (HS.out.free0 _ (Up.refl _)).mono ?_
            rintro e w8 ⟨v0, rfl, ho, u8⟩
            have ho' : w8.ownsRow 0 3 1 v0 (List.range' 0 (1 + m)).length (nums (List.range' 0 (1 + m))) := by rw [hrl]; exact ho
            obtain ⟨g0, c2, hv, z1, z2, z3, _, hr0⟩ := row_read ho' (by omega)
            rw [hrl] at hv z1
            subst hv
            have HR0 : Hid (∀ i, i < 1 + m → w8.cell? ⟨g0, i, none⟩ = some (.int .i64 (i : Int))) := fun i hi => hr0 i i (by rw [List.getElem?_range' hi]; simp)
            have HU8 : Hid (Up wr w8) := u8
            clear ho ho' hr0 u8
            go_wp2_with fail
            refine (HS.out.free1 _ HU8.out).mono ?_
            rintro e w9 ⟨v1, rfl, ho, u9⟩
            have ho' : w9.ownsRow 0 3 1 v1 (List.range' (1 + m) (1 + m)).length (nums (List.range' (1 + m) (1 + m))) := by rw [hrl1]; exact ho
            obtain ⟨g1, c3, hv, y1, y2, y3, _, hr1⟩ := row_read ho' (by omega)
            rw [hrl1] at hv y1
            subst hv
            have HRR : Hid (∀ i, i < 1 + m → w9.cell? ⟨g0, i, none⟩ = some (.int .i64 (i : Int)) ∧ w9.cell? ⟨g1, i, none⟩ = some (.int .i64 ((1 : Int) + (m : Int) + (i : Int)))) := fun i hi => ⟨cell_up u9 (HR0.out i hi), by
              have h := hr1 i (1 + m + i) (by rw [List.getElem?_range' hi]; simp)
              rw [h]
              congr 2⟩
            have HU9 : Hid (Up W w9) := HS.out.up.trans (HU8.out.trans u9)
            clear ho ho' hr1 u9 HR0 HU8 HS hrl hrl1
            have e5 : ((1 + m : Nat) : Int) = (1 : Int) + (m : Int) := by omega
            have d1 : (((1 + m : Nat) : Int) == (1 : Int) + (m : Int)) = true := by rw [e5]; exact beq_self_eq_true _
            have d2 : decide (((1 + m : Nat) : Int) = (1 : Int) + (m : Int)) = true := decide_eq_true e5
            clear e5
            go_wp2_with fail
            go_loopw [30] (fun J wt => wt = w9 ∧ ∃ j : Nat, j ≤ 1 + m ∧ J = .int .i64 (j : Int)) (fun J _ => 1 + m - (intOf J).toNat)
            case atStart => exact ⟨rfl, 0, Nat.zero_le _, rfl⟩
            case round =>
              obtain ⟨hww, j, hj, rfl⟩ := hrel
              subst hww
              by_cases hjl : j < 1 + m
              · have e6 : (j : Int) < (1 : Int) + (m : Int) := by omega
                have e7 : (j : Int) < ((1 + m : Nat) : Int) := by omega
                obtain ⟨k0, k1⟩ := HRR.out j hjl
                go_wp2_with fail
                go_round
                case rel => exact ⟨by trivial, j + 1, by omega, by go_num⟩
                case measure => simp [intOf]; omega
              · have e6 : ¬ (j : Int) < (1 : Int) + (m : Int) := by omega
                go_wp2_with fail
                go_ret
                exact ⟨by first | rfl | (simp; done), HU9.out⟩
end Go.Proofs.Yteijdcidemajfaa
