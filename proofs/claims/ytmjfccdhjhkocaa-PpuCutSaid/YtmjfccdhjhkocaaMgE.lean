import Derived.Test.YtmjfccdhjhkocaaMgC
import Derived.Test.YtmjfccdhjhkocaaMgD
/- A state is loaded. -/
namespace Go.Proofs.Ytmjfccdhjhkocaa
open Go.RowKit
set_option linter.unusedVariables false
variable {b : Nat} {p : Pic}
/-- a state that is taken -/
structure Taken (len : Nat) (f : Nat → Int) : Prop where
  len : len = 19887
  met : f 13 ≤ 1
  ok : POk (stPic f)
set_option maxRecDepth 100000 in
set_option maxHeartbeats 2000000 in
theorem load_any {W : World} {aa : Option Addr} {ab ao len cap : Nat} {f : Nat → Int} (D : Byts W aa ab ao len cap f) (h : PxAt W b p) :
    Calls Try.prog 37 #[.pointer (some ⟨b, 0, none⟩), .slice aa len cap] W fun e w' => (Taken len f → e = .returned (.int .i64 0) ∧ PxAt w' b (stPic f)) ∧ (¬ Taken len f → e = .returned (.int .i64 61) ∧ PxAt w' b p) ∧ Fr b W w' := by
  have l1 := D.lc
  have l2 : cap ≤ 9223372036854775807 := by have := D.cm; unfold maxLen at this; omega
  have HP : Hid (PxAt W b p) := h
  have hbl := h.lt
  by_cases c1 : len = 19887
  · subst c1
    obtain rfl := D.ad (by omega)
    have HD : Hid _ := D
    have k13 := D.cell 13 (by omega)
    have u13 := D.u8 13
    clear D h
    by_cases c2 : f 13 ≤ 1
    · have d2 : decide (1 < f 13) = false := decide_eq_false (by omega)
      have HT : Hid (Taken 19887 f ↔ POk (stPic f)) := ⟨fun t => t.ok, fun o => ⟨rfl, c2, o⟩⟩
      have hab := World.block_lt_of_cell? _ _ k13
      go_enter Try.func37, Try.ntmps37
      go_wp2_with fail
      -- MARK
      have b12 := HD.out.u8 12
      have b14 := HD.out.u8 14
      obtain ⟨b120, b121⟩ := b12
      obtain ⟨b140, b141⟩ := b14
      obtain ⟨b130, b131⟩ := u13
      have e12 : IntKind.i64.wrap (f 12) = f 12 := by simp [IntKind.wrap, IntKind.bits, IntKind.signed]; omega
      have e14 : IntKind.i64.wrap (f 14) = f 14 := by simp [IntKind.wrap, IntKind.bits, IntKind.signed]; omega
      have e124 : IntKind.i64.wrap (f 12 * 4) = f 12 * 4 := by simp [IntKind.wrap, IntKind.bits, IntKind.signed]; omega
      have HK : Hid (∀ w', Up W w' → w'.cell? ⟨ab, ao + 12, none⟩ = some (.int .u8 (f 12)) ∧ w'.cell? ⟨ab, ao + 13, none⟩ = some (.int .u8 (f 13)) ∧ w'.cell? ⟨ab, ao + 14, none⟩ = some (.int .u8 (f 14))) := fun w' u => ⟨(HD.out.upT u).cell 12 (by omega), (HD.out.upT u).cell 13 (by omega), (HD.out.upT u).cell 14 (by omega)⟩
      refine wp_region_held_drew (S := fun w' => w'.cell? ⟨ab, ao + 12, none⟩ = some (.int .u8 (f 12)) ∧ w'.cell? ⟨ab, ao + 13, none⟩ = some (.int .u8 (f 13)) ∧ w'.cell? ⟨ab, ao + 14, none⟩ = some (.int .u8 (f 14))) (by kernel_rfl) ?_ (fun hHeld => ?_)
      · (try dsimp only); exact HK.out _ (Up.refl _).drew
      refine wpAnyH_take (i := 0) (v := ?_) (by simp only [List.getElem?_toArray, List.getElem?_cons_zero]; rfl) (by kernel_rfl) (by kernel_rfl) (by kernel_rfl) (by intro _ _ _ h; exact h) (Or.inl ⟨by rfl, ?_⟩) (by assumption) ?_
      rotate_left
      · (intro w hSw; (try dsimp only at hSw); go_simp <;> with_reducible rfl)
      try simp only [Act.put, List.setIfInBounds_toArray, List.set_cons_zero, List.set_cons_succ]
      refine wpAnyH_take (i := 1) (v := ?_) (by simp only [List.getElem?_toArray, List.getElem?_cons_succ, List.getElem?_cons_zero]; rfl) (by kernel_rfl) (by kernel_rfl) (by kernel_rfl) (by intro _ _ _ h; exact h) (Or.inl ⟨by rfl, ?_⟩) (by assumption) ?_
      rotate_left
      · (intro w hSw; (try dsimp only at hSw); go_simp <;> with_reducible rfl)
      try simp only [Act.put, List.setIfInBounds_toArray, List.set_cons_zero, List.set_cons_succ]
      refine wpAnyH_take (i := 2) (v := ?_) (by simp only [List.getElem?_toArray, List.getElem?_cons_succ, List.getElem?_cons_zero]; rfl) (by kernel_rfl) (by kernel_rfl) (by kernel_rfl) (by intro _ _ _ h; exact h) (Or.inl ⟨by rfl, ?_⟩) (by assumption) ?_
      rotate_left
      · (intro w hSw; (try dsimp only at hSw); go_simp <;> with_reducible rfl)
      try simp only [Act.put, List.setIfInBounds_toArray, List.set_cons_zero, List.set_cons_succ]
      refine wpAnyH_take (i := 3) (v := ?_) (by simp only [List.getElem?_toArray, List.getElem?_cons_succ, List.getElem?_cons_zero]; rfl) (by kernel_rfl) (by kernel_rfl) (by kernel_rfl) (by intro _ _ _ h; exact h) (Or.inl ⟨by rfl, ?_⟩) (by assumption) ?_
      rotate_left
      · (intro w hSw; (try dsimp only at hSw); go_simp <;> with_reducible rfl)
      try simp only [Act.put, List.setIfInBounds_toArray, List.set_cons_zero, List.set_cons_succ]
      refine wpAnyH_take (i := 4) (v := ?_) (by simp only [List.getElem?_toArray, List.getElem?_cons_succ, List.getElem?_cons_zero]; rfl) (by kernel_rfl) (by kernel_rfl) (by kernel_rfl) (by intro _ _ _ h; exact h) (Or.inl ⟨by rfl, ?_⟩) (by assumption) ?_
      rotate_left
      · (intro w hSw; (try dsimp only at hSw); go_simp <;> with_reducible rfl)
      try simp only [Act.put, List.setIfInBounds_toArray, List.set_cons_zero, List.set_cons_succ]
      refine wpAnyH_take (i := 5) (v := ?_) (by simp only [List.getElem?_toArray, List.getElem?_cons_succ, List.getElem?_cons_zero]; rfl) (by kernel_rfl) (by kernel_rfl) (by kernel_rfl) (by intro _ _ _ h; exact h) (Or.inl ⟨by rfl, ?_⟩) (by assumption) ?_
      rotate_left
      · (intro w hSw; (try dsimp only at hSw); go_simp <;> with_reducible rfl)
      try simp only [Act.put, List.setIfInBounds_toArray, List.set_cons_zero, List.set_cons_succ]
      refine wpAnyH_take (i := 6) (v := ?_) (by simp only [List.getElem?_toArray, List.getElem?_cons_succ, List.getElem?_cons_zero]; rfl) (by kernel_rfl) (by kernel_rfl) (by kernel_rfl) (by intro _ _ _ h; exact h) (Or.inl ⟨by rfl, ?_⟩) (by assumption) ?_
      rotate_left
      · (intro w hSw; (try dsimp only at hSw); go_simp <;> with_reducible rfl)
      try simp only [Act.put, List.setIfInBounds_toArray, List.set_cons_zero, List.set_cons_succ]
      refine wpAnyH_take (i := 7) (v := ?_) (by simp only [List.getElem?_toArray, List.getElem?_cons_succ, List.getElem?_cons_zero]; rfl) (by kernel_rfl) (by kernel_rfl) (by kernel_rfl) (by intro _ _ _ h; exact h) (Or.inl ⟨by rfl, ?_⟩) (by assumption) ?_
      rotate_left
      · (intro w hSw; (try dsimp only at hSw); go_simp <;> with_reducible rfl)
      try simp only [Act.put, List.setIfInBounds_toArray, List.set_cons_zero, List.set_cons_succ]
      refine wpAnyH_take (i := 8) (v := ?_) (by simp only [List.getElem?_toArray, List.getElem?_cons_succ, List.getElem?_cons_zero]; rfl) (by kernel_rfl) (by kernel_rfl) (by kernel_rfl) (by intro _ _ _ h; exact h) (Or.inl ⟨by rfl, ?_⟩) (by assumption) ?_
      rotate_left
      · (intro w hSw; (try dsimp only at hSw); go_simp <;> with_reducible rfl)
      try simp only [Act.put, List.setIfInBounds_toArray, List.set_cons_zero, List.set_cons_succ]
      refine wpAnyH_take (i := 9) (v := ?_) (by simp only [List.getElem?_toArray, List.getElem?_cons_succ, List.getElem?_cons_zero]; rfl) (by kernel_rfl) (by kernel_rfl) (by kernel_rfl) (by intro _ _ _ h; exact h) (Or.inl ⟨by rfl, ?_⟩) (by assumption) ?_
      rotate_left
      · (intro w hSw; (try dsimp only at hSw); go_simp <;> with_reducible rfl)
      try simp only [Act.put, List.setIfInBounds_toArray, List.set_cons_zero, List.set_cons_succ]
      refine wpAnyH_take (i := 10) (v := ?_) (by simp only [List.getElem?_toArray, List.getElem?_cons_succ, List.getElem?_cons_zero]; rfl) (by kernel_rfl) (by kernel_rfl) (by kernel_rfl) (by intro _ _ _ h; exact h) (Or.inl ⟨by rfl, ?_⟩) (by assumption) ?_
      rotate_left
      · (intro w hSw; (try dsimp only at hSw); go_simp <;> with_reducible rfl)
      try simp only [Act.put, List.setIfInBounds_toArray, List.set_cons_zero, List.set_cons_succ]
      refine wpAnyH_take (i := 11) (v := ?_) (by simp only [List.getElem?_toArray, List.getElem?_cons_succ, List.getElem?_cons_zero]; rfl) (by kernel_rfl) (by kernel_rfl) (by kernel_rfl) (by intro _ _ _ h; exact h) (Or.inl ⟨by rfl, ?_⟩) (by assumption) ?_
      rotate_left
      · (intro w hSw; (try dsimp only at hSw); go_simp <;> with_reducible rfl)
      try simp only [Act.put, List.setIfInBounds_toArray, List.set_cons_zero, List.set_cons_succ]
      refine wpAnyH_take (i := 12) (v := ?_) (by simp only [List.getElem?_toArray, List.getElem?_cons_succ, List.getElem?_cons_zero]; rfl) (by kernel_rfl) (by kernel_rfl) (by kernel_rfl) (by intro _ _ _ h; exact h) (Or.inl ⟨by rfl, ?_⟩) (by assumption) ?_
      rotate_left
      · (intro w hSw; (try dsimp only at hSw); go_simp <;> with_reducible rfl)
      try simp only [Act.put, List.setIfInBounds_toArray, List.set_cons_zero, List.set_cons_succ]
      refine wpAnyH_take (i := 13) (v := .agg (((Try.zeroCells74.setIfInBounds 8364 (.int .i64 (f 12 * 4))).setIfInBounds 8365 (.bool (f 13 == 1))).setIfInBounds 8366 (.int .i64 (f 14)))) (by simp only [List.getElem?_toArray, List.getElem?_cons_succ, List.getElem?_cons_zero]; rfl) (by kernel_rfl) (by kernel_rfl) (by kernel_rfl) (by intro _ _ _ h; exact h) (Or.inl ⟨by rfl, ?_⟩) (by assumption) ?_
      · intro w _
        have hb := run_build (P := Try.prog) w 74 #[(3, Value.int .i64 (f 12 * 4)), (4, .bool (f 13 == 1)), (5, .int .i64 (f 14))] _ (built_ppu (f 12 * 4) (f 13 == 1) (f 14))
        unfold execOp
        simp only [List.map_toArray, List.map_cons, List.map_nil, Sem.run_bind]
        go_simp
      generalize hCS : (((Try.zeroCells74.setIfInBounds 8364 (.int .i64 (f 12 * 4))).setIfInBounds 8365 (.bool (f 13 == 1))).setIfInBounds 8366 (.int .i64 (f 14))) = CS
      have HCS : Hid (CsOk CS (((zeroPic.setClk (f 12 * 4)).setMet (f 13 == 1)).setRows (f 14))) := by rw [← hCS]; exact csok_built _ _ _
      have HC1 : Hid (CS.all (·.oneCell') = true) := HCS.out.one
      clear hCS
      try simp only [Act.put, List.setIfInBounds_toArray, List.set_cons_zero, List.set_cons_succ]
      refine wpAnyH_ready (rs := [14]) (by kernel_rfl) (by simp) ?_
      refine AllReadyH.cons (by simp only [List.getElem?_toArray, List.getElem?_cons_succ, List.getElem?_cons_zero]; rfl) (fun K hK => ?_) AllReadyH.nil
      go_simp
      have hN0 : (W.alloc (Obj.cells Try.zeroCells74 74)).drew.heap[W.heap.size]? = some (.cells Try.zeroCells74 74 (0, 0)) := heap_alloc_new W _
      have u2 : Up W (W.alloc (Obj.cells Try.zeroCells74 74)).drew := ((Up.refl W).alloc _).drew
      generalize World.drew _ = w2 at hN0 u2 ⊢
      refine hK.out _ _ ?_ (fun hHeld => ?_)
      · (try dsimp only); exact HK.out _ u2
      clear hK K
      try simp only [Act.put, List.setIfInBounds_toArray, List.set_cons_zero, List.set_cons_succ]
      refine wpAnyH_ready (rs := [15]) (by kernel_rfl) (by simp) ?_
      refine AllReadyH.cons (by simp only [List.getElem?_toArray, List.getElem?_cons_succ, List.getElem?_cons_zero]; rfl) (fun K hK => ?_) AllReadyH.nil
      rw [if_pos (by rfl)]
      refine wp_store_row 74 _ _ rfl W.heap.size CS rfl rfl 74 Try.zeroCells74 hN0 (by rw [HCS.out.size]; kernel_rfl) (by rw [HCS.out.size]; exact zc_size) HC1.out ?_
      have h5 : PxAt (w2.setRow W.heap.size CS) W.heap.size (((zeroPic.setClk (f 12 * 4)).setMet (f 13 == 1)).setRows (f 14)) := HCS.out.at (setRow_heap w2 W.heap.size _ CS _ _ hN0)
      have u5 : Up W (w2.setRow W.heap.size CS) := u2.setRow (Nat.le_refl _) CS
      generalize World.setRow w2 _ _ = w3 at h5 u5 ⊢
      refine hK.out _ _ ?_ (fun _ => ?_)
      · (try dsimp only); exact HK.out _ u5
      clear hK K
      simp only [Act.put]
      refine wpAnyH_done (by kernel_rfl) ?_ _
      have H3 : Hid (PxAt w3 W.heap.size (((zeroPic.setClk (f 12 * 4)).setMet (f 13 == 1)).setRows (f 14)) ∧ Up W w3) := ⟨h5, u5⟩
      clear h5 u5 hN0 u2 hHeld HC1 HK
      have HLB : Hid (b ≠ W.heap.size) := by show _ ≠ _; omega
      have HDD : Hid (∀ w', Up W w' → Byts w' (some ⟨ab, ao, none⟩) ab ao 19887 cap f) := fun w' u => HD.out.upT u
      have HUF : Hid (∀ w' w'', Up W w' → Fr W.heap.size w' w'' → Up W w'') := fun w' w'' u f => Fr.up u (Nat.le_refl _) f
      have HUW : Hid (W.heap.size ≤ W.heap.size) := Nat.le_refl _
      generalize hlb : W.heap.size = lb at H3 HLB HUF ⊢
      have HLBs : Hid (W.heap.size = lb) := hlb
      clear hlb HUW HCS
      have i1 : (19887 : Int) ≤ (cap : Int) := by omega
      have q1 : (15 : Int) ≤ (cap : Int) := by omega
      have q2 : (8207 : Int) ≤ (cap : Int) := by omega
      have q3 : (14127 : Int) ≤ (cap : Int) := by omega
      have q4 : (8367 : Int) ≤ (cap : Int) := by omega
      go_wp2_with (refine wpList_copyX (p := (((zeroPic.setClk (f 12 * 4)).setMet (f 13 == 1)).setRows (f 14))) rfl (.tmp 30) (.tmp 31) rfl 8352 12 12 ⟨ab, ao, none⟩ 19887 cap rfl rfl 12 f ((((zeroPic.setClk (f 12 * 4)).setMet (f 13 == 1)).setRows (f 14)).allR f) H3.out.1 rfl (fun k hk => by rw [Addr.add_lit]; exact (HDD.out _ H3.out.2).cell k (by omega)) (by decide) (fun j _ => Pic.cellRG _ f j) ?_; intro w4 p4 F4; have H4 : Hid (PxAt w4 lb ((((zeroPic.setClk (f 12 * 4)).setMet (f 13 == 1)).setRows (f 14)).allR f) ∧ Up W w4) := ⟨p4, HUF.out _ _ H3.out.2 F4⟩; clear p4 F4)
      clear H3
      try simp only [Act.put, goInt, List.setIfInBounds_toArray, List.set_cons_zero, List.set_cons_succ]
      refine wp_still2 4 (by kernel_rfl) (by decide +kernel) ?_
      intro w5 hw5
      have u5 : Up W w5 := by rw [hw5]; exact H4.out.2.drew
      have p5 : PxAt w5 lb ((((zeroPic.setClk (f 12 * 4)).setMet (f 13 == 1)).setRows (f 14)).allR f) := by rw [hw5]; exact H4.out.1.up (Up.refl _).drew
      have H5 : Hid (PxAt w5 lb ((((zeroPic.setClk (f 12 * 4)).setMet (f 13 == 1)).setRows (f 14)).allR f) ∧ Up W w5) := ⟨p5, u5⟩
      clear hw5 u5 p5 H4
      simp only [List.take_succ_cons, List.take_zero, List.drop_succ_cons, List.drop_zero]
      repeat (go_big_quiet_step (fail))
      refine wpQuiet_nil ?_
      go_wp2_with (refine wpList_copyX (p := ((((zeroPic.setClk (f 12 * 4)).setMet (f 13 == 1)).setRows (f 14)).allR f)) rfl (.tmp 34) (.tmp 36) rfl 0 8192 8192 ⟨ab, ao + 15, none⟩ 19872 (cap - 15) rfl rfl 8192 (fun k => f (15 + k)) (((((zeroPic.setClk (f 12 * 4)).setMet (f 13 == 1)).setRows (f 14)).allR f).allV (fun k => f (15 + k))) H5.out.1 rfl (fun k hk => by rw [Addr.add_lit, Nat.add_assoc]; exact (HDD.out _ H5.out.2).cell (15 + k) (by omega)) (by decide) (fun j _ => Pic.cellVR _ (fun k => f (15 + k)) j) ?_; intro w6 p6 F6; have H6 : Hid (PxAt w6 lb (((((zeroPic.setClk (f 12 * 4)).setMet (f 13 == 1)).setRows (f 14)).allR f).allV (fun k => f (15 + k))) ∧ Up W w6) := ⟨p6, HUF.out _ _ H5.out.2 F6⟩; clear p6 F6)
      clear H5
      try simp only [Act.put, goInt, List.setIfInBounds_toArray, List.set_cons_zero, List.set_cons_succ]
      refine wp_still2 4 (by kernel_rfl) (by decide +kernel) ?_
      intro w7 hw7
      have u7 : Up W w7 := by rw [hw7]; exact H6.out.2.drew
      have p7 : PxAt w7 lb (((((zeroPic.setClk (f 12 * 4)).setMet (f 13 == 1)).setRows (f 14)).allR f).allV (fun k => f (15 + k))) := by rw [hw7]; exact H6.out.1.up (Up.refl _).drew
      have H7 : Hid (PxAt w7 lb (((((zeroPic.setClk (f 12 * 4)).setMet (f 13 == 1)).setRows (f 14)).allR f).allV (fun k => f (15 + k))) ∧ Up W w7) := ⟨p7, u7⟩
      clear hw7 u7 p7 H6
      simp only [List.take_succ_cons, List.take_zero, List.drop_succ_cons, List.drop_zero]
      repeat (go_big_quiet_step (fail))
      refine wpQuiet_nil ?_
      go_wp2_with (refine wpList_copyX (p := (((((zeroPic.setClk (f 12 * 4)).setMet (f 13 == 1)).setRows (f 14)).allR f).allV (fun k => f (15 + k)))) rfl (.tmp 39) (.tmp 41) rfl 8192 160 160 ⟨ab, ao + 8207, none⟩ 11680 (cap - 8207) rfl rfl 160 (fun k => f (8207 + k)) ((((((zeroPic.setClk (f 12 * 4)).setMet (f 13 == 1)).setRows (f 14)).allR f).allV (fun k => f (15 + k))).allO (fun k => f (8207 + k))) H7.out.1 rfl (fun k hk => by rw [Addr.add_lit, Nat.add_assoc]; exact (HDD.out _ H7.out.2).cell (8207 + k) (by omega)) (by decide) (fun j _ => Pic.cellOA _ (fun k => f (8207 + k)) j) ?_; intro w8 p8 F8; have H8 : Hid (PxAt w8 lb ((((((zeroPic.setClk (f 12 * 4)).setMet (f 13 == 1)).setRows (f 14)).allR f).allV (fun k => f (15 + k))).allO (fun k => f (8207 + k))) ∧ Up W w8) := ⟨p8, HUF.out _ _ H7.out.2 F8⟩; clear p8 F8)
      clear H7
      have HU1 : Hid _ := unpack_upD (b := lb) ab (ao + 8367) (cap - 8367) (fun k => f (8367 + k)) (fun k => HD.out.u8 _) (by omega) (by omega) w8 H8.out.1 (fun w' f' k hk => by rw [Nat.add_assoc]; exact (HDD.out _ (HUF.out _ _ H8.out.2 f')).cell (8367 + k) (by omega))
      go_wp2_with fail
      refine Calls.mono HU1.out ?_
      rintro e w9 ⟨rfl, p9, F9⟩
      have H9 : Hid (PxAt w9 lb (((((((zeroPic.setClk (f 12 * 4)).setMet (f 13 == 1)).setRows (f 14)).allR f).allV (fun k => f (15 + k))).allO (fun k => f (8207 + k))).upD (fun k => f (8367 + k)) 23040) ∧ Up W w9) := ⟨p9, HUF.out _ _ H8.out.2 F9⟩
      clear p9 F9 HU1 H8
      have HU2 : Hid _ := unpack_upS (b := lb) ab (ao + 14127) (cap - 14127) (fun k => f (14127 + k)) (fun k => HD.out.u8 _) (by omega) (by omega) w9 H9.out.1 (fun w' f' k hk => by rw [Nat.add_assoc]; exact (HDD.out _ (HUF.out _ _ H9.out.2 f')).cell (14127 + k) (by omega))
      go_wp2_with fail
      refine Calls.mono HU2.out ?_
      rintro e w10 ⟨rfl, p10, F10⟩
      have p10' : PxAt w10 lb (stPic f) := p10.same (fun j hj => st_same f j hj)
      have H10 : Hid (PxAt w10 lb (stPic f) ∧ Up W w10) := ⟨p10', HUF.out _ _ H9.out.2 F10⟩
      clear p10 p10' F10 HU2 H9
      have HMB : Hid _ := mayBe_any (stPic_in HD.out.u8) w10 H10.out.1
      go_wp2_with fail
      refine Calls.mono HMB.out ?_
      rintro e w' ⟨t, rfl, ht, hw'⟩
      obtain rfl := hw'.symm
      have HTT : Hid _ := ht
      clear ht HMB
      cases t
      · have HN : Hid (¬ Taken 19887 f) := fun t => by have := HTT.out.2 (HT.out.1 t); cases this
        go_wp2_with fail
        go_ret
        exact ⟨fun t => (HN.out t).elim, fun _ => ⟨rfl, HP.out.up H10.out.2⟩, Fr.ofUp H10.out.2⟩
      · have HY : Hid (Taken 19887 f) := HT.out.2 (HTT.out.1 rfl)
        obtain ⟨cs, hcs, hok⟩ := H10.out.1.csok
        obtain ⟨co, hco, hoo⟩ := (HP.out.up H10.out.2).csok
        have HRa : Hid (w10.rangeAt lb 0 cs.toList) := fun k v hv => by
          rw [Nat.zero_add, cell_of_row _ _ _ _ _ _ hcs]
          rw [Array.getElem?_toList] at hv
          exact hv
        have HLe : Hid ((Try.prog.info? 74).map (·.size) = some cs.toList.length) := by show _ = _; rw [Array.length_toList, hok.size]; kernel_rfl
        have HOK : Hid (CsOk cs (stPic f)) := hok
        have HCO : Hid (w10.heap[b]? = some (.cells co 74 (0, 0)) ∧ co.size = 54447) := ⟨hco, hoo.size⟩
        have HO1 : Hid (cs.all (·.oneCell') = true) := hok.one
        clear hcs hok hco hoo
        have HFin : Hid (PxAt (w10.setRow b cs) b (stPic f) ∧ Fr b W (w10.setRow b cs)) := ⟨HOK.out.at (setRow_heap w10 b _ cs _ _ HCO.out.1), (Fr.ofUp H10.out.2).setRow⟩
        go_wp2_with (first | (refine wpList_load_mid rfl 74 _ rfl lb 0 rfl cs.toList _ HRa.out Try.underlying74 rfl HLe.out ?_; rw [Array.toArray_toList]) | (refine wpList_store_row rfl 74 _ _ rfl b cs rfl rfl 74 co HCO.out.1 (by rw [HOK.out.size]; kernel_rfl) (by rw [HOK.out.size]; exact HCO.out.2) HO1.out ?_))
        go_ret
        exact ⟨fun _ => ⟨rfl, HFin.out.1⟩, fun n => (n HY.out).elim, HFin.out.2⟩
    · have d2 : decide (1 < f 13) = true := decide_eq_true (by omega)
      have HN : Hid (¬ Taken 19887 f) := fun t => c2 t.met
      go_enter Try.func37, Try.ntmps37
      go_wp2_with fail
      go_ret
      exact ⟨fun t => (HN.out t).elim, fun _ => ⟨rfl, HP.out⟩, Fr.refl b W⟩
  · have e1 : ((len : Int) != 19887) = true := bne_iff_ne.2 (by omega)
    have HN : Hid (¬ Taken len f) := fun t => c1 t.len
    clear D h
    go_enter Try.func37, Try.ntmps37
    go_wp2_with fail
    go_ret
    exact ⟨fun t => (HN.out t).elim, fun _ => ⟨rfl, HP.out⟩, Fr.refl b W⟩
end Go.Proofs.Ytmjfccdhjhkocaa
