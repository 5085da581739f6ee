import Derived.Test.YtmjfccdhjhkocaaMgI
/- PpuCut: the walk. -/
namespace Go.Proofs.Ytmjfccdhjhkocaa
open Go.RowKit
set_option linter.unusedVariables false
variable {b : Nat} {p : Pic}
theorem nineAt {w : World} {g : Nat} {ty : TypeId} {A : Int} (h : w.heap[g]? = some (.cells #[.int .i64 65344, .int .i64 65345, .int .i64 65346, .int .i64 65347, .int .i64 65349, .int .i64 65351, .int .i64 65354, .int .i64 65355, .int .i64 A] ty (0, 0))) (k : Nat) (hk : k < 9) : ∃ x, w.cell? ⟨g, 0 + k, none⟩ = some (.int .i64 x) := by
  rw [cell_of_row _ _ _ _ _ _ h]
  have : k = 0 ∨ k = 1 ∨ k = 2 ∨ k = 3 ∨ k = 4 ∨ k = 5 ∨ k = 6 ∨ k = 7 ∨ k = 8 := by omega
  rcases this with rfl | rfl | rfl | rfl | rfl | rfl | rfl | rfl | rfl <;> exact ⟨_, rfl⟩
set_option maxRecDepth 100000 in
set_option maxHeartbeats 4000000 in
theorem cut_walk {W : World} {s : Sce} {ca ta : Option Addr} {cb co cl cc tb to' tl tc : Nat} {fc ft : Nat → Int} (D : ScAt W s) (E : Ints W ca cb co cl cc fc) (T : Ints W ta tb to' tl tc ft) :
    Calls Try.prog 16 #[s.val, .slice ca cl cc, .slice ta tl tc] W fun e w' => e = .returned (.bool true) ∧ Up W w' := by
  obtain ⟨M, hM⟩ : ∃ M, M = 40 := ⟨_, rfl⟩
  have HM : Hid (M = 40) := hM
  clear hM
  have HD : Hid (∀ w', Up W w' → ScAt w' s) := fun w' u => D.up u
  have HE : Hid (∀ w', Up W w' → Ints w' ca cb co cl cc fc) := fun w' u => ⟨E.lc, E.cm, E.ad, E.i64, fun k hk => (u.cell (World.block_lt_of_cell? _ _ (E.cell k hk))).trans (E.cell k hk)⟩
  have HT : Hid (∀ w', Up W w' → Ints w' ta tb to' tl tc ft) := fun w' u => ⟨T.lc, T.cm, T.ad, T.i64, fun k hk => (u.cell (World.block_lt_of_cell? _ _ (T.cell k hk))).trans (T.cell k hk)⟩
  have l1 := E.lc
  have l2 : cc ≤ 9223372036854775807 := by have := E.cm; unfold maxLen at this; omega
  have t1 := T.lc
  have t2 : tc ≤ 9223372036854775807 := by have := T.cm; unfold maxLen at this; omega
  clear D E T
  unfold Sce.val at *
  go_enter Try.func16, Try.ntmps16
  go_wp2_with fail
  have u1 : Up W (W.alloc (Obj.cells #[.slice s.ra s.rl s.rc, .slice s.oa s.ol s.oc, .slice s.pa s.pl s.pc] 37)) := (Up.refl W).alloc _
  have k1 : (W.alloc (Obj.cells #[.slice s.ra s.rl s.rc, .slice s.oa s.ol s.oc, .slice s.pa s.pl s.pc] 37)).heap[W.heap.size]? = some (.cells #[.slice s.ra s.rl s.rc, .slice s.oa s.ol s.oc, .slice s.pa s.pl s.pc] 37 (0, 0)) := heap_alloc_new W _
  generalize World.alloc W _ = w1 at u1 k1 ⊢
  have HR : Hid (∀ w', Up w1 w' → w'.rangeAt W.heap.size 0 [.slice s.ra s.rl s.rc, .slice s.oa s.ol s.oc, .slice s.pa s.pl s.pc]) := fun w' u => by
    have h1 := (u.block _ (Array.getElem?_eq_some_iff.1 k1).1).trans k1
    exact range3 (by rw [cell_of_row _ _ _ _ _ _ h1]; rfl) (by rw [cell_of_row _ _ _ _ _ _ h1]; rfl) (by rw [cell_of_row _ _ _ _ _ _ h1]; rfl)
  have H1 : Hid (Up W w1) := u1
  clear u1 k1
  generalize hsb : W.heap.size = sb at HR ⊢
  clear hsb
  have HN1 : Hid _ := newP_any w1
  generalize hbx : w1.heap.size = bx at HN1
  have HBX : Hid (w1.heap.size = bx) := hbx
  clear hbx
  refine Calls.mono HN1.out ?_
  rintro e w2 ⟨rfl, h2, u2⟩
  have H2 : Hid (PxAt w2 bx newPic ∧ Up w1 w2) := ⟨h2, u2⟩
  clear h2 u2 HN1
  go_wp2_with fail
  have HN2 : Hid _ := newP_any w2
  generalize hba : w2.heap.size = ba at HN2
  have HBA : Hid (w2.heap.size = ba) := hba
  clear hba
  refine Calls.mono HN2.out ?_
  rintro e w3 ⟨rfl, h3, u3⟩
  have H3 : Hid (PxAt w3 bx newPic ∧ PxAt w3 ba newPic ∧ Up w1 w3 ∧ w1.heap.size ≤ bx ∧ bx < ba) := ⟨H2.out.1.up u3, h3, H2.out.2.trans u3, Nat.le_of_eq HBX.out, by have := H2.out.1.lt; have := HBA.out; omega⟩
  clear h3 u3 HN2 H2 HBX HBA
  have HUx : Hid (∀ w', Fr bx w3 w' → Up w1 w') := fun w' f => Fr.up H3.out.2.2.1 H3.out.2.2.2.1 f
  have HR3 : Hid _ := HR.out _ H3.out.2.2.1
  have HS3 : Hid _ := setZ_any s newPic_sane newPic_bl H3.out.1 (fun w' f => HD.out w' (H1.out.trans (HUx.out w' f)))
  unfold Sce.val at HS3
  go_wp2_with (refine wpList_load_mid rfl 37 _ rfl sb 0 rfl [.slice s.ra s.rl s.rc, .slice s.oa s.ol s.oc, .slice s.pa s.pl s.pc] _ HR3.out Try.underlying37 rfl (by kernel_rfl) ?_)
  refine Calls.mono HS3.out ?_
  rintro e w4 ⟨rfl, ⟨q0, h4, s4, z4⟩, F4⟩
  have H4 : Hid (PxAt w4 bx q0 ∧ PxAt w4 ba newPic ∧ Up w1 w4 ∧ w1.heap.size ≤ ba) := ⟨h4, H3.out.2.1.frB F4 (by have := H3.out.2.2.2.2; omega), HUx.out _ F4, by have := H3.out.2.2.2; omega⟩
  have HQ : Hid (Scn s q0 ∧ ∀ k, k < 23040 → q0.sh k = 0) := ⟨s4, z4⟩
  clear h4 s4 z4 F4 HS3 HR3 HUx
  have HUy : Hid (∀ w', Fr ba w4 w' → Up w1 w') := fun w' f => Fr.up H4.out.2.2.1 H4.out.2.2.2 f
  have HR4 : Hid _ := HR.out _ H4.out.2.2.1
  have HS4 : Hid _ := setZ_any s newPic_sane newPic_bl H4.out.2.1 (fun w' f => HD.out w' (H1.out.trans (HUy.out w' f)))
  unfold Sce.val at HS4
  go_wp2_with (refine wpList_load_mid rfl 37 _ rfl sb 0 rfl [.slice s.ra s.rl s.rc, .slice s.oa s.ol s.oc, .slice s.pa s.pl s.pc] _ HR4.out Try.underlying37 rfl (by kernel_rfl) ?_)
  refine Calls.mono HS4.out ?_
  rintro e w5 ⟨rfl, ⟨q1, h5, s5, z5⟩, F5⟩
  have H5 : Hid (∃ K n p, Cu W K bx ba w5.heap.size n p (w5.alloc (Obj.cells #[.slice none 0 0] 66))) := Cu.new (H4.out.1.frB F5 (by have := H3.out.2.2.2.2; omega)) (h5.same (scn_cell s5 HQ.out.1 z5 HQ.out.2)) HQ.out.1.sane (by have := H3.out.2.2.2.2; omega) (Nat.le_trans H1.out.size H3.out.2.2.2.1) (Nat.le_trans H1.out.size H4.out.2.2.2) (H1.out.trans (HUy.out _ F5))
  clear h5 s5 z5 F5 HS4 HR4 HUy H4 H3 HQ H1 HR HD
  go_wp2_with fail
  generalize w5.heap.size = bk at H5 ⊢
  generalize World.alloc w5 _ = w6 at H5 ⊢
  go_loopw [8, 10, 11, 12, 13, 14, 15, 16] (fun Y I _ _ _ _ _ _ wr => ∃ i ba : Nat, i ≤ 6 ∧ I = .int .i64 i ∧ Y = .pointer (some ⟨ba, 0, none⟩) ∧ Hid (∃ K n p, Cu W K bx ba bk n p wr)) (fun _ I _ _ _ _ _ _ _ => 6 - (intOf I).toNat)
  case atStart => exact ⟨0, ba, by omega, rfl, rfl, H5⟩
  case round =>
    clear H5
    obtain ⟨i, ba, hi, rfl, rfl, M0⟩ := hrel
    by_cases hgo : i < cl ∧ i < 6
    · have d1 : decide ((i : Int) < (cl : Int)) = true := decide_eq_true (by omega)
      have d2 : decide ((i : Int) < 6) = true := decide_eq_true (by omega)
      have e1 : (i : Int) < (cl : Int) := by omega
      have e2 : (i : Int) < 6 := by omega
      obtain ⟨hlt, hi6⟩ := hgo
      obtain ⟨K0, n0, p0, C0⟩ := M0.out
      have ee := HE.out wr C0.up
      obtain rfl := ee.ad (by omega)
      have kc := ee.cell i hlt
      have ic := ee.i64 i
      have HPk : Hid (∀ W, Calls Try.prog 19 #[.int .i64 (fc i), .int .i64 9000] W fun e w' => e = .returned (.int .i64 (pickI (fc i) 9000)) ∧ w' = W) := fun W => pick_any (fc i) 9000 W ic (by decide) (by decide)
      have p1 := pickI_lo (fc i) 9000 (by decide)
      have p2 := pickI_hi (fc i) 9000 (by decide)
      have HKC : Hid (∀ w', Up W w' → w'.cell? ⟨cb, co + i, none⟩ = some (.int .i64 (fc i))) := fun w' u => (HE.out w' u).cell i hlt
      clear ee C0 ic
      generalize fc i = X at *
      generalize pickI X 9000 = KI at *
      obtain ⟨KN, rfl⟩ := Int.eq_ofNat_of_zero_le p1
      go_wp2_with fail
      refine (HPk.out _).mono ?_
      rintro e w' ⟨rfl, hw'⟩
      obtain rfl := hw'.symm
      clear HPk kc
      go_wp2_with fail
      obtain ⟨wo, rfl⟩ : ∃ wo : World, wo = wr := ⟨_, rfl⟩
      go_loopw [11, 12, 13] (fun J _ _ wr => ∃ j : Nat, j ≤ KN + 1 ∧ J = .int .i64 ((j : Int) - 1) ∧ Hid (∃ K n p, Cu W K bx ba bk n p wr)) (fun J _ _ _ => (intOf J + 1).toNat)
      case atStart => exact ⟨KN + 1, by omega, by simp, M0⟩
      case round =>
        clear M0
        obtain ⟨j, hj, rfl, M1⟩ := hrel
        by_cases hj0 : j = 0
        · subst hj0
          obtain ⟨K1, n1, p3, C1⟩ := M1.out
          have HC1 : Hid (Cu W K1 bx ba bk n1 p3 wr) := C1
          have HN3 : Hid _ := newP_any wr
          clear C1 M1
          generalize hbz : wr.heap.size = bz at HN3
          have HBZ : Hid (wr.heap.size = bz) := hbz
          clear hbz
          go_wp2_with fail
          refine Calls.mono HN3.out ?_
          rintro e w7 ⟨rfl, h7, u7⟩
          have kc7 := HKC.out w7 (HC1.out.up.trans u7)
          have H7 : Hid (PxAt w7 bz newPic ∧ Up wr w7) := ⟨h7, u7⟩
          clear h7 u7 HN3
          go_wp2_with fail
          refine (write_any 65344 X _ H7.out.1).mono ?_
          rintro e w8 ⟨rfl, h8, F8⟩
          have H8 : Hid (PxAt w8 bz (newPic.wr 65344 X) ∧ Up wr w8) := ⟨h8, Fr.up H7.out.2 (Nat.le_of_eq HBZ.out) F8⟩
          have HS8 : Hid (Sane (newPic.wr 65344 X)) := newPic_sane.wr _ _
          clear h8 F8 H7 kc7
          generalize newPic.wr 65344 X = r0 at *
          go_wp2_with fail
          refine (HS8.out.tickC HM.out _ H8.out.1).mono ?_
          rintro e w9 ⟨rfl, h9, F9⟩
          have H9 : Hid (PxAt w9 bz (r0.tickP (Pic.lineA M)) ∧ Up wr w9) := ⟨h9, Fr.up H8.out.2 (Nat.le_of_eq HBZ.out) F9⟩
          have HMv : Hid _ := HC1.out.zed H9.out.2 (Nat.le_of_eq HBZ.out) H9.out.1 (HS8.out.tick M)
          clear h9 F9 H8 HS8
          generalize r0.tickA (Pic.lineA M) = av
          go_wp2_with fail
          refine Calls.mono HMv.out ?_
          rintro e w10 ⟨rfl, h10⟩
          have H10 : Hid (∃ K n p, Cu W K bx bz bk n p w10) := h10
          clear h10 HMv H9 HC1 HBZ HKC
          by_cases htl : i < tl
          · have d3 : decide ((i : Int) < (tl : Int)) = true := decide_eq_true (by omega)
            have e3 : (i : Int) < (tl : Int) := by omega
            obtain ⟨K2, n2, p4, C2⟩ := H10.out
            have tt := HT.out w10 C2.up
            obtain rfl := tt.ad (by omega)
            have it := tt.i64 i
            have HP8 : Hid (∀ W, Calls Try.prog 19 #[.int .i64 (ft i), .int .i64 8192] W fun e w' => e = .returned (.int .i64 (pickI (ft i) 8192)) ∧ w' = W) := fun W => pick_any (ft i) 8192 W it (by decide) (by decide)
            have HP9 : Hid (∀ W, Calls Try.prog 19 #[.int .i64 (ft i), .int .i64 9] W fun e w' => e = .returned (.int .i64 (pickI (ft i) 9)) ∧ w' = W) := fun W => pick_any (ft i) 9 W it (by decide) (by decide)
            have a1 := pickI_lo (ft i) 8192 (by decide)
            have a2 := pickI_hi (ft i) 8192 (by decide)
            have b1 := pickI_lo (ft i) 9 (by decide)
            have b2 := pickI_hi (ft i) 9 (by decide)
            have HKT : Hid (∀ w', Up w10 w' → w'.cell? ⟨tb, to' + i, none⟩ = some (.int .i64 (ft i))) := fun w' u => (HT.out w' (C2.up.trans u)).cell i htl
            have HC2 : Hid (Cu W K2 bx bz bk n2 p4 w10) := C2
            have HYC : Hid (∀ w', Up W w' → w'.cell? ⟨tb, to' + i, none⟩ = some (.int .i64 (ft i))) := fun w' u => (HT.out w' u).cell i htl
            clear tt it C2 H10
            generalize ft i = Y at *
            generalize pickI Y 8192 = AI at *
            generalize pickI Y 9 = BI at *
            obtain ⟨BN, rfl⟩ := Int.eq_ofNat_of_zero_le b1
            have HU : Hid (Up w10 w10.drew) := (Up.refl _).drew
            have e9 : (BN : Int) < ((9 : Nat) : Int) := by omega
            -- what is written behind the region
            go_wp2_with fail
            refine wp_region_held_drew (S := fun w' => w'.cell? ⟨tb, to' + i, none⟩ = some (.int .i64 Y)) (by kernel_rfl) ?_ (fun hHeld => ?_)
            · (try dsimp only); exact HKT.out _ HU.out
            refine wpAnyH_take (i := 0) (v := ?_) (by simp only [List.getElem?_toArray, List.getElem?_cons_zero]; rfl) (by kernel_rfl) (by kernel_rfl) (by kernel_rfl) (by intro _ _ _ h; exact h) (Or.inl ⟨by rfl, ?_⟩) (by assumption) ?_
            rotate_left
            · (intro w hSw; (try dsimp only at hSw); go_simp <;> with_reducible rfl)
            try simp only [Act.put, List.setIfInBounds_toArray, List.set_cons_zero, List.set_cons_succ]
            refine wpAnyH_take (i := 1) (v := ?_) (by simp only [List.getElem?_toArray, List.getElem?_cons_succ, List.getElem?_cons_zero]; rfl) (by kernel_rfl) (by kernel_rfl) (by kernel_rfl) (by intro _ _ _ h; exact h) (Or.inl ⟨by rfl, ?_⟩) (by assumption) ?_
            rotate_left
            · (intro w hSw; (try dsimp only at hSw); go_simp <;> with_reducible rfl)
            try simp only [Act.put, List.setIfInBounds_toArray, List.set_cons_zero, List.set_cons_succ]
            refine wpAnyH_take (i := 2) (v := ?_) (by simp only [List.getElem?_toArray, List.getElem?_cons_succ, List.getElem?_cons_zero]; rfl) (by kernel_rfl) (by kernel_rfl) (by kernel_rfl) (by intro _ _ _ h; exact h) (Or.inl ⟨by rfl, ?_⟩) (by assumption) ?_
            rotate_left
            · (intro w hSw; (try dsimp only at hSw); go_simp <;> with_reducible rfl)
            try simp only [Act.put, List.setIfInBounds_toArray, List.set_cons_zero, List.set_cons_succ]
            refine wpAnyH_take (i := 3) (v := ?_) (by simp only [List.getElem?_toArray, List.getElem?_cons_succ, List.getElem?_cons_zero]; rfl) (by kernel_rfl) (by kernel_rfl) (by kernel_rfl) (by intro _ _ _ h; exact h) (Or.inl ⟨by rfl, ?_⟩) (by assumption) ?_
            rotate_left
            · (intro w hSw; (try dsimp only at hSw); go_simp <;> with_reducible rfl)
            try simp only [Act.put, List.setIfInBounds_toArray, List.set_cons_zero, List.set_cons_succ]
            refine wpAnyH_take (i := 7) (v := ?_) (by simp only [List.getElem?_toArray, List.getElem?_cons_succ, List.getElem?_cons_zero]; rfl) (by kernel_rfl) (by kernel_rfl) (by kernel_rfl) (by intro _ _ _ h; exact h) (Or.inl ⟨by rfl, ?_⟩) (by assumption) ?_
            rotate_left
            · (intro w hSw; (try dsimp only at hSw); go_simp <;> with_reducible rfl)
            try simp only [Act.put, List.setIfInBounds_toArray, List.set_cons_zero, List.set_cons_succ]
            refine wpAnyH_take (i := 8) (v := ?_) (by simp only [List.getElem?_toArray, List.getElem?_cons_succ, List.getElem?_cons_zero]; rfl) (by kernel_rfl) (by kernel_rfl) (by kernel_rfl) (by intro _ _ _ h; exact h) (Or.inl ⟨by rfl, ?_⟩) (by assumption) ?_
            rotate_left
            · (intro w hSw; (try dsimp only at hSw); go_simp <;> with_reducible rfl)
            try simp only [Act.put, List.setIfInBounds_toArray, List.set_cons_zero, List.set_cons_succ]
            refine wpAnyH_take (i := 9) (v := ?_) (by simp only [List.getElem?_toArray, List.getElem?_cons_succ, List.getElem?_cons_zero]; rfl) (by kernel_rfl) (by kernel_rfl) (by kernel_rfl) (by intro _ _ _ h; exact h) (Or.inl ⟨by rfl, ?_⟩) (by assumption) ?_
            rotate_left
            · (intro w hSw; (try dsimp only at hSw); go_simp <;> with_reducible rfl)
            try simp only [Act.put, List.setIfInBounds_toArray, List.set_cons_zero, List.set_cons_succ]
            refine wpAnyH_take (i := 10) (v := ?_) (by simp only [List.getElem?_toArray, List.getElem?_cons_succ, List.getElem?_cons_zero]; rfl) (by kernel_rfl) (by kernel_rfl) (by kernel_rfl) (by intro _ _ _ h; exact h) (Or.inl ⟨by rfl, ?_⟩) (by assumption) ?_
            rotate_left
            · (intro w hSw; (try dsimp only at hSw); go_simp <;> with_reducible rfl)
            try simp only [Act.put, List.setIfInBounds_toArray, List.set_cons_zero, List.set_cons_succ]
            refine wpAnyH_ready (rs := [4]) (by kernel_rfl) (by simp) ?_
            refine AllReadyH.cons (by simp only [List.getElem?_toArray, List.getElem?_cons_succ, List.getElem?_cons_zero]; rfl) (fun K hK => ?_) AllReadyH.nil
            go_simp
            refine (HP8.out _).mono ?_
            rintro e w' ⟨rfl, hw'⟩
            obtain rfl := hw'.symm
            refine hK.out _ _ ?_ (fun hHeld => ?_)
            · (try dsimp only); exact HKT.out _ HU.out
            clear hK K
            try simp only [Act.put, List.setIfInBounds_toArray, List.set_cons_zero, List.set_cons_succ]
            refine wpAnyH_take (i := 5) (v := ?_) (by simp only [List.getElem?_toArray, List.getElem?_cons_succ, List.getElem?_cons_zero]; rfl) (by kernel_rfl) (by kernel_rfl) (by kernel_rfl) (by intro _ _ _ h; exact h) (Or.inl ⟨by rfl, ?_⟩) (by assumption) ?_
            rotate_left
            · (intro w hSw; (try dsimp only at hSw); go_simp <;> with_reducible rfl)
            try simp only [Act.put, List.setIfInBounds_toArray, List.set_cons_zero, List.set_cons_succ]
            refine wpAnyH_ready (rs := [6, 11]) (by kernel_rfl) (by simp) ?_
            refine AllReadyH.cons (by simp only [List.getElem?_toArray, List.getElem?_cons_succ, List.getElem?_cons_zero]; rfl) (fun K hK => ?_) (AllReadyH.cons (by simp only [List.getElem?_toArray, List.getElem?_cons_succ, List.getElem?_cons_zero]; rfl) (fun K hK => ?_) AllReadyH.nil)
            · skip
              go_simp
              have ub : Up w10 (w10.alloc (Obj.cells #[.int .i64 65344, .int .i64 65345, .int .i64 65346, .int .i64 65347, .int .i64 65349, .int .i64 65351, .int .i64 65354, .int .i64 65355, .int .i64 (IntKind.i64.wrap (32768 + AI))] 3)).drew := ((Up.refl w10).alloc _).drew
              have kb : (w10.alloc (Obj.cells #[.int .i64 65344, .int .i64 65345, .int .i64 65346, .int .i64 65347, .int .i64 65349, .int .i64 65351, .int .i64 65354, .int .i64 65355, .int .i64 (IntKind.i64.wrap (32768 + AI))] 3)).drew.heap[w10.heap.size]? = some (.cells #[.int .i64 65344, .int .i64 65345, .int .i64 65346, .int .i64 65347, .int .i64 65349, .int .i64 65351, .int .i64 65354, .int .i64 65355, .int .i64 (IntKind.i64.wrap (32768 + AI))] 3 (0, 0)) := heap_alloc_new w10 _
              obtain ⟨AT, kat⟩ := nineAt kb BN (by omega)
              have kat2 := kat
              rw [Nat.zero_add] at kat2
              generalize (World.drew (World.alloc w10 _)) = wb at ub kb kat kat2 ⊢
              generalize w10.heap.size = gb at kb kat kat2 ⊢
              refine hK.out _ _ ?_ (fun hHeld => ?_)
              · (try dsimp only); exact HKT.out _ ub
              clear hK K
              try simp only [Act.put, List.setIfInBounds_toArray, List.set_cons_zero, List.set_cons_succ]
              refine wpAnyH_ready (rs := [11]) (by kernel_rfl) (by simp) ?_
              refine AllReadyH.cons (by simp only [List.getElem?_toArray, List.getElem?_cons_succ, List.getElem?_cons_zero]; rfl) (fun K hK => ?_) AllReadyH.nil
              go_simp
              refine (HP9.out _).mono ?_
              rintro e w' ⟨rfl, hw'⟩
              obtain rfl := hw'.symm
              refine hK.out _ _ ?_ (fun hHeld => ?_)
              · (try dsimp only); exact HKT.out _ ub
              clear hK K
              try simp only [Act.put, List.setIfInBounds_toArray, List.set_cons_zero, List.set_cons_succ]
              refine wpAnyH_take (i := 12) (v := ?_) (by simp only [List.getElem?_toArray, List.getElem?_cons_succ, List.getElem?_cons_zero]; rfl) (by kernel_rfl) (by kernel_rfl) (by kernel_rfl) (by intro _ _ _ h; exact h) (Or.inl ⟨by rfl, ?_⟩) (by assumption) ?_
              rotate_left
              · (intro w hSw; (try dsimp only at hSw); go_simp <;> with_reducible rfl)
              try simp only [Act.put, List.setIfInBounds_toArray, List.set_cons_zero, List.set_cons_succ]
              refine wpAnyH_ready (rs := [13]) (by kernel_rfl) (by simp) ?_
              refine AllReadyH.cons (by simp only [List.getElem?_toArray, List.getElem?_cons_succ, List.getElem?_cons_zero]; rfl) (fun K hK => ?_) AllReadyH.nil
              go_simp
              refine hK.out _ _ ?_ (fun hHeld => ?_)
              · (try dsimp only); exact HKT.out _ ub
              clear hK K
              try simp only [Act.put, List.setIfInBounds_toArray, List.set_cons_zero, List.set_cons_succ]
              refine wpAnyH_take (i := 14) (v := ?_) (by simp only [List.getElem?_toArray, List.getElem?_cons_succ, List.getElem?_cons_zero]; rfl) (by kernel_rfl) (by kernel_rfl) (by kernel_rfl) (by intro _ _ _ h; exact h) (Or.inl ⟨by rfl, ?_⟩) (by assumption) ?_
              rotate_left
              · (intro w hSw; (try dsimp only at hSw); go_simp <;> with_reducible rfl)
              try simp only [Act.put, List.setIfInBounds_toArray, List.set_cons_zero, List.set_cons_succ]
              refine wpAnyH_done (by kernel_rfl) ?_ _
              have HCb : Hid (Cu W K2 bx bz bk n2 p4 wb) := HC2.out.more ub
              have ktb := HKT.out wb ub
              clear kat kat2 kb hHeld HP8 HP9 HU ub HC2 HKT
              go_wp2_with fail
              refine (write_any _ _ _ HCb.out.px).mono ?_
              rintro e w11 ⟨rfl, h11, F11⟩
              have H11 : Hid (PxAt w11 bx (p4.wr AT (wrap64 (Y.tdiv 9))) ∧ Fr bx wb w11) := ⟨h11, F11⟩
              have k11 : w11.cell? ⟨tb, to' + i, none⟩ = some (.int .i64 Y) := HYC.out w11 (Fr.up HCb.out.up HCb.out.nx F11)
              clear h11 F11 ktb
              have py11 : Hid (PxAt w11 bz p4) := HCb.out.py.frB H11.out.2 (fun e => HCb.out.ne e.symm)
              go_wp2_with fail
              refine (write_any _ _ _ py11.out).mono ?_
              rintro e w12 ⟨rfl, h12, F12⟩
              have H12 : Hid (∃ K n p, Cu W K bx bz bk n p w12) := ⟨K2, n2, _, HCb.out.both (HCb.out.sane.wr AT (wrap64 (Y.tdiv 9))) H11.out.1 H11.out.2 h12 F12⟩
              clear h12 F12 k11 py11 H11 HCb
              go_wp2_with fail
              refine ⟨⟨i + 1, bz, by omega, ?_, rfl, H12⟩, ?_⟩
              · first | rfl | (simp; done)
              · simp [intOf]
                try omega
            · skip
              go_simp
              refine (HP9.out _).mono ?_
              rintro e w' ⟨rfl, hw'⟩
              obtain rfl := hw'.symm
              refine hK.out _ _ ?_ (fun hHeld => ?_)
              · (try dsimp only); exact HKT.out _ HU.out
              clear hK K
              try simp only [Act.put, List.setIfInBounds_toArray, List.set_cons_zero, List.set_cons_succ]
              refine wpAnyH_ready (rs := [6]) (by kernel_rfl) (by simp) ?_
              refine AllReadyH.cons (by simp only [List.getElem?_toArray, List.getElem?_cons_succ, List.getElem?_cons_zero]; rfl) (fun K hK => ?_) AllReadyH.nil
              go_simp
              have ub : Up w10 (w10.alloc (Obj.cells #[.int .i64 65344, .int .i64 65345, .int .i64 65346, .int .i64 65347, .int .i64 65349, .int .i64 65351, .int .i64 65354, .int .i64 65355, .int .i64 (IntKind.i64.wrap (32768 + AI))] 3)).drew := ((Up.refl w10).alloc _).drew
              have kb : (w10.alloc (Obj.cells #[.int .i64 65344, .int .i64 65345, .int .i64 65346, .int .i64 65347, .int .i64 65349, .int .i64 65351, .int .i64 65354, .int .i64 65355, .int .i64 (IntKind.i64.wrap (32768 + AI))] 3)).drew.heap[w10.heap.size]? = some (.cells #[.int .i64 65344, .int .i64 65345, .int .i64 65346, .int .i64 65347, .int .i64 65349, .int .i64 65351, .int .i64 65354, .int .i64 65355, .int .i64 (IntKind.i64.wrap (32768 + AI))] 3 (0, 0)) := heap_alloc_new w10 _
              obtain ⟨AT, kat⟩ := nineAt kb BN (by omega)
              have kat2 := kat
              rw [Nat.zero_add] at kat2
              generalize (World.drew (World.alloc w10 _)) = wb at ub kb kat kat2 ⊢
              generalize w10.heap.size = gb at kb kat kat2 ⊢
              refine hK.out _ _ ?_ (fun hHeld => ?_)
              · (try dsimp only); exact HKT.out _ ub
              clear hK K
              try simp only [Act.put, List.setIfInBounds_toArray, List.set_cons_zero, List.set_cons_succ]
              refine wpAnyH_take (i := 12) (v := ?_) (by simp only [List.getElem?_toArray, List.getElem?_cons_succ, List.getElem?_cons_zero]; rfl) (by kernel_rfl) (by kernel_rfl) (by kernel_rfl) (by intro _ _ _ h; exact h) (Or.inl ⟨by rfl, ?_⟩) (by assumption) ?_
              rotate_left
              · (intro w hSw; (try dsimp only at hSw); go_simp <;> with_reducible rfl)
              try simp only [Act.put, List.setIfInBounds_toArray, List.set_cons_zero, List.set_cons_succ]
              refine wpAnyH_ready (rs := [13]) (by kernel_rfl) (by simp) ?_
              refine AllReadyH.cons (by simp only [List.getElem?_toArray, List.getElem?_cons_succ, List.getElem?_cons_zero]; rfl) (fun K hK => ?_) AllReadyH.nil
              go_simp
              refine hK.out _ _ ?_ (fun hHeld => ?_)
              · (try dsimp only); exact HKT.out _ ub
              clear hK K
              try simp only [Act.put, List.setIfInBounds_toArray, List.set_cons_zero, List.set_cons_succ]
              refine wpAnyH_take (i := 14) (v := ?_) (by simp only [List.getElem?_toArray, List.getElem?_cons_succ, List.getElem?_cons_zero]; rfl) (by kernel_rfl) (by kernel_rfl) (by kernel_rfl) (by intro _ _ _ h; exact h) (Or.inl ⟨by rfl, ?_⟩) (by assumption) ?_
              rotate_left
              · (intro w hSw; (try dsimp only at hSw); go_simp <;> with_reducible rfl)
              try simp only [Act.put, List.setIfInBounds_toArray, List.set_cons_zero, List.set_cons_succ]
              refine wpAnyH_done (by kernel_rfl) ?_ _
              have HCb : Hid (Cu W K2 bx bz bk n2 p4 wb) := HC2.out.more ub
              have ktb := HKT.out wb ub
              clear kat kat2 kb hHeld HP8 HP9 HU ub HC2 HKT
              go_wp2_with fail
              refine (write_any _ _ _ HCb.out.px).mono ?_
              rintro e w11 ⟨rfl, h11, F11⟩
              have H11 : Hid (PxAt w11 bx (p4.wr AT (wrap64 (Y.tdiv 9))) ∧ Fr bx wb w11) := ⟨h11, F11⟩
              have k11 : w11.cell? ⟨tb, to' + i, none⟩ = some (.int .i64 Y) := HYC.out w11 (Fr.up HCb.out.up HCb.out.nx F11)
              clear h11 F11 ktb
              have py11 : Hid (PxAt w11 bz p4) := HCb.out.py.frB H11.out.2 (fun e => HCb.out.ne e.symm)
              go_wp2_with fail
              refine (write_any _ _ _ py11.out).mono ?_
              rintro e w12 ⟨rfl, h12, F12⟩
              have H12 : Hid (∃ K n p, Cu W K bx bz bk n p w12) := ⟨K2, n2, _, HCb.out.both (HCb.out.sane.wr AT (wrap64 (Y.tdiv 9))) H11.out.1 H11.out.2 h12 F12⟩
              clear h12 F12 k11 py11 H11 HCb
              go_wp2_with fail
              refine ⟨⟨i + 1, bz, by omega, ?_, rfl, H12⟩, ?_⟩
              · first | rfl | (simp; done)
              · simp [intOf]
                try omega
          · have d3 : decide ((i : Int) < (tl : Int)) = false := decide_eq_false (by omega)
            have e3 : ¬ (i : Int) < (tl : Int) := by omega
            go_wp2_with fail
            refine ⟨⟨i + 1, bz, by omega, ?_, rfl, H10⟩, ?_⟩
            · first | rfl | (simp; done)
            · simp [intOf]
              omega
        · obtain ⟨j2, rfl⟩ : ∃ j2, j = j2 + 1 := ⟨j - 1, by omega⟩
          have ej : ((j2 + 1 : Nat) : Int) - 1 = (j2 : Int) := by omega
          rw [ej]
          clear ej hj0
          have dge : decide (0 ≤ (j2 : Int)) = true := decide_eq_true (by omega)
          obtain ⟨K1, n1, p3, C1⟩ := M1.out
          have HC1 : Hid (Cu W K1 bx ba bk n1 p3 wr) := C1
          clear C1 M1 HKC
          go_wp2_with fail
          refine (HC1.out.sane.tickC HM.out _ HC1.out.px).mono ?_
          rintro e w7 ⟨rfl, h7, F7⟩
          have H7 : Hid (PxAt w7 bx (p3.tickP (Pic.lineA M)) ∧ Fr bx wr w7) := ⟨h7, F7⟩
          clear h7 F7
          have HTy : Hid _ := HC1.out.sane.tickC HM.out w7 (HC1.out.py.frB H7.out.2 (fun e => HC1.out.ne e.symm))
          have HSq : Hid (Sane (p3.tickP (Pic.lineA M))) := HC1.out.sane.tick M
          generalize p3.tickA (Pic.lineA M) = ta' at HTy ⊢
          generalize p3.tickP (Pic.lineA M) = q4 at HTy HSq H7 ⊢
          go_wp2_with fail
          refine Calls.mono HTy.out ?_
          rintro e w8 ⟨rfl, h8, F8⟩
          have H8 : Hid (∃ K n p, Cu W K bx ba bk n p w8) := ⟨K1, n1, q4, HC1.out.both HSq.out H7.out.1 H7.out.2 h8 F8⟩
          clear h8 F8 H7 HTy HSq HC1
          have ba' : (ta' != ta') = false := by simp
          go_wp2_with fail
          refine ⟨⟨j2, by omega, ?_, H8⟩, ?_⟩
          · first | rfl | (simp; done)
          · simp [intOf]
            try omega
    · have ev : (decide ((i : Int) < (cl : Int)) && decide ((i : Int) < 6)) = false := by
        rw [Bool.and_eq_false_iff, decide_eq_false_iff_not, decide_eq_false_iff_not]
        omega
      obtain ⟨K1, n1, p3, C1⟩ := M0.out
      have HC1 : Hid (Cu W K1 bx ba bk n1 p3 wr) := C1
      obtain ⟨S1, hS1⟩ : ∃ S, S = strN 19887 p3.st := ⟨_, rfl⟩
      obtain ⟨S2, hS2⟩ : ∃ S, S = strN 23040 p3.sh := ⟨_, rfl⟩
      have HV1 : Hid (∀ w g, NmAt w g 19887 p3.st → (convert 23 9 (.slice (some ⟨g, 0, none⟩) 19887 19887)).run Try.prog w = .ok (.string S1) w) := fun w g n => by rw [hS1]; exact n.conv 19887
      have HV2 : Hid (∀ w g, NmAt w g 23040 p3.sh → (convert 23 9 (.slice (some ⟨g, 0, none⟩) 23040 23040)).run Try.prog w = .ok (.string S2) w) := fun w g n => by rw [hS2]; exact n.conv 23040
      clear C1 M0 hS1 hS2 HE HT
      have HX : Hid (∀ (hc : i < cl) (h6 : ¬ i < 6), True) := fun _ _ => trivial
      clear HX
      have HL1 : Hid _ := line_any HC1.out.sane.inn wr HC1.out.px
      by_cases hic : i < cl
      all_goals
        first
        | (have d1 : decide ((i : Int) < (cl : Int)) = true := decide_eq_true (by omega)
           have e1 : (i : Int) < (cl : Int) := by omega
           have d2 : decide ((i : Int) < 6) = false := decide_eq_false (by omega)
           have e2 : ¬ (i : Int) < 6 := by omega)
        | (have d1 : decide ((i : Int) < (cl : Int)) = false := decide_eq_false (by omega)
           have e1 : ¬ (i : Int) < (cl : Int) := by omega)
        clear hgo hi hic ev
        go_wp2_with fail
        refine Calls.mono HL1.out ?_
        rintro e w7 ⟨rfl, m7, rfl⟩
        have u7 := Up.drewN wr m7
        generalize wr.drewN m7 = w7 at u7 ⊢
        have C7 : Hid (Cu W K1 bx ba bk n1 p3 w7) := HC1.out.more u7
        clear u7 HL1 HC1
        have HL2 : Hid _ := line_any C7.out.sane.inn w7 C7.out.py
        generalize p3.rg 4 = y4 at *
        generalize p3.clk = c4 at *
        go_wp2_with fail
        refine Calls.mono HL2.out ?_
        rintro e w8 ⟨rfl, m8, rfl⟩
        have u8 := Up.drewN w7 m8
        generalize w7.drewN m8 = w8 at u8 ⊢
        have C8 : Hid (Cu W K1 bx ba bk n1 p3 w8) := C7.out.more u8
        clear u8 HL2 C7
        have HA1 : Hid _ := state_any C8.out.sane w8 C8.out.px
        generalize hg1 : w8.heap.size = g1 at HA1
        clear hg1
        go_wp2_with fail
        refine Calls.mono HA1.out ?_
        rintro e w9 ⟨rfl, n9, u9⟩
        have C9 : Hid (Cu W K1 bx ba bk n1 p3 w9 ∧ NmAt w9 g1 19887 p3.st) := ⟨C8.out.more u9, n9⟩
        clear u9 n9 HA1 C8
        have HA2 : Hid _ := state_any C9.out.1.sane w9 C9.out.1.py
        generalize hg2 : w9.heap.size = g2 at HA2
        clear hg2
        go_wp2_with fail
        refine Calls.mono HA2.out ?_
        rintro e w10 ⟨rfl, n10, u10⟩
        have C10 : Hid (Cu W K1 bx ba bk n1 p3 w10 ∧ NmAt w10 g1 19887 p3.st ∧ NmAt w10 g2 19887 p3.st) := ⟨C9.out.1.more u10, C9.out.2.of_block (u10.block _ C9.out.2.lt), n10⟩
        clear u10 n10 HA2 C9
        have HA3 : Hid _ := frame_any w10 C10.out.1.px
        generalize hg3 : w10.heap.size = g3 at HA3
        clear hg3
        go_wp2_with fail
        refine Calls.mono HA3.out ?_
        rintro e w11 ⟨rfl, n11, u11⟩
        have C11 : Hid (Cu W K1 bx ba bk n1 p3 w11 ∧ NmAt w11 g1 19887 p3.st ∧ NmAt w11 g2 19887 p3.st ∧ NmAt w11 g3 23040 p3.sh) := ⟨C10.out.1.more u11, C10.out.2.1.of_block (u11.block _ C10.out.2.1.lt), C10.out.2.2.of_block (u11.block _ C10.out.2.2.lt), n11⟩
        clear u11 n11 HA3 C10
        have HA4 : Hid _ := frame_any w11 C11.out.1.py
        generalize hg4 : w11.heap.size = g4 at HA4
        clear hg4
        go_wp2_with fail
        refine Calls.mono HA4.out ?_
        rintro e w12 ⟨rfl, n12, u12⟩
        have C12 : Hid (Cu W K1 bx ba bk n1 p3 w12 ∧ NmAt w12 g1 19887 p3.st ∧ NmAt w12 g2 19887 p3.st ∧ NmAt w12 g3 23040 p3.sh ∧ NmAt w12 g4 23040 p3.sh) := ⟨C11.out.1.more u12, C11.out.2.1.of_block (u12.block _ C11.out.2.1.lt), C11.out.2.2.1.of_block (u12.block _ C11.out.2.2.1.lt), C11.out.2.2.2.of_block (u12.block _ C11.out.2.2.2.lt), n12⟩
        clear u12 n12 HA4 C11
        have HA5 : Hid _ := looks_any C12.out.1.bk
        go_wp2_with fail
        refine Calls.mono HA5.out ?_
        rintro e w13 ⟨rfl, u13⟩
        have c1 := HV1.out w13 g1 (C12.out.2.1.of_block (u13.block _ C12.out.2.1.lt))
        have c2 := HV1.out w13 g2 (C12.out.2.2.1.of_block (u13.block _ C12.out.2.2.1.lt))
        have c3 := HV2.out w13 g3 (C12.out.2.2.2.1.of_block (u13.block _ C12.out.2.2.2.1.lt))
        have c4 := HV2.out w13 g4 (C12.out.2.2.2.2.of_block (u13.block _ C12.out.2.2.2.2.lt))
        have HU : Hid (Up W w13) := C12.out.1.up.trans u13
        clear u13 HA5 C12 HV1 HV2
        go_wp2_with fail
        go_ret
        exact ⟨by first | rfl | (simp; done), HU.out⟩
end Go.Proofs.Ytmjfccdhjhkocaa
