/- ArenaSpans: the walk. -/
import Derived.Test.YtdiaafhnjkimlaaArY
import Derived.Deep.DeepCutAuto
namespace Go.Proofs.Ytdiaafhnjkimlaa
open Go.RowKit
set_option linter.unusedVariables false
variable {W : World}
theorem byts_up {w w' : World} {sa : Option Addr} {sb so sl sc : Nat} {f : Nat → Int} (D : Byts w sa sb so sl sc f) (u : Up w w') : Byts w' sa sb so sl sc f := ⟨D.lc, D.cm, D.ad, D.u8, fun k hk => (u.cell (World.block_lt_of_cell? _ _ (D.cell k hk))).trans (D.cell k hk)⟩
theorem wrapIn (n : Int) (h : -9223372036854775808 ≤ n ∧ n ≤ 9223372036854775807) : IntKind.i64.wrap n = n := by
  rw [IntKind.wrap_i64]
  omega
set_option maxRecDepth 100000 in
set_option maxHeartbeats 4000000 in
theorem spans_walk {sa : Option Addr} {sb so sl sc : Nat} {f : Nat → Int} {z0 a0 r0 : Int} (D : Byts W sa sb so sl sc f) (hz : I64 z0) (ha : I64 a0) (hr : I64 r0) :
    Calls Try.prog 5 #[.int .i64 z0, .int .i64 a0, .slice sa sl sc, .int .i64 r0] W fun e w' => e = .returned (.bool true) ∧ Up W w' := by
  have HPz : Hid (∀ W, Calls Try.prog 11 #[.int .i64 z0, .int .i64 300] W fun e w' => e = .returned (.int .i64 (pickI z0 300)) ∧ w' = W) := fun W => pick_any z0 300 W hz (by decide) (by decide)
  have z1 := pickI_lo z0 300 (by decide)
  have z2 := pickI_hi z0 300 (by decide)
  have HPr : Hid (∀ W, Calls Try.prog 11 #[.int .i64 r0, .int .i64 1099511627776] W fun e w' => e = .returned (.int .i64 (pickI r0 1099511627776)) ∧ w' = W) := fun W => pick_any r0 1099511627776 W hr (by decide) (by decide)
  have r1 := pickI_lo r0 1099511627776 (by decide)
  have r2 := pickI_hi r0 1099511627776 (by decide)
  have l1 := D.lc
  have l2 : sc ≤ 9223372036854775807 := by have := D.cm; unfold maxLen at this; omega
  have HD : Hid (Byts W sa sb so sl sc f ∧ (0 < sl → sb < W.heap.size)) := ⟨D, fun h => World.block_lt_of_cell? _ _ (D.cell 0 h)⟩
  generalize pickI r0 1099511627776 = FR at *
  generalize pickI z0 300 = ZI at *
  obtain ⟨m, rfl⟩ := Int.eq_ofNat_of_zero_le z1
  obtain ⟨n, hn⟩ : ∃ n, n = 1 + m := ⟨_, rfl⟩
  have hn1 : 1 ≤ n := by omega
  have hn2 : n ≤ 300 := by omega
  have en : (1 : Int) + (m : Int) = (n : Int) := by omega
  have HPa : Hid (∀ W, Calls Try.prog 11 #[.int .i64 a0, .int .i64 ((n : Int) + 1)] W fun e w' => e = .returned (.int .i64 (pickI a0 ((n : Int) + 1))) ∧ w' = W) := fun W => pick_any a0 _ W ha (by omega) (by omega)
  have a1 := pickI_lo a0 ((n : Int) + 1) (by omega)
  have a2 := pickI_hi a0 ((n : Int) + 1) (by omega)
  generalize pickI a0 ((n : Int) + 1) = AI at *
  obtain ⟨k, rfl⟩ := Int.eq_ofNat_of_zero_le a1
  have hk : k ≤ n := by omega
  have HC : Hid (Cfg [(n, 2)] 1) := by
    refine ⟨by show 1 ≤ 1; decide, by show 1 ≤ 8; decide, by decide, by decide, fun k x hx => ?_, by show n * 2 + 0 ≤ _; omega⟩
    match k, hx with
    | 0, hx => simp at hx; subst hx; exact ⟨by show 0 < n; omega, by show n ≤ _; omega, by show 2 ≤ 512; decide⟩
    | k + 1, hx => simp at hx
  clear hn D hz ha hr
  go_enter Try.func5, Try.ntmps5
  go_wp2_with fail
  refine (HPz.out _).mono ?_
  rintro e w' ⟨rfl, hw'⟩
  obtain rfl := hw'.symm
  clear HPz
  go_wp2_with fail
  have ua : Up W (W.alloc (Obj.cells #[.int .i64 (n : Int), .int .i64 2] 29)) := (Up.refl W).alloc _
  have ka : (W.alloc (Obj.cells #[.int .i64 (n : Int), .int .i64 2] 29)).heap[W.heap.size]? = some (.cells #[.int .i64 (n : Int), .int .i64 2] 29 (0, 0)) := heap_alloc_new W _
  have HNew : Hid _ := new_ok (K := fun b => b < (W.alloc (Obj.cells #[.int .i64 (n : Int), .int .i64 2] 29)).heap.size) (g := W.heap.size) (o := 0) (cap := 1) HC.out (Nat.le_refl _) (by decide) (fun w u k x hx => by
    match k, hx with
    | 0, hx =>
      simp at hx
      subst hx
      have hb := (u.block _ (heap_at ka)).trans ka
      exact range2 (heap_cell hb rfl) (heap_cell hb rfl)
    | k + 1, hx => simp at hx) (fun b hb => hb)
  have HUa : Hid (Up W (W.alloc (Obj.cells #[.int .i64 (n : Int), .int .i64 2] 29))) := ua
  clear ua ka
  generalize World.alloc W _ = Wa at HNew HUa ⊢
  generalize W.heap.size = cb at HNew ⊢
  refine Calls.mono HNew.out ?_
  rintro e w2 ⟨pb, rfl, hpb, hP, uu2⟩
  have H2 : Hid (Pb W (fun b => b < Wa.heap.size) pb (Pl.new [(n, 2)] 1) w2) := ⟨hP, Ok.new HC.out, HUa.out.trans uu2, fun b hb => Nat.lt_of_lt_of_le hb HUa.out.size⟩
  have HWa : Hid (W.heap.size ≤ Wa.heap.size) := HUa.out.size
  clear hP uu2 HNew hpb HC HUa
  go_wp2_with fail
  refine (open1 hn2 H2.out).mono ?_
  rintro e w3 ⟨rfl, h3, f3⟩
  have H3 : Hid (Pb W (fun b => b < Wa.heap.size) pb ((Pl.new [(n, 2)] 1).opened (2 * (n : Int))) w3) := h3
  clear h3 f3 H2
  go_wp2_with fail
  refine (take1 hn1 hn2 H3.out).mono ?_
  rintro e w4 ⟨rfl, h4, f4⟩
  have H4 : Hid (One W (fun b => b < Wa.heap.size) pb n w4) := h4
  clear h4 f4 H3
  go_wp2_with fail
  have kx4 : (w4.alloc (Obj.cells #[.int .i64 0, .int .i64 0, .int .i64 (n : Int)] 38)).cell? ⟨w4.heap.size, 0, none⟩ = some (.int .i64 0) := heap_cell (heap_alloc_new w4 _) rfl
  have H4b : Hid (One W (fun b => b < Wa.heap.size ∨ b = w4.heap.size) pb n (w4.alloc (Obj.cells #[.int .i64 0, .int .i64 0, .int .i64 (n : Int)] 38)) ∧ (w4.alloc (Obj.cells #[.int .i64 0, .int .i64 0, .int .i64 (n : Int)] 38)).cell? ⟨w4.heap.size, 0, none⟩ = some (.int .i64 0)) := ⟨H4.out.add ((Up.refl w4).alloc _) (Nat.le_refl _) (by simp), kx4⟩
  clear kx4 H4
  generalize World.alloc w4 _ = w4b at H4b ⊢
  generalize w4.heap.size = xb at H4b ⊢
  refine (take2 hn1 hn2 H4b.out.1).mono ?_
  rintro e w5 ⟨rfl, h5, f5⟩
  have kx5 : w5.cell? ⟨xb, 0, none⟩ = some (.int .i64 0) := (cell_block (f5.block xb (World.block_lt_of_cell? _ _ H4b.out.2) (Or.inr rfl))).trans H4b.out.2
  have kx6 : (w5.alloc (Obj.cells #[.int .i64 1, .int .i64 0, .int .i64 (n : Int)] 38)).cell? ⟨xb, 0, none⟩ = some (.int .i64 0) := cell_up ((Up.refl w5).alloc _) kx5
  have ky6 : (w5.alloc (Obj.cells #[.int .i64 1, .int .i64 0, .int .i64 (n : Int)] 38)).cell? ⟨w5.heap.size, 0, none⟩ = some (.int .i64 1) := heap_cell (heap_alloc_new w5 _) rfl
  have H6 : Hid (∃ K, St W K pb xb w5.heap.size n (fun _ => 0) (w5.alloc (Obj.cells #[.int .i64 1, .int .i64 0, .int .i64 (n : Int)] 38))) := ⟨_, h5.add ((Up.refl w5).alloc _) (Nat.le_refl _) (by simp), kx6, ky6, Or.inl (Or.inr rfl), Or.inr rfl⟩
  clear h5 f5 H4b kx5
  go_wp2_with fail
  clear kx6 ky6
  generalize World.alloc w5 _ = w6 at H6 ⊢
  generalize w5.heap.size = yb at H6 ⊢
  refine (HPa.out _).mono ?_
  rintro e w' ⟨rfl, hw'⟩
  obtain rfl := hw'.symm
  obtain ⟨K, h6⟩ := H6.out
  have HS6 : Hid (St W K pb xb yb n (fun _ => 0) w6) := h6
  have kx6 := h6.x
  clear h6 H6 HPa
  have HZ : Hid (∀ w : World, Calls Try.prog 21 #[.int .i64 (n : Int)] w fun e w' => ∃ g, e = .returned (.slice (some ⟨g, 0, none⟩) n n) ∧ w.heap.size ≤ g ∧ NmAt w' g n (fun _ => 0) ∧ Up w w') := fun w => zeros_any (by omega) w
  go_upto_if 90 with fail
  go_cut [19] (fun s wx => w6 = wx ∧ ∃ ba bl, s = .slice ba bl sc ∧ Hid (Byts W ba sb so bl sc f ∧ (0 < bl → sb < W.heap.size) ∧ k + bl ≤ n))
  case first =>
    clear HPr HZ HS6 HWa
    by_cases hb0 : k + sl ≤ n
    · have d1 : ¬ (n : Int) - (k : Int) < (sl : Int) := by omega
      have HB : Hid (Byts W sa sb so sl sc f ∧ (0 < sl → sb < W.heap.size) ∧ k + sl ≤ n) := ⟨HD.out.1, HD.out.2, hb0⟩
      clear HD hb0
      go_wp2_with fail
      go_meet
      exact ⟨rfl, _, _, rfl, HB⟩
    · have d1 : (n : Int) - (k : Int) < (sl : Int) := by omega
      obtain rfl := HD.out.1.ad (by omega)
      obtain ⟨bl, ebl⟩ : ∃ bl, bl = n - k := ⟨_, rfl⟩
      have hkb : k + bl ≤ n := by omega
      have hcut : ∀ w : World, (Instr.slice 45 (.slice (some ⟨sb, so, none⟩) sl sc) none (some (.int .i64 ((n : Int) - (k : Int)))) none).run Try.prog w = .ok (.slice (some ⟨sb, so, none⟩) bl sc) w := fun w => by
        rw [show (n : Int) - (k : Int) = (bl : Int) by omega]
        exact cut_at (by omega) l1 w
      have HB : Hid (Byts W (some ⟨sb, so, none⟩) sb so bl sc f ∧ (0 < bl → sb < W.heap.size) ∧ k + bl ≤ n) := ⟨⟨by omega, HD.out.1.cm, fun _ => rfl, HD.out.1.u8, fun j hj => HD.out.1.cell j (by omega)⟩, fun _ => HD.out.2 (by omega), hkb⟩
      have d2 : (0 : Int) ≤ (n : Int) - (k : Int) := by omega
      have d3 : (n : Int) - (k : Int) ≤ (sc : Int) := by omega
      clear ebl HD hb0 hkb
      go_wp2_with fail
      go_meet
      exact ⟨rfl, _, _, rfl, HB⟩
  case rest =>
    obtain ⟨hwx, ba, bl, hs, HB⟩ := hcut
    subst hwx
    subst hs
    have hkb := HB.out.2.2
    have l3 := HB.out.1.lc
    clear HD
    go_wp2_with fail
    refine (HS6.out.two.store hn2 hkb (byts_up HB.out.1 HS6.out.two.up) (fun h => HS6.out.two.ko sb (HB.out.2.1 h))).mono ?_
    rintro e w7 ⟨rfl, h7, f7⟩
    obtain ⟨F, hF⟩ : ∃ F : Nat → Int, F = fun j => if k ≤ j ∧ j < k + bl then f (j - k) else 0 := ⟨_, rfl⟩
    have HF : Hid (F = fun j => if k ≤ j ∧ j < k + bl then f (j - k) else 0) := hF
    rw [← hF] at h7
    have H7 : Hid (St W K pb xb yb n F w7) := HS6.out.fk h7 f7
    have kx7 := H7.out.x
    clear h7 f7 HS6 kx6 hF
    go_wp2_with fail
    refine (H7.out.two.load0 hn2).mono ?_
    rintro e w8 ⟨g8, c8, rfl, h8, uu8⟩
    have H8 : Hid (St W K pb xb yb n F w8 ∧ Lst w8 g8 n c8 F) := ⟨H7.out.more uu8, h8⟩
    have ky8 := H8.out.1.y
    clear h8 uu8 H7 kx7
    go_wp2_with fail
    refine (H8.out.1.two.load1 hn2).mono ?_
    rintro e w9 ⟨g9, c9, rfl, h9, uu9⟩
    have H9 : Hid (St W K pb xb yb n F w9.drew ∧ Lst w9.drew g8 n c8 F ∧ Lst w9.drew g9 n c9 (fun _ => 0)) := ⟨(H8.out.1.more uu9).more (Up.refl w9).drew, (H8.out.2.up uu9).up (Up.refl w9).drew, h9.up (Up.refl w9).drew⟩
    have cv9 := H9.out.2.2.conv
    clear h9 uu9 H8 ky8
    go_wp2_with fail
    refine wp_region_held_drew (S := fun w' => (convert 45 9 (.slice (some ⟨g9, 0, none⟩) n c9)).run Try.prog w' = .ok (.string (strN n (fun _ => 0))) w') (by kernel_rfl) ?_ (fun hHeld => ?_)
    · (try dsimp only); exact cv9
    clear cv9
    generalize World.drew w9 = wd at H9 hHeld ⊢
    refine wpAnyH_take (i := 0) (v := ?_) (by simp only [List.getElem?_toArray, List.getElem?_cons_zero]; rfl) (by kernel_rfl) (by kernel_rfl) (by kernel_rfl) (by intro _ _ _ h; exact h) (Or.inl ⟨by rfl, ?_⟩) (by assumption) ?_
    rotate_left
    · (intro w hSw; (try dsimp only at hSw); go_simp <;> with_reducible rfl)
    try simp only [Act.put, List.setIfInBounds_toArray, List.set_cons_zero, List.set_cons_succ]
    refine wpAnyH_take (i := 1) (v := ?_) (by simp only [List.getElem?_toArray, List.getElem?_cons_succ, List.getElem?_cons_zero]; rfl) (by kernel_rfl) (by kernel_rfl) (by kernel_rfl) (by intro _ _ _ h; exact h) (Or.inl ⟨by rfl, ?_⟩) (by assumption) ?_
    rotate_left
    · (intro w hSw; (try dsimp only at hSw); go_simp <;> with_reducible rfl)
    try simp only [Act.put, List.setIfInBounds_toArray, List.set_cons_zero, List.set_cons_succ]
    refine wpAnyH_take (i := 2) (v := ?_) (by simp only [List.getElem?_toArray, List.getElem?_cons_succ, List.getElem?_cons_zero]; rfl) (by kernel_rfl) (by kernel_rfl) (by kernel_rfl) (by intro _ _ _ h; exact h) (Or.inl ⟨by rfl, ?_⟩) (by assumption) ?_
    rotate_left
    · (intro w hSw; (try dsimp only at hSw); go_simp <;> with_reducible rfl)
    try simp only [Act.put, List.setIfInBounds_toArray, List.set_cons_zero, List.set_cons_succ]
    refine wpAnyH_take (i := 3) (v := ?_) (by simp only [List.getElem?_toArray, List.getElem?_cons_succ, List.getElem?_cons_zero]; rfl) (by kernel_rfl) (by kernel_rfl) (by kernel_rfl) (by intro _ _ _ h; exact h) (Or.inl ⟨by rfl, ?_⟩) (by assumption) ?_
    rotate_left
    · (intro w hSw; (try dsimp only at hSw); go_simp <;> with_reducible rfl)
    try simp only [Act.put, List.setIfInBounds_toArray, List.set_cons_zero, List.set_cons_succ]
    refine wpAnyH_take (i := 4) (v := ?_) (by simp only [List.getElem?_toArray, List.getElem?_cons_succ, List.getElem?_cons_zero]; rfl) (by kernel_rfl) (by kernel_rfl) (by kernel_rfl) (by intro _ _ _ h; exact h) (Or.inl ⟨by rfl, ?_⟩) (by assumption) ?_
    rotate_left
    · (intro w hSw; (try dsimp only at hSw); go_simp <;> with_reducible rfl)
    try simp only [Act.put, List.setIfInBounds_toArray, List.set_cons_zero, List.set_cons_succ]
    refine wpAnyH_take (i := 5) (v := ?_) (by simp only [List.getElem?_toArray, List.getElem?_cons_succ, List.getElem?_cons_zero]; rfl) (by kernel_rfl) (by kernel_rfl) (by kernel_rfl) (by intro _ _ _ h; exact h) (Or.inl ⟨by rfl, ?_⟩) (by assumption) ?_
    rotate_left
    · (intro w hSw; (try dsimp only at hSw); go_simp <;> with_reducible rfl)
    try simp only [Act.put, List.setIfInBounds_toArray, List.set_cons_zero, List.set_cons_succ]
    refine wpAnyH_take (i := 6) (v := ?_) (by simp only [List.getElem?_toArray, List.getElem?_cons_succ, List.getElem?_cons_zero]; rfl) (by kernel_rfl) (by kernel_rfl) (by kernel_rfl) (by intro _ _ _ h; exact h) (Or.inl ⟨by rfl, ?_⟩) (by assumption) ?_
    rotate_left
    · (intro w hSw; (try dsimp only at hSw); go_simp <;> with_reducible rfl)
    try simp only [Act.put, List.setIfInBounds_toArray, List.set_cons_zero, List.set_cons_succ]
    refine wpAnyH_take (i := 7) (v := ?_) (by simp only [List.getElem?_toArray, List.getElem?_cons_succ, List.getElem?_cons_zero]; rfl) (by kernel_rfl) (by kernel_rfl) (by kernel_rfl) (by intro _ _ _ h; exact h) (Or.inl ⟨by rfl, ?_⟩) (by assumption) ?_
    rotate_left
    · (intro w hSw; (try dsimp only at hSw); go_simp <;> with_reducible rfl)
    try simp only [Act.put, List.setIfInBounds_toArray, List.set_cons_zero, List.set_cons_succ]
    refine wpAnyH_take (i := 8) (v := ?_) (by simp only [List.getElem?_toArray, List.getElem?_cons_succ, List.getElem?_cons_zero]; rfl) (by kernel_rfl) (by kernel_rfl) (by kernel_rfl) (by intro _ _ _ h; exact h) (Or.inl ⟨by rfl, ?_⟩) (by assumption) ?_
    rotate_left
    · (intro w hSw; (try dsimp only at hSw); go_simp <;> with_reducible rfl)
    try simp only [Act.put, List.setIfInBounds_toArray, List.set_cons_zero, List.set_cons_succ]
    refine wpAnyH_take (i := 9) (v := ?_) (by simp only [List.getElem?_toArray, List.getElem?_cons_succ, List.getElem?_cons_zero]; rfl) (by kernel_rfl) (by kernel_rfl) (by kernel_rfl) (by intro _ _ _ h; exact h) (Or.inl ⟨by rfl, ?_⟩) (by assumption) ?_
    rotate_left
    · (intro w hSw; (try dsimp only at hSw); go_simp <;> with_reducible rfl)
    try simp only [Act.put, List.setIfInBounds_toArray, List.set_cons_zero, List.set_cons_succ]
    refine wpAnyH_take (i := 10) (v := ?_) (by simp only [List.getElem?_toArray, List.getElem?_cons_succ, List.getElem?_cons_zero]; rfl) (by kernel_rfl) (by kernel_rfl) (by kernel_rfl) (by intro _ _ _ h; exact h) (Or.inl ⟨by rfl, ?_⟩) (by assumption) ?_
    rotate_left
    · (intro w hSw; (try dsimp only at hSw); go_simp <;> with_reducible rfl)
    try simp only [Act.put, List.setIfInBounds_toArray, List.set_cons_zero, List.set_cons_succ]
    refine wpAnyH_take (i := 11) (v := ?_) (by simp only [List.getElem?_toArray, List.getElem?_cons_succ, List.getElem?_cons_zero]; rfl) (by kernel_rfl) (by kernel_rfl) (by kernel_rfl) (by intro _ _ _ h; exact h) (Or.inl ⟨by rfl, ?_⟩) (by assumption) ?_
    rotate_left
    · (intro w hSw; (try dsimp only at hSw); go_simp <;> with_reducible rfl)
    try simp only [Act.put, List.setIfInBounds_toArray, List.set_cons_zero, List.set_cons_succ]
    refine wpAnyH_take (i := 12) (v := ?_) (by simp only [List.getElem?_toArray, List.getElem?_cons_succ, List.getElem?_cons_zero]; rfl) (by kernel_rfl) (by kernel_rfl) (by kernel_rfl) (by intro _ _ _ h; exact h) (Or.inl ⟨by rfl, ?_⟩) (by assumption) ?_
    rotate_left
    · (intro w hSw; (try dsimp only at hSw); go_simp <;> with_reducible rfl)
    try simp only [Act.put, List.setIfInBounds_toArray, List.set_cons_zero, List.set_cons_succ]
    refine wpAnyH_take (i := 13) (v := ?_) (by simp only [List.getElem?_toArray, List.getElem?_cons_succ, List.getElem?_cons_zero]; rfl) (by kernel_rfl) (by kernel_rfl) (by kernel_rfl) (by intro _ _ _ h; exact h) (Or.inl ⟨by rfl, ?_⟩) (by assumption) ?_
    rotate_left
    · (intro w hSw; (try dsimp only at hSw); go_simp <;> with_reducible rfl)
    try simp only [Act.put, List.setIfInBounds_toArray, List.set_cons_zero, List.set_cons_succ]
    refine wpAnyH_ready (rs := [14]) (by kernel_rfl) (by simp) ?_
    refine AllReadyH.cons (by simp only [List.getElem?_toArray, List.getElem?_cons_succ, List.getElem?_cons_zero]; rfl) (fun KK hK => ?_) AllReadyH.nil
    go_simp
    refine (HZ.out _).mono ?_
    rintro e w10 ⟨g10, rfl, hg10, n10, uu10⟩
    have cv10 := (Lst.ofNm n10 (by omega)).conv
    have H10 : Hid (St W K pb xb yb n F w10 ∧ Lst w10 g8 n c8 F ∧ Lst w10 g9 n c9 (fun _ => 0)) := ⟨H9.out.1.more uu10, H9.out.2.1.up uu10, H9.out.2.2.up uu10⟩
    refine hK.out _ _ ?_ (fun hHeld => ?_)
    · (try dsimp only); exact H10.out.2.2.conv
    clear hK KK hg10 n10 uu10 H9
    try simp only [Act.put, List.setIfInBounds_toArray, List.set_cons_zero, List.set_cons_succ]
    refine wpAnyH_ready (rs := [15]) (by kernel_rfl) (by simp) ?_
    refine AllReadyH.cons (by simp only [List.getElem?_toArray, List.getElem?_cons_succ, List.getElem?_cons_zero]; rfl) (fun KK hK => ?_) AllReadyH.nil
    go_simp
    refine hK.out _ _ ?_ (fun hHeld => ?_)
    · (try dsimp only); exact H10.out.2.2.conv
    clear hK KK
    try simp only [Act.put, List.setIfInBounds_toArray, List.set_cons_zero, List.set_cons_succ]
    refine wpAnyH_take (i := 16) (v := ?_) (by simp only [List.getElem?_toArray, List.getElem?_cons_succ, List.getElem?_cons_zero]; rfl) (by kernel_rfl) (by kernel_rfl) (by kernel_rfl) (by intro _ _ _ h; exact h) (Or.inl ⟨by rfl, ?_⟩) (by assumption) ?_
    rotate_left
    · (intro w hSw; (try dsimp only at hSw); go_simp <;> with_reducible rfl)
    try simp only [Act.put, List.setIfInBounds_toArray, List.set_cons_zero, List.set_cons_succ]
    refine wpAnyH_take (i := 17) (v := ?_) (by simp only [List.getElem?_toArray, List.getElem?_cons_succ, List.getElem?_cons_zero]; rfl) (by kernel_rfl) (by kernel_rfl) (by kernel_rfl) (by intro _ _ _ h; exact h) (Or.inl ⟨by rfl, ?_⟩) (by assumption) ?_
    rotate_left
    · (intro w hSw; (try dsimp only at hSw); go_simp <;> with_reducible rfl)
    try simp only [Act.put, List.setIfInBounds_toArray, List.set_cons_zero, List.set_cons_succ]
    refine wpAnyH_done (by kernel_rfl) ?_ _
    clear cv10 hHeld
    go_wp2_with fail
    refine (HZ.out _).mono ?_
    rintro e w11 ⟨zb, rfl, hzb, n11, uu11⟩
    have H11 : Hid (St W (fun b => K b ∨ b = zb) pb xb yb n F w11 ∧ Lst w11 g8 n c8 F ∧ NmAt w11 zb n (fun _ => 0) ∧ W.heap.size ≤ zb ∧ xb ≠ zb ∧ yb ≠ zb ∧ g8 ≠ zb) := ⟨H10.out.1.add uu11 hzb n11.lt, H10.out.2.1.up uu11, n11, Nat.le_trans H10.out.1.two.up.size hzb, fun e => by have h : xb < _ := World.block_lt_of_cell? _ _ H10.out.1.x; omega, fun e => by have h : yb < _ := World.block_lt_of_cell? _ _ H10.out.1.y; omega, fun e => by have := H10.out.2.1.lt; omega⟩
    clear hzb n11 uu11 H10 HZ
    obtain ⟨zv, hzv, hsl⟩ := want_at (g := zb) hk hn2
    obtain ⟨w12, hcp, h12, f12⟩ := copy_want hkb hzv H11.out.2.2.1 (byts_up HB.out.1 H11.out.1.two.up)
    have HCp : Hid (∀ ty, _) := hcp
    have H12 : Hid (Sw W (fun b => K b ∨ b = zb) pb xb yb n F zb w12 ∧ Lst w12 g8 n c8 F) := ⟨⟨H11.out.1.frB f12 (Or.inr rfl) H11.out.2.2.2.1 H11.out.2.2.2.2.1 H11.out.2.2.2.2.2.1, HF.out ▸ h12⟩, ⟨Nat.lt_of_lt_of_le H11.out.2.1.lt f12.size, H11.out.2.1.nc, H11.out.2.1.cm, fun j hj => (cell_block (f12.block g8 H11.out.2.1.lt H11.out.2.2.2.2.2.2)).trans (H11.out.2.1.cell j hj)⟩⟩
    have cv12 := H12.out.2.conv
    have cv13 := (Lst.ofNm H12.out.1.nm (by omega)).conv
    have H13 : Hid (Sw W (fun b => K b ∨ b = zb) pb xb yb n F zb w12) := H12.out.1
    have d4 : (k : Int) ≤ (n : Int) := by omega
    clear hcp h12 f12 H11 hzv HB HF H12
    go_wp2_with (refine wpList_copy_runI _ rfl _ _ 45 45 rfl _ _ rfl rfl (HCp.out _) ?_)
    clear HCp hsl cv12 cv13 d4
    have e1 : IntKind.i64.wrap ((n : Int) - (k : Int)) = (n : Int) - (k : Int) := wrapIn _ (by omega)
    have e2 : IntKind.i64.wrap ((n : Int) - (k : Int) + 1) = (n : Int) - (k : Int) + 1 := wrapIn _ (by omega)
    have e3 : IntKind.i64.wrap ((n : Int) - (k : Int) + 1 + FR) = (n : Int) - (k : Int) + 1 + FR := wrapIn _ (by omega)
    have e4 : IntKind.i64.wrap ((n : Int) + 1) = (n : Int) + 1 := wrapIn _ (by omega)
    have e5 : IntKind.i64.wrap ((n : Int) + 1 + FR) = (n : Int) + 1 + FR := wrapIn _ (by omega)
    have e6 : IntKind.i64.wrap (-1 - FR) = -1 - FR := wrapIn _ (by omega)
    have HD14 : Hid (Sw W (fun b => K b ∨ b = zb) pb xb yb n F zb w12.drew) := H13.out.more (Up.refl w12).drew
    refine wp_region_held_drew (S := fun w' => w'.cell? ⟨xb, 0, none⟩ = some (.int .i64 0)) (by kernel_rfl) ?_ (fun hHeld => ?_)
    · (try dsimp only); exact HD14.out.st.x
    clear H13
    generalize World.drew w12 = wd at HD14 hHeld ⊢
    refine wpAnyH_take (i := 0) (v := ?_) (by simp only [List.getElem?_toArray, List.getElem?_cons_zero]; rfl) (by kernel_rfl) (by kernel_rfl) (by kernel_rfl) (by intro _ _ _ h; exact h) (Or.inl ⟨by rfl, ?_⟩) (by assumption) ?_
    rotate_left
    · (intro w hSw; (try dsimp only at hSw); go_simp <;> with_reducible rfl)
    try simp only [Act.put, List.setIfInBounds_toArray, List.set_cons_zero, List.set_cons_succ]
    refine wpAnyH_take (i := 1) (v := ?_) (by simp only [List.getElem?_toArray, List.getElem?_cons_succ, List.getElem?_cons_zero]; rfl) (by kernel_rfl) (by kernel_rfl) (by kernel_rfl) (by intro _ _ _ h; exact h) (Or.inl ⟨by rfl, ?_⟩) (by assumption) ?_
    rotate_left
    · (intro w hSw; (try dsimp only at hSw); go_simp <;> with_reducible rfl)
    try simp only [Act.put, List.setIfInBounds_toArray, List.set_cons_zero, List.set_cons_succ]
    refine wpAnyH_take (i := 2) (v := ?_) (by simp only [List.getElem?_toArray, List.getElem?_cons_succ, List.getElem?_cons_zero]; rfl) (by kernel_rfl) (by kernel_rfl) (by kernel_rfl) (by intro _ _ _ h; exact h) (Or.inl ⟨by rfl, ?_⟩) (by assumption) ?_
    rotate_left
    · (intro w hSw; (try dsimp only at hSw); go_simp <;> with_reducible rfl)
    try simp only [Act.put, List.setIfInBounds_toArray, List.set_cons_zero, List.set_cons_succ]
    refine wpAnyH_take (i := 3) (v := ?_) (by simp only [List.getElem?_toArray, List.getElem?_cons_succ, List.getElem?_cons_zero]; rfl) (by kernel_rfl) (by kernel_rfl) (by kernel_rfl) (by intro _ _ _ h; exact h) (Or.inl ⟨by rfl, ?_⟩) (by assumption) ?_
    rotate_left
    · (intro w hSw; (try dsimp only at hSw); go_simp <;> with_reducible rfl)
    try simp only [Act.put, List.setIfInBounds_toArray, List.set_cons_zero, List.set_cons_succ]
    refine wpAnyH_take (i := 4) (v := ?_) (by simp only [List.getElem?_toArray, List.getElem?_cons_succ, List.getElem?_cons_zero]; rfl) (by kernel_rfl) (by kernel_rfl) (by kernel_rfl) (by intro _ _ _ h; exact h) (Or.inl ⟨by rfl, ?_⟩) (by assumption) ?_
    rotate_left
    · (intro w hSw; (try dsimp only at hSw); go_simp <;> with_reducible rfl)
    try simp only [Act.put, List.setIfInBounds_toArray, List.set_cons_zero, List.set_cons_succ]
    refine wpAnyH_take (i := 5) (v := ?_) (by simp only [List.getElem?_toArray, List.getElem?_cons_succ, List.getElem?_cons_zero]; rfl) (by kernel_rfl) (by kernel_rfl) (by kernel_rfl) (by intro _ _ _ h; exact h) (Or.inl ⟨by rfl, ?_⟩) (by assumption) ?_
    rotate_left
    · (intro w hSw; (try dsimp only at hSw); go_simp <;> with_reducible rfl)
    try simp only [Act.put, List.setIfInBounds_toArray, List.set_cons_zero, List.set_cons_succ]
    refine wpAnyH_take (i := 6) (v := ?_) (by simp only [List.getElem?_toArray, List.getElem?_cons_succ, List.getElem?_cons_zero]; rfl) (by kernel_rfl) (by kernel_rfl) (by kernel_rfl) (by intro _ _ _ h; exact h) (Or.inl ⟨by rfl, ?_⟩) (by assumption) ?_
    rotate_left
    · (intro w hSw; (try dsimp only at hSw); go_simp <;> with_reducible rfl)
    try simp only [Act.put, List.setIfInBounds_toArray, List.set_cons_zero, List.set_cons_succ]
    refine wpAnyH_take (i := 7) (v := ?_) (by simp only [List.getElem?_toArray, List.getElem?_cons_succ, List.getElem?_cons_zero]; rfl) (by kernel_rfl) (by kernel_rfl) (by kernel_rfl) (by intro _ _ _ h; exact h) (Or.inl ⟨by rfl, ?_⟩) (by assumption) ?_
    rotate_left
    · (intro w hSw; (try dsimp only at hSw); go_simp <;> with_reducible rfl)
    try simp only [Act.put, List.setIfInBounds_toArray, List.set_cons_zero, List.set_cons_succ]
    refine wpAnyH_take (i := 8) (v := ?_) (by simp only [List.getElem?_toArray, List.getElem?_cons_succ, List.getElem?_cons_zero]; rfl) (by kernel_rfl) (by kernel_rfl) (by kernel_rfl) (by intro _ _ _ h; exact h) (Or.inl ⟨by rfl, ?_⟩) (by assumption) ?_
    rotate_left
    · (intro w hSw; (try dsimp only at hSw); go_simp <;> with_reducible rfl)
    try simp only [Act.put, List.setIfInBounds_toArray, List.set_cons_zero, List.set_cons_succ]
    refine wpAnyH_take (i := 9) (v := ?_) (by simp only [List.getElem?_toArray, List.getElem?_cons_succ, List.getElem?_cons_zero]; rfl) (by kernel_rfl) (by kernel_rfl) (by kernel_rfl) (by intro _ _ _ h; exact h) (Or.inl ⟨by rfl, ?_⟩) (by assumption) ?_
    rotate_left
    · (intro w hSw; (try dsimp only at hSw); go_simp <;> with_reducible rfl)
    try simp only [Act.put, List.setIfInBounds_toArray, List.set_cons_zero, List.set_cons_succ]
    refine wpAnyH_ready (rs := [10]) (by kernel_rfl) (by simp) ?_
    refine AllReadyH.cons (by simp only [List.getElem?_toArray, List.getElem?_cons_succ, List.getElem?_cons_zero]; rfl) (fun KK hK => ?_) AllReadyH.nil
    go_simp
    refine (HPr.out _).mono ?_
    rintro e w' ⟨rfl, hw'⟩
    obtain rfl := hw'.symm
    refine hK.out _ _ ?_ (fun hHeld => ?_)
    · (try dsimp only); exact HD14.out.st.x
    clear hK KK
    try simp only [Act.put, List.setIfInBounds_toArray, List.set_cons_zero, List.set_cons_succ]
    refine wpAnyH_take (i := 11) (v := ?_) (by simp only [List.getElem?_toArray, List.getElem?_cons_succ, List.getElem?_cons_zero]; rfl) (by kernel_rfl) (by kernel_rfl) (by kernel_rfl) (by intro _ _ _ h; exact h) (Or.inl ⟨by rfl, ?_⟩) (by assumption) ?_
    rotate_left
    · (intro w hSw; (try dsimp only at hSw); go_simp <;> with_reducible rfl)
    try simp only [Act.put, List.setIfInBounds_toArray, List.set_cons_zero, List.set_cons_succ]
    refine wpAnyH_ready (rs := [12]) (by kernel_rfl) (by simp) ?_
    refine AllReadyH.cons (by simp only [List.getElem?_toArray, List.getElem?_cons_succ, List.getElem?_cons_zero]; rfl) (fun KK hK => ?_) AllReadyH.nil
    go_simp
    refine (HD14.out.st.two.loadE (at' := (k : Int)) (m := (n : Int) - (k : Int) + 1 + FR) ⟨by omega, by omega⟩ ⟨by omega, by omega⟩ (by omega)).mono ?_
    rintro e w14 ⟨rfl, uu14⟩
    have H14 : Hid (Sw W (fun b => K b ∨ b = zb) pb xb yb n F zb w14) := HD14.out.more uu14
    refine hK.out _ _ ?_ (fun hHeld => ?_)
    · (try dsimp only); exact H14.out.st.x
    clear hK KK uu14 HD14
    try simp only [Act.put, List.setIfInBounds_toArray, List.set_cons_zero, List.set_cons_succ]
    refine wpAnyH_take (i := 13) (v := ?_) (by simp only [List.getElem?_toArray, List.getElem?_cons_succ, List.getElem?_cons_zero]; rfl) (by kernel_rfl) (by kernel_rfl) (by kernel_rfl) (by intro _ _ _ h; exact h) (Or.inl ⟨by rfl, ?_⟩) (by assumption) ?_
    rotate_left
    · (intro w hSw; (try dsimp only at hSw); go_simp <;> with_reducible rfl)
    try simp only [Act.put, List.setIfInBounds_toArray, List.set_cons_zero, List.set_cons_succ]
    refine wpAnyH_take (i := 14) (v := ?_) (by simp only [List.getElem?_toArray, List.getElem?_cons_succ, List.getElem?_cons_zero]; rfl) (by kernel_rfl) (by kernel_rfl) (by kernel_rfl) (by intro _ _ _ h; exact h) (Or.inl ⟨by rfl, ?_⟩) (by assumption) ?_
    rotate_left
    · (intro w hSw; (try dsimp only at hSw); go_simp <;> with_reducible rfl)
    try simp only [Act.put, List.setIfInBounds_toArray, List.set_cons_zero, List.set_cons_succ]
    refine wpAnyH_take (i := 15) (v := ?_) (by simp only [List.getElem?_toArray, List.getElem?_cons_succ, List.getElem?_cons_zero]; rfl) (by kernel_rfl) (by kernel_rfl) (by kernel_rfl) (by intro _ _ _ h; exact h) (Or.inl ⟨by rfl, ?_⟩) (by assumption) ?_
    rotate_left
    · (intro w hSw; (try dsimp only at hSw); go_simp <;> with_reducible rfl)
    try simp only [Act.put, List.setIfInBounds_toArray, List.set_cons_zero, List.set_cons_succ]
    refine wpAnyH_take (i := 16) (v := ?_) (by simp only [List.getElem?_toArray, List.getElem?_cons_succ, List.getElem?_cons_zero]; rfl) (by kernel_rfl) (by kernel_rfl) (by kernel_rfl) (by intro _ _ _ h; exact h) (Or.inl ⟨by rfl, ?_⟩) (by assumption) ?_
    rotate_left
    · (intro w hSw; (try dsimp only at hSw); go_simp <;> with_reducible rfl)
    try simp only [Act.put, List.setIfInBounds_toArray, List.set_cons_zero, List.set_cons_succ]
    refine wpAnyH_done (by kernel_rfl) ?_ _
    clear hHeld
    go_wp2_with fail
    have HD15 : Hid (Sw W (fun b => K b ∨ b = zb) pb xb yb n F zb w14.drew) := H14.out.more (Up.refl w14).drew
    refine wp_region_held_drew (S := fun w' => w'.cell? ⟨xb, 0, none⟩ = some (.int .i64 0)) (by kernel_rfl) ?_ (fun hHeld => ?_)
    · (try dsimp only); exact HD15.out.st.x
    clear H14
    generalize World.drew w14 = wd at HD15 hHeld ⊢
    refine wpAnyH_take (i := 0) (v := ?_) (by simp only [List.getElem?_toArray, List.getElem?_cons_zero]; rfl) (by kernel_rfl) (by kernel_rfl) (by kernel_rfl) (by intro _ _ _ h; exact h) (Or.inl ⟨by rfl, ?_⟩) (by assumption) ?_
    rotate_left
    · (intro w hSw; (try dsimp only at hSw); go_simp <;> with_reducible rfl)
    try simp only [Act.put, List.setIfInBounds_toArray, List.set_cons_zero, List.set_cons_succ]
    refine wpAnyH_take (i := 1) (v := ?_) (by simp only [List.getElem?_toArray, List.getElem?_cons_succ, List.getElem?_cons_zero]; rfl) (by kernel_rfl) (by kernel_rfl) (by kernel_rfl) (by intro _ _ _ h; exact h) (Or.inl ⟨by rfl, ?_⟩) (by assumption) ?_
    rotate_left
    · (intro w hSw; (try dsimp only at hSw); go_simp <;> with_reducible rfl)
    try simp only [Act.put, List.setIfInBounds_toArray, List.set_cons_zero, List.set_cons_succ]
    refine wpAnyH_take (i := 2) (v := ?_) (by simp only [List.getElem?_toArray, List.getElem?_cons_succ, List.getElem?_cons_zero]; rfl) (by kernel_rfl) (by kernel_rfl) (by kernel_rfl) (by intro _ _ _ h; exact h) (Or.inl ⟨by rfl, ?_⟩) (by assumption) ?_
    rotate_left
    · (intro w hSw; (try dsimp only at hSw); go_simp <;> with_reducible rfl)
    try simp only [Act.put, List.setIfInBounds_toArray, List.set_cons_zero, List.set_cons_succ]
    refine wpAnyH_take (i := 3) (v := ?_) (by simp only [List.getElem?_toArray, List.getElem?_cons_succ, List.getElem?_cons_zero]; rfl) (by kernel_rfl) (by kernel_rfl) (by kernel_rfl) (by intro _ _ _ h; exact h) (Or.inl ⟨by rfl, ?_⟩) (by assumption) ?_
    rotate_left
    · (intro w hSw; (try dsimp only at hSw); go_simp <;> with_reducible rfl)
    try simp only [Act.put, List.setIfInBounds_toArray, List.set_cons_zero, List.set_cons_succ]
    refine wpAnyH_take (i := 4) (v := ?_) (by simp only [List.getElem?_toArray, List.getElem?_cons_succ, List.getElem?_cons_zero]; rfl) (by kernel_rfl) (by kernel_rfl) (by kernel_rfl) (by intro _ _ _ h; exact h) (Or.inl ⟨by rfl, ?_⟩) (by assumption) ?_
    rotate_left
    · (intro w hSw; (try dsimp only at hSw); go_simp <;> with_reducible rfl)
    try simp only [Act.put, List.setIfInBounds_toArray, List.set_cons_zero, List.set_cons_succ]
    refine wpAnyH_take (i := 5) (v := ?_) (by simp only [List.getElem?_toArray, List.getElem?_cons_succ, List.getElem?_cons_zero]; rfl) (by kernel_rfl) (by kernel_rfl) (by kernel_rfl) (by intro _ _ _ h; exact h) (Or.inl ⟨by rfl, ?_⟩) (by assumption) ?_
    rotate_left
    · (intro w hSw; (try dsimp only at hSw); go_simp <;> with_reducible rfl)
    try simp only [Act.put, List.setIfInBounds_toArray, List.set_cons_zero, List.set_cons_succ]
    refine wpAnyH_take (i := 6) (v := ?_) (by simp only [List.getElem?_toArray, List.getElem?_cons_succ, List.getElem?_cons_zero]; rfl) (by kernel_rfl) (by kernel_rfl) (by kernel_rfl) (by intro _ _ _ h; exact h) (Or.inl ⟨by rfl, ?_⟩) (by assumption) ?_
    rotate_left
    · (intro w hSw; (try dsimp only at hSw); go_simp <;> with_reducible rfl)
    try simp only [Act.put, List.setIfInBounds_toArray, List.set_cons_zero, List.set_cons_succ]
    refine wpAnyH_ready (rs := [7]) (by kernel_rfl) (by simp) ?_
    refine AllReadyH.cons (by simp only [List.getElem?_toArray, List.getElem?_cons_succ, List.getElem?_cons_zero]; rfl) (fun KK hK => ?_) AllReadyH.nil
    go_simp
    refine (HPr.out _).mono ?_
    rintro e w' ⟨rfl, hw'⟩
    obtain rfl := hw'.symm
    refine hK.out _ _ ?_ (fun hHeld => ?_)
    · (try dsimp only); exact HD15.out.st.x
    clear hK KK
    try simp only [Act.put, List.setIfInBounds_toArray, List.set_cons_zero, List.set_cons_succ]
    refine wpAnyH_take (i := 8) (v := ?_) (by simp only [List.getElem?_toArray, List.getElem?_cons_succ, List.getElem?_cons_zero]; rfl) (by kernel_rfl) (by kernel_rfl) (by kernel_rfl) (by intro _ _ _ h; exact h) (Or.inl ⟨by rfl, ?_⟩) (by assumption) ?_
    rotate_left
    · (intro w hSw; (try dsimp only at hSw); go_simp <;> with_reducible rfl)
    try simp only [Act.put, List.setIfInBounds_toArray, List.set_cons_zero, List.set_cons_succ]
    refine wpAnyH_ready (rs := [9]) (by kernel_rfl) (by simp) ?_
    refine AllReadyH.cons (by simp only [List.getElem?_toArray, List.getElem?_cons_succ, List.getElem?_cons_zero]; rfl) (fun KK hK => ?_) AllReadyH.nil
    go_simp
    refine (HD15.out.st.two.loadE (at' := (n : Int) + 1 + FR) (m := 0) ⟨by omega, by omega⟩ ⟨by omega, by omega⟩ (by omega)).mono ?_
    rintro e w15 ⟨rfl, uu15⟩
    have H15 : Hid (Sw W (fun b => K b ∨ b = zb) pb xb yb n F zb w15) := HD15.out.more uu15
    refine hK.out _ _ ?_ (fun hHeld => ?_)
    · (try dsimp only); exact H15.out.st.x
    clear hK KK uu15 HD15
    try simp only [Act.put, List.setIfInBounds_toArray, List.set_cons_zero, List.set_cons_succ]
    refine wpAnyH_take (i := 10) (v := ?_) (by simp only [List.getElem?_toArray, List.getElem?_cons_succ, List.getElem?_cons_zero]; rfl) (by kernel_rfl) (by kernel_rfl) (by kernel_rfl) (by intro _ _ _ h; exact h) (Or.inl ⟨by rfl, ?_⟩) (by assumption) ?_
    rotate_left
    · (intro w hSw; (try dsimp only at hSw); go_simp <;> with_reducible rfl)
    try simp only [Act.put, List.setIfInBounds_toArray, List.set_cons_zero, List.set_cons_succ]
    refine wpAnyH_take (i := 11) (v := ?_) (by simp only [List.getElem?_toArray, List.getElem?_cons_succ, List.getElem?_cons_zero]; rfl) (by kernel_rfl) (by kernel_rfl) (by kernel_rfl) (by intro _ _ _ h; exact h) (Or.inl ⟨by rfl, ?_⟩) (by assumption) ?_
    rotate_left
    · (intro w hSw; (try dsimp only at hSw); go_simp <;> with_reducible rfl)
    try simp only [Act.put, List.setIfInBounds_toArray, List.set_cons_zero, List.set_cons_succ]
    refine wpAnyH_take (i := 12) (v := ?_) (by simp only [List.getElem?_toArray, List.getElem?_cons_succ, List.getElem?_cons_zero]; rfl) (by kernel_rfl) (by kernel_rfl) (by kernel_rfl) (by intro _ _ _ h; exact h) (Or.inl ⟨by rfl, ?_⟩) (by assumption) ?_
    rotate_left
    · (intro w hSw; (try dsimp only at hSw); go_simp <;> with_reducible rfl)
    try simp only [Act.put, List.setIfInBounds_toArray, List.set_cons_zero, List.set_cons_succ]
    refine wpAnyH_take (i := 13) (v := ?_) (by simp only [List.getElem?_toArray, List.getElem?_cons_succ, List.getElem?_cons_zero]; rfl) (by kernel_rfl) (by kernel_rfl) (by kernel_rfl) (by intro _ _ _ h; exact h) (Or.inl ⟨by rfl, ?_⟩) (by assumption) ?_
    rotate_left
    · (intro w hSw; (try dsimp only at hSw); go_simp <;> with_reducible rfl)
    try simp only [Act.put, List.setIfInBounds_toArray, List.set_cons_zero, List.set_cons_succ]
    refine wpAnyH_done (by kernel_rfl) ?_ _
    clear hHeld
    go_wp2_with fail
    have HD16 : Hid (Sw W (fun b => K b ∨ b = zb) pb xb yb n F zb w15.drew) := H15.out.more (Up.refl w15).drew
    refine wp_region_held_drew (S := fun w' => w'.cell? ⟨xb, 0, none⟩ = some (.int .i64 0)) (by kernel_rfl) ?_ (fun hHeld => ?_)
    · (try dsimp only); exact HD16.out.st.x
    clear H15
    generalize World.drew w15 = wd at HD16 hHeld ⊢
    refine wpAnyH_take (i := 0) (v := ?_) (by simp only [List.getElem?_toArray, List.getElem?_cons_zero]; rfl) (by kernel_rfl) (by kernel_rfl) (by kernel_rfl) (by intro _ _ _ h; exact h) (Or.inl ⟨by rfl, ?_⟩) (by assumption) ?_
    rotate_left
    · (intro w hSw; (try dsimp only at hSw); go_simp <;> with_reducible rfl)
    try simp only [Act.put, List.setIfInBounds_toArray, List.set_cons_zero, List.set_cons_succ]
    refine wpAnyH_take (i := 1) (v := ?_) (by simp only [List.getElem?_toArray, List.getElem?_cons_succ, List.getElem?_cons_zero]; rfl) (by kernel_rfl) (by kernel_rfl) (by kernel_rfl) (by intro _ _ _ h; exact h) (Or.inl ⟨by rfl, ?_⟩) (by assumption) ?_
    rotate_left
    · (intro w hSw; (try dsimp only at hSw); go_simp <;> with_reducible rfl)
    try simp only [Act.put, List.setIfInBounds_toArray, List.set_cons_zero, List.set_cons_succ]
    refine wpAnyH_take (i := 2) (v := ?_) (by simp only [List.getElem?_toArray, List.getElem?_cons_succ, List.getElem?_cons_zero]; rfl) (by kernel_rfl) (by kernel_rfl) (by kernel_rfl) (by intro _ _ _ h; exact h) (Or.inl ⟨by rfl, ?_⟩) (by assumption) ?_
    rotate_left
    · (intro w hSw; (try dsimp only at hSw); go_simp <;> with_reducible rfl)
    try simp only [Act.put, List.setIfInBounds_toArray, List.set_cons_zero, List.set_cons_succ]
    refine wpAnyH_take (i := 3) (v := ?_) (by simp only [List.getElem?_toArray, List.getElem?_cons_succ, List.getElem?_cons_zero]; rfl) (by kernel_rfl) (by kernel_rfl) (by kernel_rfl) (by intro _ _ _ h; exact h) (Or.inl ⟨by rfl, ?_⟩) (by assumption) ?_
    rotate_left
    · (intro w hSw; (try dsimp only at hSw); go_simp <;> with_reducible rfl)
    try simp only [Act.put, List.setIfInBounds_toArray, List.set_cons_zero, List.set_cons_succ]
    refine wpAnyH_take (i := 4) (v := ?_) (by simp only [List.getElem?_toArray, List.getElem?_cons_succ, List.getElem?_cons_zero]; rfl) (by kernel_rfl) (by kernel_rfl) (by kernel_rfl) (by intro _ _ _ h; exact h) (Or.inl ⟨by rfl, ?_⟩) (by assumption) ?_
    rotate_left
    · (intro w hSw; (try dsimp only at hSw); go_simp <;> with_reducible rfl)
    try simp only [Act.put, List.setIfInBounds_toArray, List.set_cons_zero, List.set_cons_succ]
    refine wpAnyH_ready (rs := [5]) (by kernel_rfl) (by simp) ?_
    refine AllReadyH.cons (by simp only [List.getElem?_toArray, List.getElem?_cons_succ, List.getElem?_cons_zero]; rfl) (fun KK hK => ?_) AllReadyH.nil
    go_simp
    refine (HPr.out _).mono ?_
    rintro e w' ⟨rfl, hw'⟩
    obtain rfl := hw'.symm
    refine hK.out _ _ ?_ (fun hHeld => ?_)
    · (try dsimp only); exact HD16.out.st.x
    clear hK KK
    try simp only [Act.put, List.setIfInBounds_toArray, List.set_cons_zero, List.set_cons_succ]
    refine wpAnyH_take (i := 6) (v := ?_) (by simp only [List.getElem?_toArray, List.getElem?_cons_succ, List.getElem?_cons_zero]; rfl) (by kernel_rfl) (by kernel_rfl) (by kernel_rfl) (by intro _ _ _ h; exact h) (Or.inl ⟨by rfl, ?_⟩) (by assumption) ?_
    rotate_left
    · (intro w hSw; (try dsimp only at hSw); go_simp <;> with_reducible rfl)
    try simp only [Act.put, List.setIfInBounds_toArray, List.set_cons_zero, List.set_cons_succ]
    refine wpAnyH_ready (rs := [7]) (by kernel_rfl) (by simp) ?_
    refine AllReadyH.cons (by simp only [List.getElem?_toArray, List.getElem?_cons_succ, List.getElem?_cons_zero]; rfl) (fun KK hK => ?_) AllReadyH.nil
    go_simp
    refine (HD16.out.st.two.loadE (at' := -1 - FR) (m := 1) ⟨by omega, by omega⟩ ⟨by omega, by omega⟩ (by omega)).mono ?_
    rintro e w16 ⟨rfl, uu16⟩
    have H16 : Hid (Sw W (fun b => K b ∨ b = zb) pb xb yb n F zb w16) := HD16.out.more uu16
    refine hK.out _ _ ?_ (fun hHeld => ?_)
    · (try dsimp only); exact H16.out.st.x
    clear hK KK uu16 HD16
    try simp only [Act.put, List.setIfInBounds_toArray, List.set_cons_zero, List.set_cons_succ]
    refine wpAnyH_take (i := 8) (v := ?_) (by simp only [List.getElem?_toArray, List.getElem?_cons_succ, List.getElem?_cons_zero]; rfl) (by kernel_rfl) (by kernel_rfl) (by kernel_rfl) (by intro _ _ _ h; exact h) (Or.inl ⟨by rfl, ?_⟩) (by assumption) ?_
    rotate_left
    · (intro w hSw; (try dsimp only at hSw); go_simp <;> with_reducible rfl)
    try simp only [Act.put, List.setIfInBounds_toArray, List.set_cons_zero, List.set_cons_succ]
    refine wpAnyH_take (i := 9) (v := ?_) (by simp only [List.getElem?_toArray, List.getElem?_cons_succ, List.getElem?_cons_zero]; rfl) (by kernel_rfl) (by kernel_rfl) (by kernel_rfl) (by intro _ _ _ h; exact h) (Or.inl ⟨by rfl, ?_⟩) (by assumption) ?_
    rotate_left
    · (intro w hSw; (try dsimp only at hSw); go_simp <;> with_reducible rfl)
    try simp only [Act.put, List.setIfInBounds_toArray, List.set_cons_zero, List.set_cons_succ]
    refine wpAnyH_take (i := 10) (v := ?_) (by simp only [List.getElem?_toArray, List.getElem?_cons_succ, List.getElem?_cons_zero]; rfl) (by kernel_rfl) (by kernel_rfl) (by kernel_rfl) (by intro _ _ _ h; exact h) (Or.inl ⟨by rfl, ?_⟩) (by assumption) ?_
    rotate_left
    · (intro w hSw; (try dsimp only at hSw); go_simp <;> with_reducible rfl)
    try simp only [Act.put, List.setIfInBounds_toArray, List.set_cons_zero, List.set_cons_succ]
    refine wpAnyH_take (i := 11) (v := ?_) (by simp only [List.getElem?_toArray, List.getElem?_cons_succ, List.getElem?_cons_zero]; rfl) (by kernel_rfl) (by kernel_rfl) (by kernel_rfl) (by intro _ _ _ h; exact h) (Or.inl ⟨by rfl, ?_⟩) (by assumption) ?_
    rotate_left
    · (intro w hSw; (try dsimp only at hSw); go_simp <;> with_reducible rfl)
    try simp only [Act.put, List.setIfInBounds_toArray, List.set_cons_zero, List.set_cons_succ]
    refine wpAnyH_done (by kernel_rfl) ?_ _
    clear hHeld
    go_wp2_with fail
    have HD17 : Hid (Sw W (fun b => K b ∨ b = zb) pb xb yb n F zb w16.drew) := H16.out.more (Up.refl w16).drew
    refine wp_region_held_drew (S := fun w' => w'.cell? ⟨xb, 0, none⟩ = some (.int .i64 0)) (by kernel_rfl) ?_ (fun hHeld => ?_)
    · (try dsimp only); exact HD17.out.st.x
    clear H16
    generalize World.drew w16 = wd at HD17 hHeld ⊢
    refine wpAnyH_take (i := 0) (v := ?_) (by simp only [List.getElem?_toArray, List.getElem?_cons_zero]; rfl) (by kernel_rfl) (by kernel_rfl) (by kernel_rfl) (by intro _ _ _ h; exact h) (Or.inl ⟨by rfl, ?_⟩) (by assumption) ?_
    rotate_left
    · (intro w hSw; (try dsimp only at hSw); go_simp <;> with_reducible rfl)
    try simp only [Act.put, List.setIfInBounds_toArray, List.set_cons_zero, List.set_cons_succ]
    refine wpAnyH_take (i := 1) (v := ?_) (by simp only [List.getElem?_toArray, List.getElem?_cons_succ, List.getElem?_cons_zero]; rfl) (by kernel_rfl) (by kernel_rfl) (by kernel_rfl) (by intro _ _ _ h; exact h) (Or.inl ⟨by rfl, ?_⟩) (by assumption) ?_
    rotate_left
    · (intro w hSw; (try dsimp only at hSw); go_simp <;> with_reducible rfl)
    try simp only [Act.put, List.setIfInBounds_toArray, List.set_cons_zero, List.set_cons_succ]
    refine wpAnyH_take (i := 2) (v := ?_) (by simp only [List.getElem?_toArray, List.getElem?_cons_succ, List.getElem?_cons_zero]; rfl) (by kernel_rfl) (by kernel_rfl) (by kernel_rfl) (by intro _ _ _ h; exact h) (Or.inl ⟨by rfl, ?_⟩) (by assumption) ?_
    rotate_left
    · (intro w hSw; (try dsimp only at hSw); go_simp <;> with_reducible rfl)
    try simp only [Act.put, List.setIfInBounds_toArray, List.set_cons_zero, List.set_cons_succ]
    refine wpAnyH_take (i := 3) (v := ?_) (by simp only [List.getElem?_toArray, List.getElem?_cons_succ, List.getElem?_cons_zero]; rfl) (by kernel_rfl) (by kernel_rfl) (by kernel_rfl) (by intro _ _ _ h; exact h) (Or.inl ⟨by rfl, ?_⟩) (by assumption) ?_
    rotate_left
    · (intro w hSw; (try dsimp only at hSw); go_simp <;> with_reducible rfl)
    try simp only [Act.put, List.setIfInBounds_toArray, List.set_cons_zero, List.set_cons_succ]
    refine wpAnyH_take (i := 4) (v := ?_) (by simp only [List.getElem?_toArray, List.getElem?_cons_succ, List.getElem?_cons_zero]; rfl) (by kernel_rfl) (by kernel_rfl) (by kernel_rfl) (by intro _ _ _ h; exact h) (Or.inl ⟨by rfl, ?_⟩) (by assumption) ?_
    rotate_left
    · (intro w hSw; (try dsimp only at hSw); go_simp <;> with_reducible rfl)
    try simp only [Act.put, List.setIfInBounds_toArray, List.set_cons_zero, List.set_cons_succ]
    refine wpAnyH_take (i := 5) (v := ?_) (by simp only [List.getElem?_toArray, List.getElem?_cons_succ, List.getElem?_cons_zero]; rfl) (by kernel_rfl) (by kernel_rfl) (by kernel_rfl) (by intro _ _ _ h; exact h) (Or.inl ⟨by rfl, ?_⟩) (by assumption) ?_
    rotate_left
    · (intro w hSw; (try dsimp only at hSw); go_simp <;> with_reducible rfl)
    try simp only [Act.put, List.setIfInBounds_toArray, List.set_cons_zero, List.set_cons_succ]
    refine wpAnyH_ready (rs := [6]) (by kernel_rfl) (by simp) ?_
    refine AllReadyH.cons (by simp only [List.getElem?_toArray, List.getElem?_cons_succ, List.getElem?_cons_zero]; rfl) (fun KK hK => ?_) AllReadyH.nil
    go_simp
    refine (HPr.out _).mono ?_
    rintro e w' ⟨rfl, hw'⟩
    obtain rfl := hw'.symm
    refine hK.out _ _ ?_ (fun hHeld => ?_)
    · (try dsimp only); exact HD17.out.st.x
    clear hK KK
    try simp only [Act.put, List.setIfInBounds_toArray, List.set_cons_zero, List.set_cons_succ]
    refine wpAnyH_take (i := 7) (v := ?_) (by simp only [List.getElem?_toArray, List.getElem?_cons_succ, List.getElem?_cons_zero]; rfl) (by kernel_rfl) (by kernel_rfl) (by kernel_rfl) (by intro _ _ _ h; exact h) (Or.inl ⟨by rfl, ?_⟩) (by assumption) ?_
    rotate_left
    · (intro w hSw; (try dsimp only at hSw); go_simp <;> with_reducible rfl)
    try simp only [Act.put, List.setIfInBounds_toArray, List.set_cons_zero, List.set_cons_succ]
    refine wpAnyH_ready (rs := [8]) (by kernel_rfl) (by simp) ?_
    refine AllReadyH.cons (by simp only [List.getElem?_toArray, List.getElem?_cons_succ, List.getElem?_cons_zero]; rfl) (fun KK hK => ?_) AllReadyH.nil
    go_simp
    refine (HD17.out.st.two.loadE (at' := (k : Int)) (m := -1 - FR) ⟨by omega, by omega⟩ ⟨by omega, by omega⟩ (by omega)).mono ?_
    rintro e w17 ⟨rfl, uu17⟩
    have H17 : Hid (Sw W (fun b => K b ∨ b = zb) pb xb yb n F zb w17) := HD17.out.more uu17
    refine hK.out _ _ ?_ (fun hHeld => ?_)
    · (try dsimp only); exact H17.out.st.x
    clear hK KK uu17 HD17
    try simp only [Act.put, List.setIfInBounds_toArray, List.set_cons_zero, List.set_cons_succ]
    refine wpAnyH_take (i := 9) (v := ?_) (by simp only [List.getElem?_toArray, List.getElem?_cons_succ, List.getElem?_cons_zero]; rfl) (by kernel_rfl) (by kernel_rfl) (by kernel_rfl) (by intro _ _ _ h; exact h) (Or.inl ⟨by rfl, ?_⟩) (by assumption) ?_
    rotate_left
    · (intro w hSw; (try dsimp only at hSw); go_simp <;> with_reducible rfl)
    try simp only [Act.put, List.setIfInBounds_toArray, List.set_cons_zero, List.set_cons_succ]
    refine wpAnyH_take (i := 10) (v := ?_) (by simp only [List.getElem?_toArray, List.getElem?_cons_succ, List.getElem?_cons_zero]; rfl) (by kernel_rfl) (by kernel_rfl) (by kernel_rfl) (by intro _ _ _ h; exact h) (Or.inl ⟨by rfl, ?_⟩) (by assumption) ?_
    rotate_left
    · (intro w hSw; (try dsimp only at hSw); go_simp <;> with_reducible rfl)
    try simp only [Act.put, List.setIfInBounds_toArray, List.set_cons_zero, List.set_cons_succ]
    refine wpAnyH_take (i := 11) (v := ?_) (by simp only [List.getElem?_toArray, List.getElem?_cons_succ, List.getElem?_cons_zero]; rfl) (by kernel_rfl) (by kernel_rfl) (by kernel_rfl) (by intro _ _ _ h; exact h) (Or.inl ⟨by rfl, ?_⟩) (by assumption) ?_
    rotate_left
    · (intro w hSw; (try dsimp only at hSw); go_simp <;> with_reducible rfl)
    try simp only [Act.put, List.setIfInBounds_toArray, List.set_cons_zero, List.set_cons_succ]
    refine wpAnyH_take (i := 12) (v := ?_) (by simp only [List.getElem?_toArray, List.getElem?_cons_succ, List.getElem?_cons_zero]; rfl) (by kernel_rfl) (by kernel_rfl) (by kernel_rfl) (by intro _ _ _ h; exact h) (Or.inl ⟨by rfl, ?_⟩) (by assumption) ?_
    rotate_left
    · (intro w hSw; (try dsimp only at hSw); go_simp <;> with_reducible rfl)
    try simp only [Act.put, List.setIfInBounds_toArray, List.set_cons_zero, List.set_cons_succ]
    refine wpAnyH_done (by kernel_rfl) ?_ _
    clear hHeld
    have kx17 := H17.out.st.x
    go_wp2_with fail
    have HU17 : Hid (∀ o, Sw W (fun b => K b ∨ b = zb) pb xb yb n F zb (w17.alloc o)) := fun o => H17.out.more ((Up.refl w17).alloc o)
    refine ((HU17.out _).st.two.storeE hn2).mono ?_
    rintro e w18 ⟨rfl, uu18⟩
    have H18 : Hid (Sw W (fun b => K b ∨ b = zb) pb xb yb n F zb w18) := (HU17.out _).more uu18
    have kx18 := H18.out.st.x
    clear HU17 H17 kx17 uu18
    go_wp2_with fail
    refine (H18.out.st.two.load0 hn2).mono ?_
    rintro e w19 ⟨g19, c19, rfl, h19, uu19⟩
    have H19 : Hid (Sw W (fun b => K b ∨ b = zb) pb xb yb n F zb w19) := H18.out.more uu19
    have cv19 := h19.conv
    have cv20 := (Lst.ofNm H19.out.nm (by omega)).conv
    clear h19 uu19 H18 kx18
    go_wp2_with fail
    go_ret
    exact ⟨by first | rfl | (simp; done), H19.out.st.two.up⟩
end Go.Proofs.Ytdiaafhnjkimlaa
