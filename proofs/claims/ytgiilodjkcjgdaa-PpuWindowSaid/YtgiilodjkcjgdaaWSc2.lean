/- PpuScrolls: the walk. -/
import Derived.Test.YtgiilodjkcjgdaaPxZ
namespace Go.Proofs.Ytgiilodjkcjgdaa
open Go.RowKit
set_option linter.unusedVariables false
variable {b : Nat} {p : Pic}
theorem pickI_small {c n : Int} (h0 : 0 ≤ c) (h1 : c < n) : pickI c n = c := by
  unfold pickI
  rw [if_neg (by omega), Int.emod_eq_of_lt h0 h1]
theorem pickI_mod {c n : Int} (h0 : 0 ≤ c) : pickI c n = c % n := by
  unfold pickI
  rw [if_neg (by omega)]
theorem plain_rg0 (y x : Int) : regsTo (plainR y x) 0 0 = 145 := by
  unfold regsTo
  rw [if_pos (by decide)]
  show regN 145 0 = 145
  decide
theorem plain_rg7 (y x : Int) : regsTo (plainR y x) 0 7 = 228 := by
  show regN 228 7 = 228
  decide
theorem plain_rg2 (y x : Int) : regsTo (plainR y x) 0 2 = pickI y 256 := by
  show pickI (pickI y 256) 256 = _
  exact pickI_small (pickI_lo _ _ (by decide)) (pickI_hi _ _ (by decide))
theorem plain_rg3 (y x : Int) : regsTo (plainR y x) 0 3 = pickI x 256 := by
  show pickI (pickI x 256) 256 = _
  exact pickI_small (pickI_lo _ _ (by decide)) (pickI_hi _ _ (by decide))
theorem plain_32 (y x : Int) : (bits .and .u8 (regN (plainR y x 0) 0) 32 != 0) = false := by
  show (bits .and .u8 (regN 145 0) 32 != 0) = false
  decide
theorem plain_2 (y x : Int) : (bits .and .u8 (regN (plainR y x 0) 0) 2 != 0) = false := by
  show (bits .and .u8 (regN 145 0) 2 != 0) = false
  decide
theorem Pcs.up {W W' : World} {pa : Option Addr} {pb po len cap : Nat} {P : Nat → Pce} (h : Pcs W pa pb po len cap P) (u : Up W W') : Pcs W' pa pb po len cap P :=
  ⟨h.lc, h.cm, h.ad, h.i64, fun i hi => (u.cell (World.block_lt_of_cell? _ _ (h.c0 i hi))).trans (h.c0 i hi), fun i hi => (u.cell (World.block_lt_of_cell? _ _ (h.c1 i hi))).trans (h.c1 i hi), fun i hi => have b := h.by' i hi; ⟨b.lc, b.cm, b.ad, b.u8, fun k hk => (u.cell (World.block_lt_of_cell? _ _ (b.cell k hk))).trans (b.cell k hk)⟩⟩
/-- a point of memory's background, by its row and column -/
def ringV (V : Nat → Int) (r c : Nat) : Int := (scPic V (plainR 0 0)).num 6144 r c
theorem plain_num (V : Nat → Int) (y x : Int) (m r c : Nat) : (scPic V (plainR y x)).num m r c = (scPic V (plainR 0 0)).num m r c := by
  unfold Pic.num Pic.lo Pic.hi Pic.tileN Pic.tileAt Pic.has
  show numberI _ _ _ = numberI _ _ _
  have e : (scPic V (plainR y x)).rg 0 = (scPic V (plainR 0 0)).rg 0 := (plain_rg0 y x).trans (plain_rg0 0 0).symm
  rw [e]
  rfl
theorem plain_point (V : Nat → Int) (y x : Int) (l k : Nat) : pointS V (plainR y x) l k = colourI 228 (ringV V (((l : Int) + pickI y 256) % 256).toNat (((pickI x 256).toNat + k) % 256)) := by
  unfold pointS Pic.pointG
  have e7 : (scPic V (plainR y x)).rg 7 = 228 := plain_rg7 y x
  have e2 : (scPic V (plainR y x)).rg 2 = pickI y 256 := plain_rg2 y x
  have e3 : (scPic V (plainR y x)).rg 3 = pickI x 256 := plain_rg3 y x
  have e0 : (scPic V (plainR y x)).rg 0 = 145 := plain_rg0 y x
  have h1 : (scPic V (plainR y x)).has 1 = true := by unfold Pic.has; rw [e0]; decide
  have h8 : (scPic V (plainR y x)).mapBy 8 = 6144 := by unfold Pic.mapBy Pic.has; rw [e0]; decide
  rw [e7, e2, e3, h1, h8, if_pos rfl, plain_num]
  rfl
theorem scroll_eq (V : Nat → Int) (y x v h : Int) (v0 : 0 ≤ v) (h0 : 0 ≤ h) (l k : Nat) : pointS V (plainR y x) (l + v.toNat) (k + h.toNat) = pointS V (plainR (pickI y 256 + v) (pickI x 256 + h)) l k := by
  have a1 := pickI_lo y 256 (by decide)
  have b1 := pickI_lo x 256 (by decide)
  rw [plain_point, plain_point, pickI_mod (show 0 ≤ pickI y 256 + v by omega), pickI_mod (show 0 ≤ pickI x 256 + h by omega)]
  congr 2
  · congr 1
    push_cast
    omega
  · omega
set_option maxRecDepth 100000 in
set_option maxHeartbeats 4000000 in
theorem scrolls_walk {W : World} {sr so : Value} {pa : Option Addr} {pb po pl pc : Nat} {P : Nat → Pce} {y0 x0 dy dx : Int} (D : Pcs W pa pb po pl pc P) (hy : I64 y0) (hx : I64 x0) (hdy : I64 dy) (hdx : I64 dx) :
    Calls Try.prog 8 #[.agg #[sr, so, .slice pa pl pc], .int .i64 y0, .int .i64 x0, .int .i64 dy, .int .i64 dx] W fun e w' => e = .returned (.bool true) ∧ Up W w' := by
  have HD : Hid (∀ w', Up W w' → Pcs w' pa pb po pl pc P) := fun w' u => D.up u
  have HPy : Hid (∀ W, Calls Try.prog 17 #[.int .i64 y0, .int .i64 256] W fun e w' => e = .returned (.int .i64 (pickI y0 256)) ∧ w' = W) := fun W => pick_any y0 256 W hy (by decide) (by decide)
  have HPx : Hid (∀ W, Calls Try.prog 17 #[.int .i64 x0, .int .i64 256] W fun e w' => e = .returned (.int .i64 (pickI x0 256)) ∧ w' = W) := fun W => pick_any x0 256 W hx (by decide) (by decide)
  have HPv : Hid (∀ W, Calls Try.prog 17 #[.int .i64 dy, .int .i64 100] W fun e w' => e = .returned (.int .i64 (pickI dy 100)) ∧ w' = W) := fun W => pick_any dy 100 W hdy (by decide) (by decide)
  have HPh : Hid (∀ W, Calls Try.prog 17 #[.int .i64 dx, .int .i64 100] W fun e w' => e = .returned (.int .i64 (pickI dx 100)) ∧ w' = W) := fun W => pick_any dx 100 W hdx (by decide) (by decide)
  have v0 := pickI_lo dy 100 (by decide)
  have v1 := pickI_hi dy 100 (by decide)
  have h0 := pickI_lo dx 100 (by decide)
  have h1 := pickI_hi dx 100 (by decide)
  have yy0 := pickI_lo y0 256 (by decide)
  have yy1 := pickI_hi y0 256 (by decide)
  have xx0 := pickI_lo x0 256 (by decide)
  have xx1 := pickI_hi x0 256 (by decide)
  have HPl1 : Hid (∀ W sr so, Calls Try.prog 27 #[.agg #[sr, so, .slice pa pl pc], .int .i64 y0, .int .i64 x0] W fun e w' => ∃ g, e = .returned (.agg #[.slice (some ⟨g, 0, none⟩) 12 12, .slice none 0 0, .slice pa pl pc]) ∧ W.heap.size ≤ g ∧ RgAt w' g (plainR y0 x0) ∧ Up W w') := fun W sr so => plain_any W sr so hy hx
  have HPl2 : Hid (∀ W sr so, Calls Try.prog 27 #[.agg #[sr, so, .slice pa pl pc], .int .i64 (pickI y0 256 + pickI dy 100), .int .i64 (pickI x0 256 + pickI dx 100)] W fun e w' => ∃ g, e = .returned (.agg #[.slice (some ⟨g, 0, none⟩) 12 12, .slice none 0 0, .slice pa pl pc]) ∧ W.heap.size ≤ g ∧ RgAt w' g (plainR (pickI y0 256 + pickI dy 100) (pickI x0 256 + pickI dx 100)) ∧ Up W w') := fun W sr so => plain_any W sr so (by unfold I64; omega) (by unfold I64; omega)
  have HShot : Hid (∀ w y x g, Up W w → RgAt w g (plainR y x) → Calls Try.prog 24 #[.agg #[.slice (some ⟨g, 0, none⟩) 12 12, .slice none 0 0, .slice pa pl pc]] w fun e w' => ∃ q, e = .returned (.tuple #[.slice (some ⟨q, 0, none⟩) 23040 23040, .bool true]) ∧ w.heap.size ≤ q ∧ NmAt w' q 23040 (fun i => pointS (putP P pl) (plainR y x) (i / 160) (i % 160)) ∧ Up w w') := fun w y x g u r => shot_any (plainR_i64 y x) (fun w' u' i hi => (r.up u').cell i hi) (fun w' u' => HD.out w' (u.trans u')) (plain_32 y x) (plain_2 y x)
  have HE : Hid (∀ l k : Nat, pointS (putP P pl) (plainR y0 x0) (l + (pickI dy 100).toNat) (k + (pickI dx 100).toNat) = pointS (putP P pl) (plainR (pickI y0 256 + pickI dy 100) (pickI x0 256 + pickI dx 100)) l k) := fun l k => scroll_eq _ _ _ _ _ v0 h0 l k
  clear D hy hx hdy hdx
  generalize pickI y0 256 = Y at *
  generalize pickI x0 256 = X at *
  generalize pickI dy 100 = dv at *
  generalize pickI dx 100 = dh at *
  obtain ⟨v, rfl⟩ := Int.eq_ofNat_of_zero_le v0
  obtain ⟨h, rfl⟩ := Int.eq_ofNat_of_zero_le h0
  obtain ⟨sb, hsb⟩ : ∃ sb, sb = W.heap.size := ⟨_, rfl⟩
  have hs2 : (W.alloc (Obj.cells #[sr, so, .slice pa pl pc] 37)).heap[sb]? = some (.cells #[sr, so, .slice pa pl pc] 37 (0, 0)) := by rw [hsb]; exact heap_alloc_new W _
  have hs3 : sb < (W.alloc (Obj.cells #[sr, so, .slice pa pl pc] 37)).heap.size := by rw [hsb]; simp
  have HU0 : Hid (Up W (W.alloc (Obj.cells #[sr, so, .slice pa pl pc] 37))) := (Up.refl W).alloc _
  have HSb : Hid (∀ w', Up (W.alloc (Obj.cells #[sr, so, .slice pa pl pc] 37)) w' → w'.rangeAt sb 0 [sr, so, .slice pa pl pc]) := fun w' u => by
    have hb := (u.block sb hs3).trans hs2
    exact range3 (by rw [cell_of_row _ _ _ _ _ _ hb]; rfl) (by rw [cell_of_row _ _ _ _ _ _ hb]; rfl) (by rw [cell_of_row _ _ _ _ _ _ hb]; rfl)
  clear hs2 hs3
  go_enter Try.func8, Try.ntmps8
  go_wp2_with fail
  rw [← hsb]
  clear hsb
  generalize World.alloc W _ = W1 at HU0 HSb ⊢
  refine (HPl1.out _ _ _).mono ?_
  rintro e w2 ⟨g1, rfl, hg1, r1, u1⟩
  have H2 : Hid _ := And.intro r1 (And.intro (HU0.out.trans u1) u1)
  clear r1 u1 hg1
  go_wp2_with fail
  refine (HShot.out _ _ _ _ H2.out.2.1 H2.out.1).mono ?_
  rintro e w3 ⟨q1, rfl, hq1, n1, u3⟩
  have H3 : Hid (NmAt w3 q1 23040 (fun i => pointS (putP P pl) (plainR y0 x0) (i / 160) (i % 160)) ∧ Up W w3 ∧ Up W1 w3) := ⟨n1, H2.out.2.1.trans u3, H2.out.2.2.trans u3⟩
  clear n1 u3 H2 hq1 HPl1
  go_wp2_with fail
  refine (HPv.out _).mono ?_
  rintro e w' ⟨rfl, hw'⟩
  obtain rfl := hw'.symm
  go_wp2_with fail
  refine (HPh.out _).mono ?_
  rintro e w' ⟨rfl, hw'⟩
  obtain rfl := hw'.symm
  go_wp2_with fail
  clear HPv HPh
  have hwY : IntKind.i64.wrap (Y + (v : Int)) = Y + (v : Int) := by simp [IntKind.wrap, IntKind.bits, IntKind.signed]; omega
  have hwX : IntKind.i64.wrap (X + (h : Int)) = X + (h : Int) := by simp [IntKind.wrap, IntKind.bits, IntKind.signed]; omega
  have HK : Hid (∀ w', Up w3 w' → w'.rangeAt sb 0 [sr, so, .slice pa pl pc]) := fun w' u => HSb.out _ (H3.out.2.2.trans u)
  have HU : Hid (Up w3 w3.drew) := (Up.refl _).drew
  refine wp_region_held_drew (S := fun w' => w'.rangeAt sb 0 [sr, so, .slice pa pl pc]) (by kernel_rfl) ?_ (fun hHeld => ?_)
  · (try dsimp only); exact HK.out _ HU.out
  refine wpAnyH_take (i := 0) (v := .agg [sr, so, .slice pa pl pc].toArray) (by simp only [List.getElem?_toArray, List.getElem?_cons_zero]; rfl) (by kernel_rfl) (by kernel_rfl) (by kernel_rfl) (by intro _ _ _ h; exact h) (yieldsIf_load_mid (by rfl) 37 _ rfl sb 0 rfl [sr, so, .slice pa pl pc] _ (fun w hw => hw) Try.underlying37 rfl (by kernel_rfl)) (by assumption) ?_
  simp only [Act.put, List.setIfInBounds_toArray, List.set_cons_zero, List.set_cons_succ]
  refine wpAnyH_take (i := 1) (v := ?_) (by simp only [List.getElem?_toArray, List.getElem?_cons_succ, List.getElem?_cons_zero]; rfl) (by kernel_rfl) (by kernel_rfl) (by kernel_rfl) (by intro _ _ _ h; exact h) (Or.inl ⟨by rfl, ?_⟩) (by assumption) ?_
  rotate_left
  · (intro w hSw; (try dsimp only at hSw); go_simp <;> with_reducible rfl)
  try simp only [Act.put, List.setIfInBounds_toArray, List.set_cons_zero, List.set_cons_succ]
  refine wpAnyH_take (i := 3) (v := ?_) (by simp only [List.getElem?_toArray, List.getElem?_cons_succ, List.getElem?_cons_zero]; rfl) (by kernel_rfl) (by kernel_rfl) (by kernel_rfl) (by intro _ _ _ h; exact h) (Or.inl ⟨by rfl, ?_⟩) (by assumption) ?_
  rotate_left
  · (intro w hSw; (try dsimp only at hSw); go_simp <;> with_reducible rfl)
  try simp only [Act.put, List.setIfInBounds_toArray, List.set_cons_zero, List.set_cons_succ]
  refine wpAnyH_take (i := 5) (v := ?_) (by simp only [List.getElem?_toArray, List.getElem?_cons_succ, List.getElem?_cons_zero]; rfl) (by kernel_rfl) (by kernel_rfl) (by kernel_rfl) (by intro _ _ _ h; exact h) (Or.inl ⟨by rfl, ?_⟩) (by assumption) ?_
  rotate_left
  · (intro w hSw; (try dsimp only at hSw); go_simp <;> with_reducible rfl)
  try simp only [Act.put, List.setIfInBounds_toArray, List.set_cons_zero, List.set_cons_succ]
  refine wpAnyH_take (i := 7) (v := ?_) (by simp only [List.getElem?_toArray, List.getElem?_cons_succ, List.getElem?_cons_zero]; rfl) (by kernel_rfl) (by kernel_rfl) (by kernel_rfl) (by intro _ _ _ h; exact h) (Or.inl ⟨by rfl, ?_⟩) (by assumption) ?_
  rotate_left
  · (intro w hSw; (try dsimp only at hSw); go_simp <;> with_reducible rfl)
  try simp only [Act.put, List.setIfInBounds_toArray, List.set_cons_zero, List.set_cons_succ]
  refine wpAnyH_ready (rs := [2]) (by kernel_rfl) (by simp) ?_
  refine AllReadyH.cons (by simp only [List.getElem?_toArray, List.getElem?_cons_succ, List.getElem?_cons_zero]; rfl) (fun K hK => ?_) AllReadyH.nil
  go_simp
  refine (HPy.out _).mono ?_
  rintro e w' ⟨rfl, hw'⟩
  obtain rfl := hw'.symm
  refine hK.out _ _ ?_ (fun _ => ?_)
  · (try dsimp only); exact HK.out _ HU.out
  clear hK K
  try simp only [Act.put, List.setIfInBounds_toArray, List.set_cons_zero, List.set_cons_succ]
  refine wpAnyH_take (i := 4) (v := ?_) (by simp only [List.getElem?_toArray, List.getElem?_cons_succ, List.getElem?_cons_zero]; rfl) (by kernel_rfl) (by kernel_rfl) (by kernel_rfl) (by intro _ _ _ h; exact h) (Or.inl ⟨by rfl, ?_⟩) (by assumption) ?_
  rotate_left
  · (intro w hSw; (try dsimp only at hSw); go_simp <;> with_reducible rfl)
  try simp only [Act.put, List.setIfInBounds_toArray, List.set_cons_zero, List.set_cons_succ]
  refine wpAnyH_ready (rs := [6]) (by kernel_rfl) (by simp) ?_
  refine AllReadyH.cons (by simp only [List.getElem?_toArray, List.getElem?_cons_succ, List.getElem?_cons_zero]; rfl) (fun K hK => ?_) AllReadyH.nil
  go_simp
  refine (HPx.out _).mono ?_
  rintro e w' ⟨rfl, hw'⟩
  obtain rfl := hw'.symm
  refine hK.out _ _ ?_ (fun _ => ?_)
  · (try dsimp only); exact HK.out _ HU.out
  clear hK K
  try simp only [Act.put, List.setIfInBounds_toArray, List.set_cons_zero, List.set_cons_succ]
  refine wpAnyH_take (i := 8) (v := ?_) (by simp only [List.getElem?_toArray, List.getElem?_cons_succ, List.getElem?_cons_zero]; rfl) (by kernel_rfl) (by kernel_rfl) (by kernel_rfl) (by intro _ _ _ h; exact h) (Or.inl ⟨by rfl, ?_⟩) (by assumption) ?_
  rotate_left
  · (intro w hSw; (try dsimp only at hSw); go_simp <;> with_reducible rfl)
  try simp only [Act.put, List.setIfInBounds_toArray, List.set_cons_zero, List.set_cons_succ]
  refine wpAnyH_ready (rs := [9]) (by kernel_rfl) (by simp) ?_
  refine AllReadyH.cons (by simp only [List.getElem?_toArray, List.getElem?_cons_succ, List.getElem?_cons_zero]; rfl) (fun K hK => ?_) AllReadyH.nil
  go_simp

  refine (HPl2.out _ _ _).mono ?_
  rintro e w4 ⟨g2, rfl, hg2, r2, u4⟩
  refine hK.out _ _ ?_ (fun _ => ?_)
  · (try dsimp only); exact HK.out _ (HU.out.trans u4)
  clear hK K
  try simp only [Act.put, List.setIfInBounds_toArray, List.set_cons_zero, List.set_cons_succ]
  refine wpAnyH_ready (rs := [10]) (by kernel_rfl) (by simp) ?_
  refine AllReadyH.cons (by simp only [List.getElem?_toArray, List.getElem?_cons_succ, List.getElem?_cons_zero]; rfl) (fun K hK => ?_) AllReadyH.nil
  go_simp
  refine (HShot.out _ _ _ _ (H3.out.2.1.trans (HU.out.trans u4)) r2).mono ?_
  rintro e w5 ⟨q2, rfl, hq2, n2, u5⟩
  refine hK.out _ _ ?_ (fun hHeld => ?_)
  · (try dsimp only); exact HK.out _ (HU.out.trans (u4.trans u5))
  clear hK K
  try simp only [Act.put, List.setIfInBounds_toArray, List.set_cons_zero, List.set_cons_succ]
  have H5 : Hid (NmAt w5 q1 23040 (fun i => pointS (putP P pl) (plainR y0 x0) (i / 160) (i % 160)) ∧ NmAt w5 q2 23040 (fun i => pointS (putP P pl) (plainR (Y + (v : Int)) (X + (h : Int))) (i / 160) (i % 160)) ∧ Up W w5) := ⟨H3.out.1.of_block ((HU.out.trans (u4.trans u5)).block _ H3.out.1.lt), n2, H3.out.2.1.trans (HU.out.trans (u4.trans u5))⟩
  clear n2 u5 u4 r2 hg2 hq2
  refine wpAnyH_take (i := 11) (v := ?_) (by simp only [List.getElem?_toArray, List.getElem?_cons_succ, List.getElem?_cons_zero]; rfl) (by kernel_rfl) (by kernel_rfl) (by kernel_rfl) (by intro _ _ _ h; exact h) (Or.inl ⟨by rfl, ?_⟩) (by assumption) ?_
  rotate_left
  · (intro w hSw; (try dsimp only at hSw); go_simp <;> with_reducible rfl)
  try simp only [Act.put, List.setIfInBounds_toArray, List.set_cons_zero, List.set_cons_succ]
  refine wpAnyH_take (i := 12) (v := ?_) (by simp only [List.getElem?_toArray, List.getElem?_cons_succ, List.getElem?_cons_zero]; rfl) (by kernel_rfl) (by kernel_rfl) (by kernel_rfl) (by intro _ _ _ h; exact h) (Or.inl ⟨by rfl, ?_⟩) (by assumption) ?_
  rotate_left
  · (intro w hSw; (try dsimp only at hSw); go_simp <;> with_reducible rfl)
  try simp only [Act.put, List.setIfInBounds_toArray, List.set_cons_zero, List.set_cons_succ]
  refine wpAnyH_take (i := 13) (v := ?_) (by simp only [List.getElem?_toArray, List.getElem?_cons_succ, List.getElem?_cons_zero]; rfl) (by kernel_rfl) (by kernel_rfl) (by kernel_rfl) (by intro _ _ _ h; exact h) (Or.inl ⟨by rfl, ?_⟩) (by assumption) ?_
  rotate_left
  · (intro w hSw; (try dsimp only at hSw); go_simp <;> with_reducible rfl)
  try simp only [Act.put, List.setIfInBounds_toArray, List.set_cons_zero, List.set_cons_succ]
  refine wpAnyH_take (i := 14) (v := ?_) (by simp only [List.getElem?_toArray, List.getElem?_cons_succ, List.getElem?_cons_zero]; rfl) (by kernel_rfl) (by kernel_rfl) (by kernel_rfl) (by intro _ _ _ h; exact h) (Or.inl ⟨by rfl, ?_⟩) (by assumption) ?_
  rotate_left
  · (intro w hSw; (try dsimp only at hSw); go_simp <;> with_reducible rfl)
  try simp only [Act.put, List.setIfInBounds_toArray, List.set_cons_zero, List.set_cons_succ]
  refine wpAnyH_take (i := 15) (v := ?_) (by simp only [List.getElem?_toArray, List.getElem?_cons_succ, List.getElem?_cons_zero]; rfl) (by kernel_rfl) (by kernel_rfl) (by kernel_rfl) (by intro _ _ _ h; exact h) (Or.inl ⟨by rfl, ?_⟩) (by assumption) ?_
  rotate_left
  · (intro w hSw; (try dsimp only at hSw); go_simp <;> with_reducible rfl)
  try simp only [Act.put, List.setIfInBounds_toArray, List.set_cons_zero, List.set_cons_succ]
  refine wpAnyH_done (by kernel_rfl) ?_ _
  have HF : Hid (∀ (y x : Nat), y + v < 144 → x + h < 160 → ∃ c, w5.cell? ⟨q1, (y + v) * 160 + x + h, none⟩ = some (.int .u8 c) ∧ w5.cell? ⟨q2, y * 160 + x, none⟩ = some (.int .u8 c)) := fun y x hy hx => by
    have hE : pointS (putP P pl) (plainR y0 x0) (y + v) (x + h) = pointS (putP P pl) (plainR (Y + (v : Int)) (X + (h : Int))) y x := HE.out y x
    have c1 := H5.out.1.cell ((y + v) * 160 + x + h) (by omega)
    have c2 := H5.out.2.1.cell (y * 160 + x) (by omega)
    have e1 : ((y + v) * 160 + x + h) / 160 = y + v := by omega
    have e2 : ((y + v) * 160 + x + h) % 160 = x + h := by omega
    have e3 : (y * 160 + x) / 160 = y := by omega
    have e4 : (y * 160 + x) % 160 = x := by omega
    try dsimp only at c1 c2
    rw [e1, e2, hE] at c1
    rw [e3, e4] at c2
    exact ⟨_, c1, c2⟩
  have HUp : Hid (∀ n, Up W (w5.drewN n)) := fun n => H5.out.2.2.trans (Up.drewN _ n)
  clear H5 H3 HK HU HE HShot HPl2 HPx HPy hwY hwX HD HU0 HSb hHeld yy0 yy1 xx0 xx1
  go_wp2_with fail
  have v2 : v < 100 := by omega
  have h2 : h < 100 := by omega
  clear v0 v1 h0 h1
  go_loopw [17] (fun I wr => ∃ (y n : Nat), y + v ≤ 144 ∧ I = .int .i64 y ∧ wr = w5.drewN n) (fun I _ => 144 - (intOf I).toNat)
  case atStart => exact ⟨0, 0, by omega, rfl, rfl⟩
  case round =>
    obtain ⟨y, n, hy, rfl, rfl⟩ := hrel
    by_cases hly : y + v < 144
    · have d1 : decide ((y : Int) + (v : Int) < 144) = true := decide_eq_true (by omega)
      have e1 : (y : Int) + (v : Int) < 144 := by omega
      go_wp2_with fail
      go_loopw [18] (fun I wr => ∃ (x m : Nat), x + h ≤ 160 ∧ I = .int .i64 x ∧ wr = w5.drewN m) (fun I _ => 160 - (intOf I).toNat)
      case atStart => exact ⟨0, n, by omega, rfl, rfl⟩
      case round =>
        obtain ⟨x, m, hx, rfl, rfl⟩ := hrel
        by_cases hlx : x + h < 160
        · have d2 : decide ((x : Int) + (h : Int) < 160) = true := decide_eq_true (by omega)
          have e2 : (x : Int) + (h : Int) < 160 := by omega
          obtain ⟨c, k1, k2⟩ := HF.out y x hly hlx
          have i1 : (((y : Int) + (v : Int)) * 160 + (x : Int) + (h : Int)).toNat = (y + v) * 160 + x + h := by omega
          have i2 : ((y : Int) * 160 + (x : Int)).toNat = y * 160 + x := by omega
          go_wp2_with fail
          go_quiet (fail)
          go_wp2_with fail
          refine ⟨⟨x + 1, m + nq, by omega, ?_, rfl⟩, ?_⟩
          · first | rfl | (simp; done)
          · simp [intOf]
            omega
        · have d2 : decide ((x : Int) + (h : Int) < 160) = false := decide_eq_false (by omega)
          go_wp2_with fail
          refine ⟨⟨y + 1, m, by omega, ?_, rfl⟩, ?_⟩
          · first | rfl | (simp; done)
          · simp [intOf]
            omega
    · have d1 : decide ((y : Int) + (v : Int) < 144) = false := decide_eq_false (by omega)
      go_wp2_with fail
      go_ret
      exact ⟨rfl, HUp.out _⟩
end Go.Proofs.Ytgiilodjkcjgdaa
