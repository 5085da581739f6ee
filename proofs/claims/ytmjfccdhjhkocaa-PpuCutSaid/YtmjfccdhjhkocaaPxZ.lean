/- A plain scene. -/
import Derived.Test.YtmjfccdhjhkocaaPxY
import Derived.Deep.RegionHeld3
import Derived.Deep.MidRow
import Derived.Test.YtmjfccdhjhkocaaTabL
namespace Go.Proofs.Ytmjfccdhjhkocaa
open Go.RowKit
set_option linter.unusedVariables false
variable {b : Nat} {p : Pic}
/-- the registers of a plain scene -/
def plainR (y x : Int) (i : Nat) : Int := if i = 0 then 145 else if i = 2 then pickI y 256 else if i = 3 then pickI x 256 else if i = 7 then 228 else 0
theorem plainR_i64 (y x : Int) (i : Nat) : I64 (plainR y x i) := by
  have a1 := pickI_lo y 256 (by decide)
  have a2 := pickI_hi y 256 (by decide)
  have b1 := pickI_lo x 256 (by decide)
  have b2 := pickI_hi x 256 (by decide)
  unfold plainR I64
  split
  · decide
  · split
    · omega
    · split
      · omega
      · split <;> decide
/-- twelve numbers in a block -/
structure RgAt (w : World) (g : Nat) (R : Nat → Int) : Prop where
  row : ∃ cs ty, w.heap[g]? = some (.cells cs ty (0, 0)) ∧ cs.size = 12 ∧ ∀ i, i < 12 → cs[i]? = some (.int .i64 (R i))
theorem RgAt.cell {w : World} {g : Nat} {R : Nat → Int} (h : RgAt w g R) (i : Nat) (hi : i < 12) : w.cell? ⟨g, 0 + i, none⟩ = some (.int .i64 (R i)) := by
  obtain ⟨cs, ty, h1, h2, h3⟩ := h.row
  rw [cell_of_row _ _ _ _ _ _ h1, Nat.zero_add]
  exact h3 i hi
theorem RgAt.lt {w : World} {g : Nat} {R : Nat → Int} (h : RgAt w g R) : g < w.heap.size := by
  obtain ⟨cs, ty, h1, _⟩ := h.row
  exact (Array.getElem?_eq_some_iff.1 h1).1
theorem RgAt.of_block {w w' : World} {g : Nat} {R : Nat → Int} (h : RgAt w g R) (e : w'.heap[g]? = w.heap[g]?) : RgAt w' g R := by
  obtain ⟨cs, ty, h1, h2⟩ := h.row
  exact ⟨cs, ty, e.trans h1, h2⟩
theorem RgAt.up {w w' : World} {g : Nat} {R : Nat → Int} (h : RgAt w g R) (u : Up w w') : RgAt w' g R := h.of_block (u.block g h.lt)
theorem RgAt.fz {w : World} {g : Nat} {R : Nat → Int} (h : RgAt w g R) (k : Nat) : w.frozen? ⟨g, k, none⟩ = false := by
  obtain ⟨cs, ty, h1, _⟩ := h.row
  simp [World.frozen?, h1]
theorem RgAt.set {w : World} {g : Nat} {R : Nat → Int} (h : RgAt w g R) (i : Nat) (hi : i < 12) (x : Int) : RgAt (w.setCell ⟨g, i, none⟩ (.int .i64 x)) g (fun k => if k = i then x else R k) := by
  obtain ⟨cs, ty, h1, h2, h3⟩ := h.row
  refine ⟨cs.setIfInBounds i (.int .i64 x), ty, heap_setCell_same w g i _ _ _ h1, by simp [h2], fun j hj => ?_⟩
  rw [Array.getElem?_setIfInBounds]
  by_cases e : j = i
  · subst e
    rw [if_pos rfl, if_pos (by omega), if_pos rfl]
  · rw [if_neg (fun e' => e e'.symm), if_neg e]
    exact h3 j hj
theorem twelve {g : Nat} {w : World} {ty : TypeId} {Y X : Int} {R : Nat → Int} (h : w.heap[g]? = some (.cells #[.int .i64 145, .int .i64 0, .int .i64 Y, .int .i64 X, .int .i64 0, .int .i64 0, .int .i64 0, .int .i64 228, .int .i64 0, .int .i64 0, .int .i64 0, .int .i64 0] ty (0, 0))) (hR : ∀ i, R i = if i = 0 then 145 else if i = 2 then Y else if i = 3 then X else if i = 7 then 228 else 0) : RgAt w g R := by
  refine ⟨_, _, h, rfl, fun i hi => ?_⟩
  rw [hR i]
  have : i = 0 ∨ i = 1 ∨ i = 2 ∨ i = 3 ∨ i = 4 ∨ i = 5 ∨ i = 6 ∨ i = 7 ∨ i = 8 ∨ i = 9 ∨ i = 10 ∨ i = 11 := by omega
  rcases this with rfl | rfl | rfl | rfl | rfl | rfl | rfl | rfl | rfl | rfl | rfl | rfl <;> rfl
theorem set3 {w : World} {g : Nat} {x y z x' y' z' : Value} {t : TypeId} (h : w.heap[g]? = some (.cells #[x, y, z] t (0, 0))) : (w.setCells g 0 [x', y', z']).heap[g]? = some (.cells #[x', y', z'] t (0, 0)) := by
  have h1 := heap_setCell_same w g 0 _ _ x' h
  have h2 := heap_setCell_same _ g 1 _ _ y' h1
  have h3 := heap_setCell_same _ g 2 _ _ z' h2
  exact h3
theorem setCells3_other (w : World) {g k : Nat} {x y z : Value} (hk : k ≠ g) : (w.setCells g 0 [x, y, z]).heap[k]? = w.heap[k]? := by
  have h1 := Below.heap_setCell w ⟨g, 0, none⟩ x k hk
  have h2 := Below.heap_setCell (w.setCell ⟨g, 0, none⟩ x) ⟨g, 1, none⟩ y k hk
  have h3 := Below.heap_setCell ((w.setCell ⟨g, 0, none⟩ x).setCell ⟨g, 1, none⟩ y) ⟨g, 2, none⟩ z k hk
  exact h3.trans (h2.trans h1)
theorem there3 {w : World} {g : Nat} {x y z : Value} {t : TypeId} (h : w.heap[g]? = some (.cells #[x, y, z] t (0, 0))) : w.there g 0 3 := by
  intro j hj
  have hj' : j = 0 ∨ j = 1 ∨ j = 2 := by omega
  refine ⟨?_, by unfold World.frozen?; rw [show w.heap[(⟨g, 0 + j, none⟩ : Addr).block]? = _ from h]; simp⟩
  rw [cell_of_row _ _ _ _ _ _ h]
  rcases hj' with rfl | rfl | rfl <;> rfl
set_option maxRecDepth 100000 in
set_option maxHeartbeats 1000000 in
theorem plain_any (W : World) (sr so : Value) {pa : Option Addr} {pl pc : Nat} {y x : Int} (hy : I64 y) (hx : I64 x) : Calls Try.prog 29 #[.agg #[sr, so, .slice pa pl pc], .int .i64 y, .int .i64 x] W fun e w' => ∃ g, e = .returned (.agg #[.slice (some ⟨g, 0, none⟩) 12 12, .slice none 0 0, .slice pa pl pc]) ∧ W.heap.size ≤ g ∧ RgAt w' g (plainR y x) ∧ Up W w' := by
  have HPy : Hid (∀ W, Calls Try.prog 19 #[.int .i64 y, .int .i64 256] W fun e w' => e = .returned (.int .i64 (pickI y 256)) ∧ w' = W) := fun W => pick_any y 256 W hy (by decide) (by decide)
  have HPx : Hid (∀ W, Calls Try.prog 19 #[.int .i64 x, .int .i64 256] W fun e w' => e = .returned (.int .i64 (pickI x 256)) ∧ w' = W) := fun W => pick_any x 256 W hx (by decide) (by decide)
  have HR : Hid (∀ i, plainR y x i = if i = 0 then 145 else if i = 2 then pickI y 256 else if i = 3 then pickI x 256 else if i = 7 then 228 else 0) := fun i => rfl
  clear hy hx
  generalize plainR y x = RR at *
  generalize pickI y 256 = Y at *
  generalize pickI x 256 = X at *
  go_enter Try.func29, Try.ntmps29
  go_wp2_with fail
  have kb : ((W.alloc (Obj.cells #[sr, so, .slice pa pl pc] 37)).alloc (Obj.cells #[.slice none 0 0, .slice none 0 0, .slice none 0 0] 37)).heap[W.heap.size]? = some (.cells #[sr, so, .slice pa pl pc] 37 (0, 0)) := (Below.heap_alloc _ _ _ (by simp)).trans (heap_alloc_new W _)
  have kr : ((W.alloc (Obj.cells #[sr, so, .slice pa pl pc] 37)).alloc (Obj.cells #[.slice none 0 0, .slice none 0 0, .slice none 0 0] 37)).heap[W.heap.size + 1]? = some (.cells #[.slice none 0 0, .slice none 0 0, .slice none 0 0] 37 (0, 0)) := by
    have := heap_alloc_new (W.alloc (Obj.cells #[sr, so, .slice pa pl pc] 37)) (Obj.cells #[.slice none 0 0, .slice none 0 0, .slice none 0 0] 37)
    simpa using this
  have u0 : Up W ((W.alloc (Obj.cells #[sr, so, .slice pa pl pc] 37)).alloc (Obj.cells #[.slice none 0 0, .slice none 0 0, .slice none 0 0] 37)) := ((Up.refl W).alloc _).alloc _
  have z0 : ((W.alloc (Obj.cells #[sr, so, .slice pa pl pc] 37)).alloc (Obj.cells #[.slice none 0 0, .slice none 0 0, .slice none 0 0] 37)).heap.size = W.heap.size + 2 := by simp
  generalize World.alloc (World.alloc W _) _ = w1 at kb kr u0 z0 ⊢
  generalize hs : W.heap.size = sb at *
  have HW : Hid (w1.heap[sb]? = some (.cells #[sr, so, .slice pa pl pc] 37 (0, 0)) ∧ w1.heap[sb + 1]? = some (.cells #[.slice none 0 0, .slice none 0 0, .slice none 0 0] 37 (0, 0)) ∧ Up W w1 ∧ w1.heap.size = sb + 2 ∧ W.heap.size = sb) := ⟨kb, kr, u0, z0, hs⟩
  have HK : Hid (∀ w', Up w1 w' → w'.cell? ⟨sb, 2, none⟩ = some (.slice pa pl pc)) := fun w' u => by
    have := (u.block sb (by have := HW.out.2.2.2.1; omega)).trans HW.out.1
    rw [cell_of_row _ _ _ _ _ _ this]
    rfl
  have HU : Hid (Up w1 w1.drew) := (Up.refl _).drew
  clear kb kr u0 z0 hs
  refine wp_region_held_drew (S := fun w' => w'.cell? ⟨sb, 2, none⟩ = some (.slice pa pl pc)) (by kernel_rfl) ?_ (fun hHeld => ?_)
  · (try dsimp only); exact HK.out _ HU.out
  refine wpAnyH_take (i := 0) (v := ?_) (by simp only [List.getElem?_toArray, List.getElem?_cons_zero]; rfl) (by kernel_rfl) (by kernel_rfl) (by kernel_rfl) (by intro _ _ _ h; exact h) (Or.inl ⟨by rfl, ?_⟩) (by assumption) ?_
  rotate_left
  · (intro w hSw; (try dsimp only at hSw); go_simp <;> with_reducible rfl)
  try simp only [Act.put, List.setIfInBounds_toArray, List.set_cons_zero, List.set_cons_succ]
  refine wpAnyH_take (i := 2) (v := ?_) (by simp only [List.getElem?_toArray, List.getElem?_cons_succ, List.getElem?_cons_zero]; rfl) (by kernel_rfl) (by kernel_rfl) (by kernel_rfl) (by intro _ _ _ h; exact h) (Or.inl ⟨by rfl, ?_⟩) (by assumption) ?_
  rotate_left
  · (intro w hSw; (try dsimp only at hSw); go_simp <;> with_reducible rfl)
  try simp only [Act.put, List.setIfInBounds_toArray, List.set_cons_zero, List.set_cons_succ]
  refine wpAnyH_take (i := 5) (v := ?_) (by simp only [List.getElem?_toArray, List.getElem?_cons_succ, List.getElem?_cons_zero]; rfl) (by kernel_rfl) (by kernel_rfl) (by kernel_rfl) (by intro _ _ _ h; exact h) (Or.inl ⟨by rfl, ?_⟩) (by assumption) ?_
  rotate_left
  · (intro w hSw; (try dsimp only at hSw); go_simp <;> with_reducible rfl)
  try simp only [Act.put, List.setIfInBounds_toArray, List.set_cons_zero, List.set_cons_succ]
  refine wpAnyH_take (i := 6) (v := ?_) (by simp only [List.getElem?_toArray, List.getElem?_cons_succ, List.getElem?_cons_zero]; rfl) (by kernel_rfl) (by kernel_rfl) (by kernel_rfl) (by intro _ _ _ h; exact h) (Or.inl ⟨by rfl, ?_⟩) (by assumption) ?_
  rotate_left
  · (intro w hSw; (try dsimp only at hSw); go_simp <;> with_reducible rfl)
  try simp only [Act.put, List.setIfInBounds_toArray, List.set_cons_zero, List.set_cons_succ]
  refine wpAnyH_ready (rs := [1]) (by kernel_rfl) (by simp) ?_
  refine AllReadyH.cons (by simp only [List.getElem?_toArray, List.getElem?_cons_succ, List.getElem?_cons_zero]; rfl) (fun K hK => ?_) AllReadyH.nil
  go_simp
  refine (HPy.out _).mono ?_
  rintro e w' ⟨rfl, hw'⟩
  obtain rfl := hw'.symm
  refine hK.out _ _ ?_ (fun _ => ?_)
  · (try dsimp only); exact HK.out _ HU.out
  clear hK K
  try simp only [Act.put, List.setIfInBounds_toArray, List.set_cons_zero, List.set_cons_succ]
  refine wpAnyH_ready (rs := [3]) (by kernel_rfl) (by simp) ?_
  refine AllReadyH.cons (by simp only [List.getElem?_toArray, List.getElem?_cons_succ, List.getElem?_cons_zero]; rfl) (fun K hK => ?_) AllReadyH.nil
  go_simp
  refine (HPx.out _).mono ?_
  rintro e w' ⟨rfl, hw'⟩
  obtain rfl := hw'.symm
  refine hK.out _ _ ?_ (fun _ => ?_)
  · (try dsimp only); exact HK.out _ HU.out
  clear hK K
  try simp only [Act.put, List.setIfInBounds_toArray, List.set_cons_zero, List.set_cons_succ]
  refine wpAnyH_ready (rs := [4]) (by kernel_rfl) (by simp) ?_
  refine AllReadyH.cons (by simp only [List.getElem?_toArray, List.getElem?_cons_succ, List.getElem?_cons_zero]; rfl) (fun K hK => ?_) AllReadyH.nil
  go_simp
  have hN : (w1.alloc (Obj.cells #[.int .i64 145, .int .i64 0, .int .i64 Y, .int .i64 X, .int .i64 0, .int .i64 0, .int .i64 0, .int .i64 228, .int .i64 0, .int .i64 0, .int .i64 0, .int .i64 0] 3)).drew.heap[w1.heap.size]? = some (.cells #[.int .i64 145, .int .i64 0, .int .i64 Y, .int .i64 X, .int .i64 0, .int .i64 0, .int .i64 0, .int .i64 228, .int .i64 0, .int .i64 0, .int .i64 0, .int .i64 0] 3 (0, 0)) := heap_alloc_new w1 _
  have u4 : Up w1 (w1.alloc (Obj.cells #[.int .i64 145, .int .i64 0, .int .i64 Y, .int .i64 X, .int .i64 0, .int .i64 0, .int .i64 0, .int .i64 228, .int .i64 0, .int .i64 0, .int .i64 0, .int .i64 0] 3)).drew := ((Up.refl w1).alloc _).drew
  generalize World.drew _ = w4 at hN u4 ⊢
  refine hK.out _ _ ?_ (fun hHeld => ?_)
  · (try dsimp only); exact HK.out _ u4
  clear hK K
  try simp only [Act.put, List.setIfInBounds_toArray, List.set_cons_zero, List.set_cons_succ]
  refine wpAnyH_take (i := 7) (v := ?_) (by simp only [List.getElem?_toArray, List.getElem?_cons_succ, List.getElem?_cons_zero]; rfl) (by kernel_rfl) (by kernel_rfl) (by kernel_rfl) (by intro _ _ _ h; exact h) (Or.inl ⟨by rfl, ?_⟩) (by assumption) ?_
  rotate_left
  · (intro w hSw; (try dsimp only at hSw); go_simp <;> with_reducible rfl)
  try simp only [Act.put, List.setIfInBounds_toArray, List.set_cons_zero, List.set_cons_succ]
  refine wpAnyH_ready (rs := [8]) (by kernel_rfl) (by simp) ?_
  refine AllReadyH.cons (by simp only [List.getElem?_toArray, List.getElem?_cons_succ, List.getElem?_cons_zero]; rfl) (fun K hK => ?_) AllReadyH.nil
  have hr4 := (u4.block (sb + 1) (by have := HW.out.2.2.2.1; omega)).trans HW.out.2.1
  rw [if_pos (by rfl)]
  refine wp_store_mid 37 _ _ rfl (sb + 1) 0 #[.slice (some ⟨w1.heap.size, 0, none⟩) 12 12, .slice none 0 0, .slice pa pl pc] rfl rfl (there3 hr4) (by kernel_rfl) (by simp [Value.oneCell']) ?_
  have h5 := set3 (x' := .slice (some ⟨w1.heap.size, 0, none⟩) 12 12) (y' := .slice none 0 0) (z' := .slice pa pl pc) hr4
  refine hK.out _ _ ?_ (fun _ => ?_)
  · show World.cell? _ _ = _
    have hb : w4.heap[sb]? = _ := (u4.block sb (by have := HW.out.2.2.2.1; omega)).trans HW.out.1
    have := (setCells3_other (g := sb + 1) (k := sb) (x := .slice (some ⟨w1.heap.size, 0, none⟩) 12 12) (y := .slice none 0 0) (z := .slice pa pl pc) w4 (by omega)).trans hb
    rw [cell_of_row _ _ _ _ _ _ this]
    rfl
  clear hK K
  simp only [Act.put]
  refine wpAnyH_done (by kernel_rfl) ?_ _
  have H5 : Hid ((w4.setCells (sb + 1) 0 [.slice (some ⟨w1.heap.size, 0, none⟩) 12 12, .slice none 0 0, .slice pa pl pc]).heap[sb + 1]? = some (.cells #[.slice (some ⟨w1.heap.size, 0, none⟩) 12 12, .slice none 0 0, .slice pa pl pc] 37 (0, 0)) ∧ RgAt (w4.setCells (sb + 1) 0 [.slice (some ⟨w1.heap.size, 0, none⟩) 12 12, .slice none 0 0, .slice pa pl pc]) w1.heap.size RR ∧ Up W (w4.setCells (sb + 1) 0 [.slice (some ⟨w1.heap.size, 0, none⟩) 12 12, .slice none 0 0, .slice pa pl pc])) := ⟨h5, twelve ((setCells3_other w4 (by have := HW.out.2.2.2.1; omega)).trans hN) HR.out, ((((HW.out.2.2.1.trans u4).setCell (p := ⟨sb + 1, 0, none⟩) (by have := HW.out.2.2.2.2; show _ ≤ sb + 1; omega) _).setCell (p := ⟨sb + 1, 1, none⟩) (by have := HW.out.2.2.2.2; show _ ≤ sb + 1; omega) _).setCell (p := ⟨sb + 1, 2, none⟩) (by have := HW.out.2.2.2.2; show _ ≤ sb + 1; omega) _)⟩
  clear h5 hr4 hN u4
  generalize World.setCells w4 _ _ _ = w5 at H5 ⊢
  go_wp2_with fail
  refine bodyPost_ret (v := .agg _) (results_row Try.results29 _ _ _ 37 _ (0, 0) _ rfl H5.out.1 Try.underlying37 rfl (by kernel_rfl)) rfl ?_
  exact ⟨_, rfl, by have := HW.out.2.2.2.1; have := HW.out.2.2.2.2; omega, H5.out.2⟩
end Go.Proofs.Ytmjfccdhjhkocaa
