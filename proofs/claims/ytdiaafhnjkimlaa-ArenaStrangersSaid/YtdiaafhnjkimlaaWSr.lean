/- ArenaStrangers: the walk. -/
import Derived.Test.YtdiaafhnjkimlaaAsF
namespace Go.Proofs.Ytdiaafhnjkimlaa
open Go.RowKit
set_option linter.unusedVariables false
variable {W : World}
/-- the pool, and what the law reads -/
structure Sx (W : World) (K : Nat → Prop) (pb b : Nat) (f : Nat → Int) (g xb : Nat) (w : World) : Prop where
  sg : Sg W K pb b f w
  c : w.cell? ⟨g, 0, none⟩ = some (.int .i64 0) ∧ w.cell? ⟨g, 3, none⟩ = some (.int .i64 1) ∧ w.cell? ⟨xb, 0, none⟩ = some (.int .i64 (b : Int))
  kg : K g
  kx : K xb
theorem Sx.fk {K : Nat → Prop} {pb b g xb : Nat} {f f' : Nat → Int} {w w' : World} (h : Sx W K pb b f g xb w) (s : Sg W K pb b f' w') (u : FK K w w') : Sx W K pb b f' g xb w' :=
  ⟨s, ⟨(cell_block (u.block g (World.block_lt_of_cell? _ _ h.c.1) h.kg)).trans h.c.1, (cell_block (u.block g (World.block_lt_of_cell? _ _ h.c.1) h.kg)).trans h.c.2.1, (cell_block (u.block xb (World.block_lt_of_cell? _ _ h.c.2.2) h.kx)).trans h.c.2.2⟩, h.kg, h.kx⟩
theorem Sx.more {K : Nat → Prop} {pb b g xb : Nat} {f : Nat → Int} {w w' : World} (h : Sx W K pb b f g xb w) (u : Up w w') : Sx W K pb b f g xb w' := h.fk (h.sg.more u) (FK.ofUp u)
theorem Sx.add {K : Nat → Prop} {pb b g xb c : Nat} {f : Nat → Int} {w w' : World} (h : Sx W K pb b f g xb w) (u : Up w w') (h1 : w.heap.size ≤ c) (h2 : c < w'.heap.size) : Sx W (fun b => K b ∨ b = c) pb b f g xb w' :=
  ⟨h.sg.add u h1 h2, (h.more u).c, Or.inl h.kg, Or.inl h.kx⟩
def fb3 : Nat → Int := fun k => if k = 0 then 1 else if k = 1 then 2 else 3
set_option maxRecDepth 100000 in
set_option maxHeartbeats 4000000 in
theorem strangers_walk {sa : Option Addr} {sb so sl sc : Nat} {f : Nat → Int} {b0 i0 : Int} (D : Byts W sa sb so sl sc f) (hb : I64 b0) (hi : I64 i0) :
    Calls Try.prog 6 #[.int .i64 b0, .int .i64 i0, .slice sa sl sc] W fun e w' => e = .returned (.bool true) ∧ Up W w' := by
  have l1 := D.lc
  have l2 : sc ≤ 9223372036854775807 := by have := D.cm; unfold maxLen at this; omega
  have HH : Hid (Calls Try.prog 22 #[.int .i64 2, .int .i64 100] W fun e w' => ∃ pb V K, e = .returned (.tuple #[.pointer (some ⟨pb, 0, none⟩), V, .bool true]) ∧ Hs W K pb 2 100 V 4 4 w') := house_ok (many := 2) (by decide) ⟨by decide, by decide⟩ (by decide)
  have HPi : Hid (∀ W, Calls Try.prog 11 #[.int .i64 i0, .int .i64 1099511627776] W fun e w' => e = .returned (.int .i64 (pickI i0 1099511627776)) ∧ w' = W) := fun W => pick_any i0 1099511627776 W hi (by decide) (by decide)
  have r1 := pickI_lo i0 1099511627776 (by decide)
  have r2 := pickI_hi i0 1099511627776 (by decide)
  generalize pickI i0 1099511627776 = FR at *
  have e5 : IntKind.i64.wrap (4 + FR) = 4 + FR := by rw [IntKind.wrap_i64]; omega
  have HB0 : Hid (I64 b0) := hb
  obtain ⟨i1, i2⟩ := hi
  clear D hb
  go_enter Try.func6, Try.ntmps6
  go_wp2_with fail
  refine Calls.mono HH.out ?_
  rintro e w2 ⟨pb, V, K, rfl, h2⟩
  obtain ⟨g, cap, rfl, c1, c2, k0, k1, kg⟩ := h2.held
  have H2 : Hid (Hs W K pb 2 100 (.slice (some ⟨g, 0, none⟩) 4 cap) 4 4 w2 ∧ w2.cell? ⟨g, 0, none⟩ = some (.int .i64 0) ∧ w2.cell? ⟨g, 3, none⟩ = some (.int .i64 1) ∧ K g) := ⟨h2, k0, k1, kg⟩
  clear h2 k1 kg HH
  go_wp2_with fail
  refine (H2.out.1.takeB HB0.out).mono ?_
  rintro e w3 ⟨b, rfl, h3, f3⟩
  have H4 : Hid (∃ K, Sx W K pb b (fun _ => 0) g w3.heap.size (w3.alloc (Obj.cells #[.int .i64 (b : Int), .int .i64 1, .int .i64 16] 38))) := by
    have hg := World.block_lt_of_cell? _ _ H2.out.2.1
    have hge := f3.block g hg H2.out.2.2.2
    refine ⟨_, h3.add ((Up.refl w3).alloc _) (Nat.le_refl _) (by simp), ⟨cell_up ((Up.refl w3).alloc _) ((cell_block hge).trans H2.out.2.1), cell_up ((Up.refl w3).alloc _) ((cell_block hge).trans H2.out.2.2.1), heap_cell (heap_alloc_new w3 _) rfl⟩, Or.inl H2.out.2.2.2, Or.inr rfl⟩
  have hbn := h3.bn
  clear h3 f3 H2 k0 K
  go_wp2_with fail
  generalize World.alloc w3 _ = w4 at H4 ⊢
  generalize w3.heap.size = xb at H4 ⊢
  obtain ⟨K, h4⟩ := H4.out
  have H5 : Hid (Sx W K pb b (fun _ => 0) g xb w4.drew) := h4.more (Up.refl w4).drew
  clear h4 H4
  refine wp_region_held_drew (S := fun w' => w'.cell? ⟨g, 0, none⟩ = some (.int .i64 0) ∧ w'.cell? ⟨g, 3, none⟩ = some (.int .i64 1) ∧ w'.cell? ⟨xb, 0, none⟩ = some (.int .i64 (b : Int))) (by kernel_rfl) ?_ (fun hHeld => ?_)
  · (try dsimp only); exact H5.out.c
  generalize World.drew w4 = wd at H5 hHeld ⊢
  refine wpAnyH_take (i := 0) (v := ?_) (by simp only [List.getElem?_toArray, List.getElem?_cons_zero]; rfl) (by kernel_rfl) (by kernel_rfl) (by kernel_rfl) (by intro _ _ _ h; exact h) (Or.inl ⟨by rfl, ?_⟩) (by assumption) ?_
  rotate_left
  · (intro w hSw; (try dsimp only at hSw); go_simp <;> with_reducible rfl)
  try simp only [Act.put, List.setIfInBounds_toArray, List.set_cons_zero, List.set_cons_succ]
  refine wpAnyH_take (i := 1) (v := ?_) (by simp only [List.getElem?_toArray, List.getElem?_cons_succ, List.getElem?_cons_zero]; rfl) (by kernel_rfl) (by kernel_rfl) (by kernel_rfl) (by intro _ _ _ h; exact h) (Or.inl ⟨by rfl, ?_⟩) (by assumption) ?_
  rotate_left
  · (intro w hSw; (try dsimp only at hSw); go_simp <;> with_reducible rfl)
  try simp only [Act.put, List.setIfInBounds_toArray, List.set_cons_zero, List.set_cons_succ]
  refine wpAnyH_take (i := 2) (v := ?_) (by simp only [List.getElem?_toArray, List.getElem?_cons_succ, List.getElem?_cons_zero]; rfl) (by kernel_rfl) (by kernel_rfl) (by kernel_rfl) (by intro _ _ _ h; exact h) (Or.inl ⟨by rfl, ?_⟩) (by assumption) ?_
  rotate_left
  · (intro w hSw; (try dsimp only at hSw); go_simp <;> with_reducible rfl)
  try simp only [Act.put, List.setIfInBounds_toArray, List.set_cons_zero, List.set_cons_succ]
  refine wpAnyH_take (i := 3) (v := ?_) (by simp only [List.getElem?_toArray, List.getElem?_cons_succ, List.getElem?_cons_zero]; rfl) (by kernel_rfl) (by kernel_rfl) (by kernel_rfl) (by intro _ _ _ h; exact h) (Or.inl ⟨by rfl, ?_⟩) (by assumption) ?_
  rotate_left
  · (intro w hSw; (try dsimp only at hSw); go_simp <;> with_reducible rfl)
  try simp only [Act.put, List.setIfInBounds_toArray, List.set_cons_zero, List.set_cons_succ]
  refine wpAnyH_take (i := 4) (v := ?_) (by simp only [List.getElem?_toArray, List.getElem?_cons_succ, List.getElem?_cons_zero]; rfl) (by kernel_rfl) (by kernel_rfl) (by kernel_rfl) (by intro _ _ _ h; exact h) (Or.inl ⟨by rfl, ?_⟩) (by assumption) ?_
  rotate_left
  · (intro w hSw; (try dsimp only at hSw); go_simp <;> with_reducible rfl)
  try simp only [Act.put, List.setIfInBounds_toArray, List.set_cons_zero, List.set_cons_succ]
  refine wpAnyH_take (i := 5) (v := ?_) (by simp only [List.getElem?_toArray, List.getElem?_cons_succ, List.getElem?_cons_zero]; rfl) (by kernel_rfl) (by kernel_rfl) (by kernel_rfl) (by intro _ _ _ h; exact h) (Or.inl ⟨by rfl, ?_⟩) (by assumption) ?_
  rotate_left
  · (intro w hSw; (try dsimp only at hSw); go_simp <;> with_reducible rfl)
  try simp only [Act.put, List.setIfInBounds_toArray, List.set_cons_zero, List.set_cons_succ]
  refine wpAnyH_take (i := 6) (v := ?_) (by simp only [List.getElem?_toArray, List.getElem?_cons_succ, List.getElem?_cons_zero]; rfl) (by kernel_rfl) (by kernel_rfl) (by kernel_rfl) (by intro _ _ _ h; exact h) (Or.inl ⟨by rfl, ?_⟩) (by assumption) ?_
  rotate_left
  · (intro w hSw; (try dsimp only at hSw); go_simp <;> with_reducible rfl)
  try simp only [Act.put, List.setIfInBounds_toArray, List.set_cons_zero, List.set_cons_succ]
  refine wpAnyH_ready (rs := [7]) (by kernel_rfl) (by simp) ?_
  refine AllReadyH.cons (by simp only [List.getElem?_toArray, List.getElem?_cons_succ, List.getElem?_cons_zero]; rfl) (fun KK hK => ?_) AllReadyH.nil
  go_simp
  have H6 : Hid (Sx W (fun x => K x ∨ x = wd.heap.size) pb b (fun _ => 0) g xb (wd.alloc (Obj.cells #[.int .u8 1, .int .u8 2, .int .u8 3] 5)) ∧ Byts (wd.alloc (Obj.cells #[.int .u8 1, .int .u8 2, .int .u8 3] 5)) (some ⟨wd.heap.size, 0, none⟩) wd.heap.size 0 3 3 fb3) := ⟨H5.out.add ((Up.refl wd).alloc _) (Nat.le_refl _) (by simp), ⟨Nat.le_refl _, by decide, fun _ => rfl, fun k => by unfold fb3; split; decide; split <;> decide, fun k hk => by
    have : k = 0 ∨ k = 1 ∨ k = 2 := by omega
    rcases this with rfl | rfl | rfl <;> exact heap_cell (heap_alloc_new wd _) rfl⟩⟩
  generalize World.alloc wd _ = w6 at H6 ⊢
  generalize wd.heap.size = gb at H6 ⊢
  refine hK.out _ _ ?_ (fun hHeld => ?_)
  · (try dsimp only); exact H6.out.1.c
  clear hK KK H5
  try simp only [Act.put, List.setIfInBounds_toArray, List.set_cons_zero, List.set_cons_succ]
  refine wpAnyH_ready (rs := [8]) (by kernel_rfl) (by simp) ?_
  refine AllReadyH.cons (by simp only [List.getElem?_toArray, List.getElem?_cons_succ, List.getElem?_cons_zero]; rfl) (fun KK hK => ?_) AllReadyH.nil
  go_simp
  refine (H6.out.1.sg.store H6.out.2 (Or.inr rfl)).mono ?_
  rintro e w7 ⟨rfl, h7, f7⟩
  have H7 : Hid (∃ K F, Sx W K pb b F g xb w7 ∧ F 0 = 1 ∧ F 1 = 2 ∧ F 2 = 3 ∧ F 3 = 0) := ⟨_, _, H6.out.1.fk h7 f7, rfl, rfl, rfl, rfl⟩
  obtain ⟨K2, F, h8, F0, F1, F2, F3⟩ := H7.out
  have HF : Hid (F 0 = 1 ∧ F 1 = 2 ∧ F 2 = 3 ∧ F 3 = 0) := ⟨F0, F1, F2, F3⟩
  have H8 : Hid (Sx W K2 pb b F g xb w7) := h8
  refine hK.out _ _ ?_ (fun hHeld => ?_)
  · (try dsimp only); exact H8.out.c
  clear hK KK H6 H7 h7 f7 h8 F0 F1 F2 F3 K
  try simp only [Act.put, List.setIfInBounds_toArray, List.set_cons_zero, List.set_cons_succ]
  refine wpAnyH_take (i := 9) (v := ?_) (by simp only [List.getElem?_toArray, List.getElem?_cons_succ, List.getElem?_cons_zero]; rfl) (by kernel_rfl) (by kernel_rfl) (by kernel_rfl) (by intro _ _ _ h; exact h) (Or.inl ⟨by rfl, ?_⟩) (by assumption) ?_
  rotate_left
  · (intro w hSw; (try dsimp only at hSw); go_simp <;> with_reducible rfl)
  try simp only [Act.put, List.setIfInBounds_toArray, List.set_cons_zero, List.set_cons_succ]
  refine wpAnyH_done (by kernel_rfl) ?_ _
  clear hHeld
  go_wp2_with fail
  have HD9 : Hid (Sx W K2 pb b F g xb w7.drew) := H8.out.more (Up.refl w7).drew
  refine wp_region_held_drew (S := fun w' => w'.cell? ⟨g, 0, none⟩ = some (.int .i64 0) ∧ w'.cell? ⟨g, 3, none⟩ = some (.int .i64 1) ∧ w'.cell? ⟨xb, 0, none⟩ = some (.int .i64 (b : Int))) (by kernel_rfl) ?_ (fun hHeld => ?_)
  · (try dsimp only); exact HD9.out.c
  clear H8
  generalize World.drew w7 = wd at HD9 hHeld ⊢
  refine wpAnyH_take (i := 0) (v := ?_) (by simp only [List.getElem?_toArray, List.getElem?_cons_zero]; rfl) (by kernel_rfl) (by kernel_rfl) (by kernel_rfl) (by intro _ _ _ h; exact h) (Or.inl ⟨by rfl, ?_⟩) (by assumption) ?_
  rotate_left
  · (intro w hSw; (try dsimp only at hSw); go_simp <;> with_reducible rfl)
  try simp only [Act.put, List.setIfInBounds_toArray, List.set_cons_zero, List.set_cons_succ]
  refine wpAnyH_take (i := 1) (v := ?_) (by simp only [List.getElem?_toArray, List.getElem?_cons_succ, List.getElem?_cons_zero]; rfl) (by kernel_rfl) (by kernel_rfl) (by kernel_rfl) (by intro _ _ _ h; exact h) (Or.inl ⟨by rfl, ?_⟩) (by assumption) ?_
  rotate_left
  · (intro w hSw; (try dsimp only at hSw); go_simp <;> with_reducible rfl)
  try simp only [Act.put, List.setIfInBounds_toArray, List.set_cons_zero, List.set_cons_succ]
  refine wpAnyH_take (i := 2) (v := ?_) (by simp only [List.getElem?_toArray, List.getElem?_cons_succ, List.getElem?_cons_zero]; rfl) (by kernel_rfl) (by kernel_rfl) (by kernel_rfl) (by intro _ _ _ h; exact h) (Or.inl ⟨by rfl, ?_⟩) (by assumption) ?_
  rotate_left
  · (intro w hSw; (try dsimp only at hSw); go_simp <;> with_reducible rfl)
  try simp only [Act.put, List.setIfInBounds_toArray, List.set_cons_zero, List.set_cons_succ]
  refine wpAnyH_take (i := 3) (v := ?_) (by simp only [List.getElem?_toArray, List.getElem?_cons_succ, List.getElem?_cons_zero]; rfl) (by kernel_rfl) (by kernel_rfl) (by kernel_rfl) (by intro _ _ _ h; exact h) (Or.inl ⟨by rfl, ?_⟩) (by assumption) ?_
  rotate_left
  · (intro w hSw; (try dsimp only at hSw); go_simp <;> with_reducible rfl)
  try simp only [Act.put, List.setIfInBounds_toArray, List.set_cons_zero, List.set_cons_succ]
  refine wpAnyH_take (i := 4) (v := ?_) (by simp only [List.getElem?_toArray, List.getElem?_cons_succ, List.getElem?_cons_zero]; rfl) (by kernel_rfl) (by kernel_rfl) (by kernel_rfl) (by intro _ _ _ h; exact h) (Or.inl ⟨by rfl, ?_⟩) (by assumption) ?_
  rotate_left
  · (intro w hSw; (try dsimp only at hSw); go_simp <;> with_reducible rfl)
  try simp only [Act.put, List.setIfInBounds_toArray, List.set_cons_zero, List.set_cons_succ]
  refine wpAnyH_take (i := 5) (v := ?_) (by simp only [List.getElem?_toArray, List.getElem?_cons_succ, List.getElem?_cons_zero]; rfl) (by kernel_rfl) (by kernel_rfl) (by kernel_rfl) (by intro _ _ _ h; exact h) (Or.inl ⟨by rfl, ?_⟩) (by assumption) ?_
  rotate_left
  · (intro w hSw; (try dsimp only at hSw); go_simp <;> with_reducible rfl)
  try simp only [Act.put, List.setIfInBounds_toArray, List.set_cons_zero, List.set_cons_succ]
  refine wpAnyH_take (i := 6) (v := ?_) (by simp only [List.getElem?_toArray, List.getElem?_cons_succ, List.getElem?_cons_zero]; rfl) (by kernel_rfl) (by kernel_rfl) (by kernel_rfl) (by intro _ _ _ h; exact h) (Or.inl ⟨by rfl, ?_⟩) (by assumption) ?_
  rotate_left
  · (intro w hSw; (try dsimp only at hSw); go_simp <;> with_reducible rfl)
  try simp only [Act.put, List.setIfInBounds_toArray, List.set_cons_zero, List.set_cons_succ]
  refine wpAnyH_ready (rs := [7]) (by kernel_rfl) (by simp) ?_
  refine AllReadyH.cons (by simp only [List.getElem?_toArray, List.getElem?_cons_succ, List.getElem?_cons_zero]; rfl) (fun KK hK => ?_) AllReadyH.nil
  go_simp
  refine (HD9.out.sg.loadErr (id := 1) (k := (b : Int)) (e0 := 97) ⟨by decide, by decide⟩ ⟨by omega, by omega⟩ (Or.inl ⟨rfl, rfl, rfl⟩)).mono ?_
  rintro e w9 ⟨rfl, uu⟩
  have H9 : Hid (Sx W K2 pb b F g xb w9) := HD9.out.more uu
  refine hK.out _ _ ?_ (fun hHeld => ?_)
  · (try dsimp only); exact H9.out.c
  clear hK KK uu HD9
  try simp only [Act.put, List.setIfInBounds_toArray, List.set_cons_zero, List.set_cons_succ]
  refine wpAnyH_take (i := 8) (v := ?_) (by simp only [List.getElem?_toArray, List.getElem?_cons_succ, List.getElem?_cons_zero]; rfl) (by kernel_rfl) (by kernel_rfl) (by kernel_rfl) (by intro _ _ _ h; exact h) (Or.inl ⟨by rfl, ?_⟩) (by assumption) ?_
  rotate_left
  · (intro w hSw; (try dsimp only at hSw); go_simp <;> with_reducible rfl)
  try simp only [Act.put, List.setIfInBounds_toArray, List.set_cons_zero, List.set_cons_succ]
  refine wpAnyH_take (i := 9) (v := ?_) (by simp only [List.getElem?_toArray, List.getElem?_cons_succ, List.getElem?_cons_zero]; rfl) (by kernel_rfl) (by kernel_rfl) (by kernel_rfl) (by intro _ _ _ h; exact h) (Or.inl ⟨by rfl, ?_⟩) (by assumption) ?_
  rotate_left
  · (intro w hSw; (try dsimp only at hSw); go_simp <;> with_reducible rfl)
  try simp only [Act.put, List.setIfInBounds_toArray, List.set_cons_zero, List.set_cons_succ]
  refine wpAnyH_take (i := 10) (v := ?_) (by simp only [List.getElem?_toArray, List.getElem?_cons_succ, List.getElem?_cons_zero]; rfl) (by kernel_rfl) (by kernel_rfl) (by kernel_rfl) (by intro _ _ _ h; exact h) (Or.inl ⟨by rfl, ?_⟩) (by assumption) ?_
  rotate_left
  · (intro w hSw; (try dsimp only at hSw); go_simp <;> with_reducible rfl)
  try simp only [Act.put, List.setIfInBounds_toArray, List.set_cons_zero, List.set_cons_succ]
  refine wpAnyH_take (i := 11) (v := ?_) (by simp only [List.getElem?_toArray, List.getElem?_cons_succ, List.getElem?_cons_zero]; rfl) (by kernel_rfl) (by kernel_rfl) (by kernel_rfl) (by intro _ _ _ h; exact h) (Or.inl ⟨by rfl, ?_⟩) (by assumption) ?_
  rotate_left
  · (intro w hSw; (try dsimp only at hSw); go_simp <;> with_reducible rfl)
  try simp only [Act.put, List.setIfInBounds_toArray, List.set_cons_zero, List.set_cons_succ]
  refine wpAnyH_done (by kernel_rfl) ?_ _
  clear hHeld
  go_wp2_with fail
  have HD10 : Hid (Sx W K2 pb b F g xb w9.drew) := H9.out.more (Up.refl w9).drew
  refine wp_region_held_drew (S := fun w' => w'.cell? ⟨g, 0, none⟩ = some (.int .i64 0) ∧ w'.cell? ⟨g, 3, none⟩ = some (.int .i64 1) ∧ w'.cell? ⟨xb, 0, none⟩ = some (.int .i64 (b : Int))) (by kernel_rfl) ?_ (fun hHeld => ?_)
  · (try dsimp only); exact HD10.out.c
  clear H9
  generalize World.drew w9 = wd at HD10 hHeld ⊢
  refine wpAnyH_take (i := 0) (v := ?_) (by simp only [List.getElem?_toArray, List.getElem?_cons_zero]; rfl) (by kernel_rfl) (by kernel_rfl) (by kernel_rfl) (by intro _ _ _ h; exact h) (Or.inl ⟨by rfl, ?_⟩) (by assumption) ?_
  rotate_left
  · (intro w hSw; (try dsimp only at hSw); go_simp <;> with_reducible rfl)
  try simp only [Act.put, List.setIfInBounds_toArray, List.set_cons_zero, List.set_cons_succ]
  refine wpAnyH_take (i := 1) (v := ?_) (by simp only [List.getElem?_toArray, List.getElem?_cons_succ, List.getElem?_cons_zero]; rfl) (by kernel_rfl) (by kernel_rfl) (by kernel_rfl) (by intro _ _ _ h; exact h) (Or.inl ⟨by rfl, ?_⟩) (by assumption) ?_
  rotate_left
  · (intro w hSw; (try dsimp only at hSw); go_simp <;> with_reducible rfl)
  try simp only [Act.put, List.setIfInBounds_toArray, List.set_cons_zero, List.set_cons_succ]
  refine wpAnyH_take (i := 2) (v := ?_) (by simp only [List.getElem?_toArray, List.getElem?_cons_succ, List.getElem?_cons_zero]; rfl) (by kernel_rfl) (by kernel_rfl) (by kernel_rfl) (by intro _ _ _ h; exact h) (Or.inl ⟨by rfl, ?_⟩) (by assumption) ?_
  rotate_left
  · (intro w hSw; (try dsimp only at hSw); go_simp <;> with_reducible rfl)
  try simp only [Act.put, List.setIfInBounds_toArray, List.set_cons_zero, List.set_cons_succ]
  refine wpAnyH_take (i := 3) (v := ?_) (by simp only [List.getElem?_toArray, List.getElem?_cons_succ, List.getElem?_cons_zero]; rfl) (by kernel_rfl) (by kernel_rfl) (by kernel_rfl) (by intro _ _ _ h; exact h) (Or.inl ⟨by rfl, ?_⟩) (by assumption) ?_
  rotate_left
  · (intro w hSw; (try dsimp only at hSw); go_simp <;> with_reducible rfl)
  try simp only [Act.put, List.setIfInBounds_toArray, List.set_cons_zero, List.set_cons_succ]
  refine wpAnyH_take (i := 4) (v := ?_) (by simp only [List.getElem?_toArray, List.getElem?_cons_succ, List.getElem?_cons_zero]; rfl) (by kernel_rfl) (by kernel_rfl) (by kernel_rfl) (by intro _ _ _ h; exact h) (Or.inl ⟨by rfl, ?_⟩) (by assumption) ?_
  rotate_left
  · (intro w hSw; (try dsimp only at hSw); go_simp <;> with_reducible rfl)
  try simp only [Act.put, List.setIfInBounds_toArray, List.set_cons_zero, List.set_cons_succ]
  refine wpAnyH_take (i := 5) (v := ?_) (by simp only [List.getElem?_toArray, List.getElem?_cons_succ, List.getElem?_cons_zero]; rfl) (by kernel_rfl) (by kernel_rfl) (by kernel_rfl) (by intro _ _ _ h; exact h) (Or.inl ⟨by rfl, ?_⟩) (by assumption) ?_
  rotate_left
  · (intro w hSw; (try dsimp only at hSw); go_simp <;> with_reducible rfl)
  try simp only [Act.put, List.setIfInBounds_toArray, List.set_cons_zero, List.set_cons_succ]
  refine wpAnyH_take (i := 6) (v := ?_) (by simp only [List.getElem?_toArray, List.getElem?_cons_succ, List.getElem?_cons_zero]; rfl) (by kernel_rfl) (by kernel_rfl) (by kernel_rfl) (by intro _ _ _ h; exact h) (Or.inl ⟨by rfl, ?_⟩) (by assumption) ?_
  rotate_left
  · (intro w hSw; (try dsimp only at hSw); go_simp <;> with_reducible rfl)
  try simp only [Act.put, List.setIfInBounds_toArray, List.set_cons_zero, List.set_cons_succ]
  refine wpAnyH_take (i := 7) (v := ?_) (by simp only [List.getElem?_toArray, List.getElem?_cons_succ, List.getElem?_cons_zero]; rfl) (by kernel_rfl) (by kernel_rfl) (by kernel_rfl) (by intro _ _ _ h; exact h) (Or.inl ⟨by rfl, ?_⟩) (by assumption) ?_
  rotate_left
  · (intro w hSw; (try dsimp only at hSw); go_simp <;> with_reducible rfl)
  try simp only [Act.put, List.setIfInBounds_toArray, List.set_cons_zero, List.set_cons_succ]
  refine wpAnyH_ready (rs := [8]) (by kernel_rfl) (by simp) ?_
  refine AllReadyH.cons (by simp only [List.getElem?_toArray, List.getElem?_cons_succ, List.getElem?_cons_zero]; rfl) (fun KK hK => ?_) AllReadyH.nil
  go_simp
  refine (HD10.out.sg.storeErr (id := 1) (k := (b : Int)) (e0 := 97) (by omega) ⟨by decide, by decide⟩ ⟨by omega, by omega⟩ (Or.inl ⟨rfl, rfl, rfl⟩)).mono ?_
  rintro e w10 ⟨rfl, uu⟩
  have H10 : Hid (Sx W K2 pb b F g xb w10) := HD10.out.more uu
  refine hK.out _ _ ?_ (fun hHeld => ?_)
  · (try dsimp only); exact H10.out.c
  clear hK KK uu HD10
  try simp only [Act.put, List.setIfInBounds_toArray, List.set_cons_zero, List.set_cons_succ]
  refine wpAnyH_take (i := 9) (v := ?_) (by simp only [List.getElem?_toArray, List.getElem?_cons_succ, List.getElem?_cons_zero]; rfl) (by kernel_rfl) (by kernel_rfl) (by kernel_rfl) (by intro _ _ _ h; exact h) (Or.inl ⟨by rfl, ?_⟩) (by assumption) ?_
  rotate_left
  · (intro w hSw; (try dsimp only at hSw); go_simp <;> with_reducible rfl)
  try simp only [Act.put, List.setIfInBounds_toArray, List.set_cons_zero, List.set_cons_succ]
  refine wpAnyH_done (by kernel_rfl) ?_ _
  clear hHeld
  go_wp2_with fail
  have HD11 : Hid (Sx W K2 pb b F g xb w10.drew) := H10.out.more (Up.refl w10).drew
  refine wp_region_held_drew (S := fun w' => w'.cell? ⟨g, 0, none⟩ = some (.int .i64 0) ∧ w'.cell? ⟨g, 3, none⟩ = some (.int .i64 1) ∧ w'.cell? ⟨xb, 0, none⟩ = some (.int .i64 (b : Int))) (by kernel_rfl) ?_ (fun hHeld => ?_)
  · (try dsimp only); exact HD11.out.c
  clear H10
  generalize World.drew w10 = wd at HD11 hHeld ⊢
  refine wpAnyH_take (i := 0) (v := ?_) (by simp only [List.getElem?_toArray, List.getElem?_cons_zero]; rfl) (by kernel_rfl) (by kernel_rfl) (by kernel_rfl) (by intro _ _ _ h; exact h) (Or.inl ⟨by rfl, ?_⟩) (by assumption) ?_
  rotate_left
  · (intro w hSw; (try dsimp only at hSw); go_simp <;> with_reducible rfl)
  try simp only [Act.put, List.setIfInBounds_toArray, List.set_cons_zero, List.set_cons_succ]
  refine wpAnyH_take (i := 1) (v := ?_) (by simp only [List.getElem?_toArray, List.getElem?_cons_succ, List.getElem?_cons_zero]; rfl) (by kernel_rfl) (by kernel_rfl) (by kernel_rfl) (by intro _ _ _ h; exact h) (Or.inl ⟨by rfl, ?_⟩) (by assumption) ?_
  rotate_left
  · (intro w hSw; (try dsimp only at hSw); go_simp <;> with_reducible rfl)
  try simp only [Act.put, List.setIfInBounds_toArray, List.set_cons_zero, List.set_cons_succ]
  refine wpAnyH_take (i := 2) (v := ?_) (by simp only [List.getElem?_toArray, List.getElem?_cons_succ, List.getElem?_cons_zero]; rfl) (by kernel_rfl) (by kernel_rfl) (by kernel_rfl) (by intro _ _ _ h; exact h) (Or.inl ⟨by rfl, ?_⟩) (by assumption) ?_
  rotate_left
  · (intro w hSw; (try dsimp only at hSw); go_simp <;> with_reducible rfl)
  try simp only [Act.put, List.setIfInBounds_toArray, List.set_cons_zero, List.set_cons_succ]
  refine wpAnyH_take (i := 3) (v := ?_) (by simp only [List.getElem?_toArray, List.getElem?_cons_succ, List.getElem?_cons_zero]; rfl) (by kernel_rfl) (by kernel_rfl) (by kernel_rfl) (by intro _ _ _ h; exact h) (Or.inl ⟨by rfl, ?_⟩) (by assumption) ?_
  rotate_left
  · (intro w hSw; (try dsimp only at hSw); go_simp <;> with_reducible rfl)
  try simp only [Act.put, List.setIfInBounds_toArray, List.set_cons_zero, List.set_cons_succ]
  refine wpAnyH_take (i := 4) (v := ?_) (by simp only [List.getElem?_toArray, List.getElem?_cons_succ, List.getElem?_cons_zero]; rfl) (by kernel_rfl) (by kernel_rfl) (by kernel_rfl) (by intro _ _ _ h; exact h) (Or.inl ⟨by rfl, ?_⟩) (by assumption) ?_
  rotate_left
  · (intro w hSw; (try dsimp only at hSw); go_simp <;> with_reducible rfl)
  try simp only [Act.put, List.setIfInBounds_toArray, List.set_cons_zero, List.set_cons_succ]
  refine wpAnyH_take (i := 5) (v := ?_) (by simp only [List.getElem?_toArray, List.getElem?_cons_succ, List.getElem?_cons_zero]; rfl) (by kernel_rfl) (by kernel_rfl) (by kernel_rfl) (by intro _ _ _ h; exact h) (Or.inl ⟨by rfl, ?_⟩) (by assumption) ?_
  rotate_left
  · (intro w hSw; (try dsimp only at hSw); go_simp <;> with_reducible rfl)
  try simp only [Act.put, List.setIfInBounds_toArray, List.set_cons_zero, List.set_cons_succ]
  refine wpAnyH_take (i := 6) (v := ?_) (by simp only [List.getElem?_toArray, List.getElem?_cons_succ, List.getElem?_cons_zero]; rfl) (by kernel_rfl) (by kernel_rfl) (by kernel_rfl) (by intro _ _ _ h; exact h) (Or.inl ⟨by rfl, ?_⟩) (by assumption) ?_
  rotate_left
  · (intro w hSw; (try dsimp only at hSw); go_simp <;> with_reducible rfl)
  try simp only [Act.put, List.setIfInBounds_toArray, List.set_cons_zero, List.set_cons_succ]
  refine wpAnyH_ready (rs := [7]) (by kernel_rfl) (by simp) ?_
  refine AllReadyH.cons (by simp only [List.getElem?_toArray, List.getElem?_cons_succ, List.getElem?_cons_zero]; rfl) (fun KK hK => ?_) AllReadyH.nil
  go_simp
  refine (HD11.out.sg.giveErr (id := 1) (k := (b : Int)) (e0 := 97) ⟨by decide, by decide⟩ ⟨by omega, by omega⟩ (Or.inl ⟨rfl, rfl, rfl⟩)).mono ?_
  rintro e w11 ⟨rfl, uu⟩
  have H11 : Hid (Sx W K2 pb b F g xb w11) := HD11.out.more uu
  refine hK.out _ _ ?_ (fun hHeld => ?_)
  · (try dsimp only); exact H11.out.c
  clear hK KK uu HD11
  try simp only [Act.put, List.setIfInBounds_toArray, List.set_cons_zero, List.set_cons_succ]
  refine wpAnyH_take (i := 8) (v := ?_) (by simp only [List.getElem?_toArray, List.getElem?_cons_succ, List.getElem?_cons_zero]; rfl) (by kernel_rfl) (by kernel_rfl) (by kernel_rfl) (by intro _ _ _ h; exact h) (Or.inl ⟨by rfl, ?_⟩) (by assumption) ?_
  rotate_left
  · (intro w hSw; (try dsimp only at hSw); go_simp <;> with_reducible rfl)
  try simp only [Act.put, List.setIfInBounds_toArray, List.set_cons_zero, List.set_cons_succ]
  refine wpAnyH_done (by kernel_rfl) ?_ _
  clear hHeld
  go_wp2_with fail
  go_loopw [11, 12, 13, 14] (fun _ _ _ I wr => ∃ k : Int, -2 ≤ k ∧ k ≤ 6 ∧ I = .int .i64 k ∧ Hid (Sx W K2 pb b F g xb wr)) (fun _ _ _ I _ => (6 - intOf I).toNat)
  case atStart => exact ⟨-2, by decide, by decide, rfl, H11⟩
  case round =>
    clear H11
    obtain ⟨k, hk1, hk2, rfl, M0⟩ := hrel
    obtain ⟨g0, g1, kx⟩ := M0.out.c
    by_cases hlt : k < 6
    · by_cases hne : k = (b : Int)
      · have d1 : (k == (b : Int)) = true := by simp [hne]
        clear hne g0 g1
        go_wp2_with fail
        refine ⟨⟨k + 1, by omega, by omega, by first | rfl | (simp; done), M0⟩, ?_⟩
        simp [intOf]
        try omega
      · have d1 : (k == (b : Int)) = false := beq_eq_false_iff_ne.2 hne
        go_wp2_with fail
        refine (M0.out.sg.loadErr (id := 0) (k := k) (e0 := 97) ⟨by decide, by decide⟩ ⟨by omega, by omega⟩ (Or.inr (Or.inl ⟨rfl, hne, rfl⟩))).mono ?_
        rintro e w12 ⟨rfl, uu⟩
        have H12 : Hid (Sx W K2 pb b F g xb w12) := M0.out.more uu
        obtain ⟨x0, x1, xx⟩ := H12.out.c
        clear uu M0 g0 g1 kx
        go_wp2_with fail
        refine (H12.out.sg.storeErr (id := 0) (k := k) (e0 := 97) (by omega) ⟨by decide, by decide⟩ ⟨by omega, by omega⟩ (Or.inr (Or.inl ⟨rfl, hne, rfl⟩))).mono ?_
        rintro e w13 ⟨rfl, uu⟩
        have H13 : Hid (Sx W K2 pb b F g xb w13) := H12.out.more uu
        clear x0 x1 xx H12 uu
        obtain ⟨x0, x1, xx⟩ := H13.out.c
        go_wp2_with fail
        refine (H13.out.sg.giveErr (id := 0) (k := k) (e0 := 97) ⟨by decide, by decide⟩ ⟨by omega, by omega⟩ (Or.inr (Or.inl ⟨rfl, hne, rfl⟩))).mono ?_
        rintro e w14 ⟨rfl, uu⟩
        have H14 : Hid (Sx W K2 pb b F g xb w14) := H13.out.more uu
        clear x0 x1 xx H13 uu
        go_wp2_with fail
        refine ⟨⟨k + 1, by omega, by omega, by first | rfl | (simp; done), H14⟩, ?_⟩
        simp [intOf]
        try omega
    · clear g0 g1 kx
      go_wp2_with fail
      refine (HPi.out _).mono ?_
      rintro e w' ⟨rfl, hw'⟩
      obtain rfl := hw'.symm
      clear HPi
      by_cases hi0 : i0 < 0
      · skip
        have HN : Hid (∀ w, Sg W K2 pb b F w → _) := fun w h => Sg.noArena h (id := i0) ⟨by omega, by omega⟩ (by omega)
        have hb2 : (b : Int) ≤ 3 := by omega
        go_wp2_with fail
        refine (HN.out _ M0.out.sg).1.mono ?_
        rintro e w15 ⟨rfl, uu⟩
        have H15 : Hid (Sx W K2 pb b F g xb w15) := M0.out.more uu
        obtain ⟨x0, x1, xx⟩ := H15.out.c
        clear M0 uu
        go_wp2_with fail
        refine (H15.out.sg.storeErr (id := i0) (k := (b : Int)) (e0 := 94) (by omega) ⟨by omega, by omega⟩ ⟨by omega, by omega⟩ (Or.inr (Or.inr ⟨by omega, rfl⟩))).mono ?_
        rintro e w16 ⟨rfl, uu⟩
        have H16 : Hid (Sx W K2 pb b F g xb w16) := H15.out.more uu
        clear H15 uu x0 x1 xx
        obtain ⟨x0, x1, xx⟩ := H16.out.c
        go_wp2_with fail
        refine (H16.out.sg.giveErr (id := i0) (k := (b : Int)) (e0 := 94) ⟨by omega, by omega⟩ ⟨by omega, by omega⟩ (Or.inr (Or.inr ⟨by omega, rfl⟩))).mono ?_
        rintro e w17 ⟨rfl, uu⟩
        have H17 : Hid (Sx W K2 pb b F g xb w17) := H16.out.more uu
        clear H16 uu x0 x1 xx
        obtain ⟨x0, x1, xx⟩ := H17.out.c
        go_wp2_with fail
        refine (HN.out _ H17.out.sg).2.1.mono ?_
        rintro e w' ⟨rfl, hw'⟩
        obtain rfl := hw'.symm
        go_wp2_with fail
        refine (HN.out _ H17.out.sg).2.2.1.mono ?_
        rintro e w' ⟨rfl, hw'⟩
        obtain rfl := hw'.symm
        go_wp2_with fail
        refine (H17.out.sg.loadErr (id := i0) (k := (b : Int)) (e0 := 94) ⟨by omega, by omega⟩ ⟨by omega, by omega⟩ (Or.inr (Or.inr ⟨by omega, rfl⟩))).mono ?_
        rintro e w18 ⟨rfl, uu⟩
        have H18 : Hid (Sx W K2 pb b F g xb w18) := H17.out.more uu
        clear H17 uu x0 x1 xx
        go_wp2_with fail
        refine (HN.out _ H18.out.sg).2.2.2.mono ?_
        rintro e w' ⟨rfl, hw'⟩
        obtain rfl := hw'.symm
        clear HN
        go_wp2_with fail
        have HD19 : Hid (Sx W K2 pb b F g xb w18.drew) := H18.out.more (Up.refl w18).drew
        refine wp_region_held_drew (S := fun w' => w'.cell? ⟨g, 0, none⟩ = some (.int .i64 0) ∧ w'.cell? ⟨g, 3, none⟩ = some (.int .i64 1) ∧ w'.cell? ⟨xb, 0, none⟩ = some (.int .i64 (b : Int))) (by kernel_rfl) ?_ (fun hHeld => ?_)
        · (try dsimp only); exact HD19.out.c
        clear H18
        generalize World.drew w18 = wd at HD19 hHeld ⊢
        refine wpAnyH_take (i := 0) (v := ?_) (by simp only [List.getElem?_toArray, List.getElem?_cons_zero]; rfl) (by kernel_rfl) (by kernel_rfl) (by kernel_rfl) (by intro _ _ _ h; exact h) (Or.inl ⟨by rfl, ?_⟩) (by assumption) ?_
        rotate_left
        · (intro w hSw; (try dsimp only at hSw); go_simp <;> with_reducible rfl)
        try simp only [Act.put, List.setIfInBounds_toArray, List.set_cons_zero, List.set_cons_succ]
        refine wpAnyH_take (i := 1) (v := ?_) (by simp only [List.getElem?_toArray, List.getElem?_cons_succ, List.getElem?_cons_zero]; rfl) (by kernel_rfl) (by kernel_rfl) (by kernel_rfl) (by intro _ _ _ h; exact h) (Or.inl ⟨by rfl, ?_⟩) (by assumption) ?_
        rotate_left
        · (intro w hSw; (try dsimp only at hSw); go_simp <;> with_reducible rfl)
        try simp only [Act.put, List.setIfInBounds_toArray, List.set_cons_zero, List.set_cons_succ]
        refine wpAnyH_take (i := 2) (v := ?_) (by simp only [List.getElem?_toArray, List.getElem?_cons_succ, List.getElem?_cons_zero]; rfl) (by kernel_rfl) (by kernel_rfl) (by kernel_rfl) (by intro _ _ _ h; exact h) (Or.inl ⟨by rfl, ?_⟩) (by assumption) ?_
        rotate_left
        · (intro w hSw; (try dsimp only at hSw); go_simp <;> with_reducible rfl)
        try simp only [Act.put, List.setIfInBounds_toArray, List.set_cons_zero, List.set_cons_succ]
        refine wpAnyH_take (i := 3) (v := ?_) (by simp only [List.getElem?_toArray, List.getElem?_cons_succ, List.getElem?_cons_zero]; rfl) (by kernel_rfl) (by kernel_rfl) (by kernel_rfl) (by intro _ _ _ h; exact h) (Or.inl ⟨by rfl, ?_⟩) (by assumption) ?_
        rotate_left
        · (intro w hSw; (try dsimp only at hSw); go_simp <;> with_reducible rfl)
        try simp only [Act.put, List.setIfInBounds_toArray, List.set_cons_zero, List.set_cons_succ]
        refine wpAnyH_take (i := 4) (v := ?_) (by simp only [List.getElem?_toArray, List.getElem?_cons_succ, List.getElem?_cons_zero]; rfl) (by kernel_rfl) (by kernel_rfl) (by kernel_rfl) (by intro _ _ _ h; exact h) (Or.inl ⟨by rfl, ?_⟩) (by assumption) ?_
        rotate_left
        · (intro w hSw; (try dsimp only at hSw); go_simp <;> with_reducible rfl)
        try simp only [Act.put, List.setIfInBounds_toArray, List.set_cons_zero, List.set_cons_succ]
        refine wpAnyH_take (i := 5) (v := ?_) (by simp only [List.getElem?_toArray, List.getElem?_cons_succ, List.getElem?_cons_zero]; rfl) (by kernel_rfl) (by kernel_rfl) (by kernel_rfl) (by intro _ _ _ h; exact h) (Or.inl ⟨by rfl, ?_⟩) (by assumption) ?_
        rotate_left
        · (intro w hSw; (try dsimp only at hSw); go_simp <;> with_reducible rfl)
        try simp only [Act.put, List.setIfInBounds_toArray, List.set_cons_zero, List.set_cons_succ]
        refine wpAnyH_take (i := 6) (v := ?_) (by simp only [List.getElem?_toArray, List.getElem?_cons_succ, List.getElem?_cons_zero]; rfl) (by kernel_rfl) (by kernel_rfl) (by kernel_rfl) (by intro _ _ _ h; exact h) (Or.inl ⟨by rfl, ?_⟩) (by assumption) ?_
        rotate_left
        · (intro w hSw; (try dsimp only at hSw); go_simp <;> with_reducible rfl)
        try simp only [Act.put, List.setIfInBounds_toArray, List.set_cons_zero, List.set_cons_succ]
        refine wpAnyH_ready (rs := [7]) (by kernel_rfl) (by simp) ?_
        refine AllReadyH.cons (by simp only [List.getElem?_toArray, List.getElem?_cons_succ, List.getElem?_cons_zero]; rfl) (fun KK hK => ?_) AllReadyH.nil
        go_simp
        refine (HD19.out.sg.load).mono ?_
        rintro e w19 ⟨gl, cl, rfl, m1, m2, hc, uu⟩
        have H19 : Hid (Sx W K2 pb b F g xb w19) := HD19.out.more uu
        refine hK.out _ _ ?_ (fun hHeld => ?_)
        · (try dsimp only); exact H19.out.c
        have m3 : w19.cell? ⟨gl, 0, none⟩ = some (.int .u8 1) := by rw [hc 0 (by decide), HF.out.1]
        have m4 : w19.cell? ⟨gl, 1, none⟩ = some (.int .u8 2) := by rw [hc 1 (by decide), HF.out.2.1]
        have m5 : w19.cell? ⟨gl, 2, none⟩ = some (.int .u8 3) := by rw [hc 2 (by decide), HF.out.2.2.1]
        have m6 : w19.cell? ⟨gl, 3, none⟩ = some (.int .u8 0) := by rw [hc 3 (by decide), HF.out.2.2.2]
        clear hK KK uu HD19 hc
        try simp only [Act.put, List.setIfInBounds_toArray, List.set_cons_zero, List.set_cons_succ]
        refine wpAnyH_take (i := 8) (v := ?_) (by simp only [List.getElem?_toArray, List.getElem?_cons_succ, List.getElem?_cons_zero]; rfl) (by kernel_rfl) (by kernel_rfl) (by kernel_rfl) (by intro _ _ _ h; exact h) (Or.inl ⟨by rfl, ?_⟩) (by assumption) ?_
        rotate_left
        · (intro w hSw; (try dsimp only at hSw); go_simp <;> with_reducible rfl)
        try simp only [Act.put, List.setIfInBounds_toArray, List.set_cons_zero, List.set_cons_succ]
        refine wpAnyH_take (i := 9) (v := ?_) (by simp only [List.getElem?_toArray, List.getElem?_cons_succ, List.getElem?_cons_zero]; rfl) (by kernel_rfl) (by kernel_rfl) (by kernel_rfl) (by intro _ _ _ h; exact h) (Or.inl ⟨by rfl, ?_⟩) (by assumption) ?_
        rotate_left
        · (intro w hSw; (try dsimp only at hSw); go_simp <;> with_reducible rfl)
        try simp only [Act.put, List.setIfInBounds_toArray, List.set_cons_zero, List.set_cons_succ]
        refine wpAnyH_take (i := 10) (v := ?_) (by simp only [List.getElem?_toArray, List.getElem?_cons_succ, List.getElem?_cons_zero]; rfl) (by kernel_rfl) (by kernel_rfl) (by kernel_rfl) (by intro _ _ _ h; exact h) (Or.inl ⟨by rfl, ?_⟩) (by assumption) ?_
        rotate_left
        · (intro w hSw; (try dsimp only at hSw); go_simp <;> with_reducible rfl)
        try simp only [Act.put, List.setIfInBounds_toArray, List.set_cons_zero, List.set_cons_succ]
        refine wpAnyH_take (i := 11) (v := ?_) (by simp only [List.getElem?_toArray, List.getElem?_cons_succ, List.getElem?_cons_zero]; rfl) (by kernel_rfl) (by kernel_rfl) (by kernel_rfl) (by intro _ _ _ h; exact h) (Or.inl ⟨by rfl, ?_⟩) (by assumption) ?_
        rotate_left
        · (intro w hSw; (try dsimp only at hSw); go_simp <;> with_reducible rfl)
        try simp only [Act.put, List.setIfInBounds_toArray, List.set_cons_zero, List.set_cons_succ]
        refine wpAnyH_take (i := 12) (v := ?_) (by simp only [List.getElem?_toArray, List.getElem?_cons_succ, List.getElem?_cons_zero]; rfl) (by kernel_rfl) (by kernel_rfl) (by kernel_rfl) (by intro _ _ _ h; exact h) (Or.inl ⟨by rfl, ?_⟩) (by assumption) ?_
        rotate_left
        · (intro w hSw; (try dsimp only at hSw); go_simp <;> with_reducible rfl)
        try simp only [Act.put, List.setIfInBounds_toArray, List.set_cons_zero, List.set_cons_succ]
        refine wpAnyH_done (by kernel_rfl) ?_ _
        clear hHeld
        go_wp2_with fail
        go_ret
        exact ⟨by first | rfl | (simp; done), H19.out.sg.up⟩
      · skip
        have HN : Hid (∀ w, Sg W K2 pb b F w → _) := fun w h => Sg.noArena h (id := 4 + FR) ⟨by omega, by omega⟩ (by omega)
        have hb2 : (b : Int) ≤ 3 := by omega
        go_wp2_with fail
        refine (HN.out _ M0.out.sg).1.mono ?_
        rintro e w15 ⟨rfl, uu⟩
        have H15 : Hid (Sx W K2 pb b F g xb w15) := M0.out.more uu
        obtain ⟨x0, x1, xx⟩ := H15.out.c
        clear M0 uu
        go_wp2_with fail
        refine (H15.out.sg.storeErr (id := 4 + FR) (k := (b : Int)) (e0 := 94) (by omega) ⟨by omega, by omega⟩ ⟨by omega, by omega⟩ (Or.inr (Or.inr ⟨by omega, rfl⟩))).mono ?_
        rintro e w16 ⟨rfl, uu⟩
        have H16 : Hid (Sx W K2 pb b F g xb w16) := H15.out.more uu
        clear H15 uu x0 x1 xx
        obtain ⟨x0, x1, xx⟩ := H16.out.c
        go_wp2_with fail
        refine (H16.out.sg.giveErr (id := 4 + FR) (k := (b : Int)) (e0 := 94) ⟨by omega, by omega⟩ ⟨by omega, by omega⟩ (Or.inr (Or.inr ⟨by omega, rfl⟩))).mono ?_
        rintro e w17 ⟨rfl, uu⟩
        have H17 : Hid (Sx W K2 pb b F g xb w17) := H16.out.more uu
        clear H16 uu x0 x1 xx
        obtain ⟨x0, x1, xx⟩ := H17.out.c
        go_wp2_with fail
        refine (HN.out _ H17.out.sg).2.1.mono ?_
        rintro e w' ⟨rfl, hw'⟩
        obtain rfl := hw'.symm
        go_wp2_with fail
        refine (HN.out _ H17.out.sg).2.2.1.mono ?_
        rintro e w' ⟨rfl, hw'⟩
        obtain rfl := hw'.symm
        go_wp2_with fail
        refine (H17.out.sg.loadErr (id := 4 + FR) (k := (b : Int)) (e0 := 94) ⟨by omega, by omega⟩ ⟨by omega, by omega⟩ (Or.inr (Or.inr ⟨by omega, rfl⟩))).mono ?_
        rintro e w18 ⟨rfl, uu⟩
        have H18 : Hid (Sx W K2 pb b F g xb w18) := H17.out.more uu
        clear H17 uu x0 x1 xx
        go_wp2_with fail
        refine (HN.out _ H18.out.sg).2.2.2.mono ?_
        rintro e w' ⟨rfl, hw'⟩
        obtain rfl := hw'.symm
        clear HN
        go_wp2_with fail
        have HD19 : Hid (Sx W K2 pb b F g xb w18.drew) := H18.out.more (Up.refl w18).drew
        refine wp_region_held_drew (S := fun w' => w'.cell? ⟨g, 0, none⟩ = some (.int .i64 0) ∧ w'.cell? ⟨g, 3, none⟩ = some (.int .i64 1) ∧ w'.cell? ⟨xb, 0, none⟩ = some (.int .i64 (b : Int))) (by kernel_rfl) ?_ (fun hHeld => ?_)
        · (try dsimp only); exact HD19.out.c
        clear H18
        generalize World.drew w18 = wd at HD19 hHeld ⊢
        refine wpAnyH_take (i := 0) (v := ?_) (by simp only [List.getElem?_toArray, List.getElem?_cons_zero]; rfl) (by kernel_rfl) (by kernel_rfl) (by kernel_rfl) (by intro _ _ _ h; exact h) (Or.inl ⟨by rfl, ?_⟩) (by assumption) ?_
        rotate_left
        · (intro w hSw; (try dsimp only at hSw); go_simp <;> with_reducible rfl)
        try simp only [Act.put, List.setIfInBounds_toArray, List.set_cons_zero, List.set_cons_succ]
        refine wpAnyH_take (i := 1) (v := ?_) (by simp only [List.getElem?_toArray, List.getElem?_cons_succ, List.getElem?_cons_zero]; rfl) (by kernel_rfl) (by kernel_rfl) (by kernel_rfl) (by intro _ _ _ h; exact h) (Or.inl ⟨by rfl, ?_⟩) (by assumption) ?_
        rotate_left
        · (intro w hSw; (try dsimp only at hSw); go_simp <;> with_reducible rfl)
        try simp only [Act.put, List.setIfInBounds_toArray, List.set_cons_zero, List.set_cons_succ]
        refine wpAnyH_take (i := 2) (v := ?_) (by simp only [List.getElem?_toArray, List.getElem?_cons_succ, List.getElem?_cons_zero]; rfl) (by kernel_rfl) (by kernel_rfl) (by kernel_rfl) (by intro _ _ _ h; exact h) (Or.inl ⟨by rfl, ?_⟩) (by assumption) ?_
        rotate_left
        · (intro w hSw; (try dsimp only at hSw); go_simp <;> with_reducible rfl)
        try simp only [Act.put, List.setIfInBounds_toArray, List.set_cons_zero, List.set_cons_succ]
        refine wpAnyH_take (i := 3) (v := ?_) (by simp only [List.getElem?_toArray, List.getElem?_cons_succ, List.getElem?_cons_zero]; rfl) (by kernel_rfl) (by kernel_rfl) (by kernel_rfl) (by intro _ _ _ h; exact h) (Or.inl ⟨by rfl, ?_⟩) (by assumption) ?_
        rotate_left
        · (intro w hSw; (try dsimp only at hSw); go_simp <;> with_reducible rfl)
        try simp only [Act.put, List.setIfInBounds_toArray, List.set_cons_zero, List.set_cons_succ]
        refine wpAnyH_take (i := 4) (v := ?_) (by simp only [List.getElem?_toArray, List.getElem?_cons_succ, List.getElem?_cons_zero]; rfl) (by kernel_rfl) (by kernel_rfl) (by kernel_rfl) (by intro _ _ _ h; exact h) (Or.inl ⟨by rfl, ?_⟩) (by assumption) ?_
        rotate_left
        · (intro w hSw; (try dsimp only at hSw); go_simp <;> with_reducible rfl)
        try simp only [Act.put, List.setIfInBounds_toArray, List.set_cons_zero, List.set_cons_succ]
        refine wpAnyH_take (i := 5) (v := ?_) (by simp only [List.getElem?_toArray, List.getElem?_cons_succ, List.getElem?_cons_zero]; rfl) (by kernel_rfl) (by kernel_rfl) (by kernel_rfl) (by intro _ _ _ h; exact h) (Or.inl ⟨by rfl, ?_⟩) (by assumption) ?_
        rotate_left
        · (intro w hSw; (try dsimp only at hSw); go_simp <;> with_reducible rfl)
        try simp only [Act.put, List.setIfInBounds_toArray, List.set_cons_zero, List.set_cons_succ]
        refine wpAnyH_take (i := 6) (v := ?_) (by simp only [List.getElem?_toArray, List.getElem?_cons_succ, List.getElem?_cons_zero]; rfl) (by kernel_rfl) (by kernel_rfl) (by kernel_rfl) (by intro _ _ _ h; exact h) (Or.inl ⟨by rfl, ?_⟩) (by assumption) ?_
        rotate_left
        · (intro w hSw; (try dsimp only at hSw); go_simp <;> with_reducible rfl)
        try simp only [Act.put, List.setIfInBounds_toArray, List.set_cons_zero, List.set_cons_succ]
        refine wpAnyH_ready (rs := [7]) (by kernel_rfl) (by simp) ?_
        refine AllReadyH.cons (by simp only [List.getElem?_toArray, List.getElem?_cons_succ, List.getElem?_cons_zero]; rfl) (fun KK hK => ?_) AllReadyH.nil
        go_simp
        refine (HD19.out.sg.load).mono ?_
        rintro e w19 ⟨gl, cl, rfl, m1, m2, hc, uu⟩
        have H19 : Hid (Sx W K2 pb b F g xb w19) := HD19.out.more uu
        refine hK.out _ _ ?_ (fun hHeld => ?_)
        · (try dsimp only); exact H19.out.c
        have m3 : w19.cell? ⟨gl, 0, none⟩ = some (.int .u8 1) := by rw [hc 0 (by decide), HF.out.1]
        have m4 : w19.cell? ⟨gl, 1, none⟩ = some (.int .u8 2) := by rw [hc 1 (by decide), HF.out.2.1]
        have m5 : w19.cell? ⟨gl, 2, none⟩ = some (.int .u8 3) := by rw [hc 2 (by decide), HF.out.2.2.1]
        have m6 : w19.cell? ⟨gl, 3, none⟩ = some (.int .u8 0) := by rw [hc 3 (by decide), HF.out.2.2.2]
        clear hK KK uu HD19 hc
        try simp only [Act.put, List.setIfInBounds_toArray, List.set_cons_zero, List.set_cons_succ]
        refine wpAnyH_take (i := 8) (v := ?_) (by simp only [List.getElem?_toArray, List.getElem?_cons_succ, List.getElem?_cons_zero]; rfl) (by kernel_rfl) (by kernel_rfl) (by kernel_rfl) (by intro _ _ _ h; exact h) (Or.inl ⟨by rfl, ?_⟩) (by assumption) ?_
        rotate_left
        · (intro w hSw; (try dsimp only at hSw); go_simp <;> with_reducible rfl)
        try simp only [Act.put, List.setIfInBounds_toArray, List.set_cons_zero, List.set_cons_succ]
        refine wpAnyH_take (i := 9) (v := ?_) (by simp only [List.getElem?_toArray, List.getElem?_cons_succ, List.getElem?_cons_zero]; rfl) (by kernel_rfl) (by kernel_rfl) (by kernel_rfl) (by intro _ _ _ h; exact h) (Or.inl ⟨by rfl, ?_⟩) (by assumption) ?_
        rotate_left
        · (intro w hSw; (try dsimp only at hSw); go_simp <;> with_reducible rfl)
        try simp only [Act.put, List.setIfInBounds_toArray, List.set_cons_zero, List.set_cons_succ]
        refine wpAnyH_take (i := 10) (v := ?_) (by simp only [List.getElem?_toArray, List.getElem?_cons_succ, List.getElem?_cons_zero]; rfl) (by kernel_rfl) (by kernel_rfl) (by kernel_rfl) (by intro _ _ _ h; exact h) (Or.inl ⟨by rfl, ?_⟩) (by assumption) ?_
        rotate_left
        · (intro w hSw; (try dsimp only at hSw); go_simp <;> with_reducible rfl)
        try simp only [Act.put, List.setIfInBounds_toArray, List.set_cons_zero, List.set_cons_succ]
        refine wpAnyH_take (i := 11) (v := ?_) (by simp only [List.getElem?_toArray, List.getElem?_cons_succ, List.getElem?_cons_zero]; rfl) (by kernel_rfl) (by kernel_rfl) (by kernel_rfl) (by intro _ _ _ h; exact h) (Or.inl ⟨by rfl, ?_⟩) (by assumption) ?_
        rotate_left
        · (intro w hSw; (try dsimp only at hSw); go_simp <;> with_reducible rfl)
        try simp only [Act.put, List.setIfInBounds_toArray, List.set_cons_zero, List.set_cons_succ]
        refine wpAnyH_take (i := 12) (v := ?_) (by simp only [List.getElem?_toArray, List.getElem?_cons_succ, List.getElem?_cons_zero]; rfl) (by kernel_rfl) (by kernel_rfl) (by kernel_rfl) (by intro _ _ _ h; exact h) (Or.inl ⟨by rfl, ?_⟩) (by assumption) ?_
        rotate_left
        · (intro w hSw; (try dsimp only at hSw); go_simp <;> with_reducible rfl)
        try simp only [Act.put, List.setIfInBounds_toArray, List.set_cons_zero, List.set_cons_succ]
        refine wpAnyH_done (by kernel_rfl) ?_ _
        clear hHeld
        go_wp2_with fail
        go_ret
        exact ⟨by first | rfl | (simp; done), H19.out.sg.up⟩
end Go.Proofs.Ytdiaafhnjkimlaa
