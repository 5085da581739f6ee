/- Arena: Take, where a class is empty. -/
import Derived.Test.YteijdcidemajfaaAsF
namespace Go.Proofs.Yteijdcidemajfaa
open Go.RowKit
set_option linter.unusedVariables false
set_option linter.unusedSimpArgs false
variable {R : Nat → Option Role} {K K' : Nat → Prop} {w w' W : World} {pb : Nat} {A : Ad} {P : Pl}
set_option maxRecDepth 100000 in
set_option maxHeartbeats 4000000 in
theorem take_empty {i c : Nat} {a : Arn} {x : Cls} {size pk : Int} (hsz : I64 size) (hpk : I64 pk) (h : PlR R K W pb A P) (ok : Ok P) (ha : P.ars[i]? = some (some a)) (hq : I64 a.quota) (h1 : 1 ≤ size) (hc : P.classFor size = c) (hx : P.cls[c]? = some x) (hqu : (sizes a.loans : Int) + (x.size : Int) ≤ a.quota) (hfr : x.free = []) :
    Calls Try.prog 15 #[.pointer (some ⟨pb, 0, none⟩), .int .i64 (i : Int), .int .i64 size, .int .i64 pk] W fun e w' => e = .returned (.tuple #[.agg #[.int .i64 0, .int .i64 0, .int .i64 0], .int .i64 96]) ∧ Up W w' := by
  have hcl := (List.getElem?_eq_some_iff.1 hx).1
  have nc := ok.nc
  have na := ok.na
  obtain ⟨sz1, sz2⟩ := ok.sz c x hx
  have hln := ok.loans ha
  have hsl : sizes a.loans ≤ 65536 * 4096 := by
    have := sizes_le (ls := a.loans) (fun l hl => (ok.size ha hl).2)
    have h2 : 65536 * a.loans.length ≤ 65536 * 4096 := Nat.mul_le_mul_left _ hln
    omega
  -- what is called
  have HO : Hid (∀ w, Up W w → Calls Try.prog 33 #[.pointer (some ⟨pb, 0, none⟩), .int .i64 (i : Int)] w fun e w' => e = .returned (.tuple #[.pointer (some ⟨A.ar i, 0, none⟩), .int .i64 0]) ∧ w' = w) := fun w u => opened_yes (h.up u) ha (by omega)
  have HI : Hid (∀ w q, Up W w → w.cell? ⟨q, 0, none⟩ = some (.int .i64 size) → Calls Try.prog 37 #[.slice (some ⟨A.cb, 0, none⟩) P.cls.length A.nc, .func (.func 38) #[] #[.pointer (some ⟨q, 0, none⟩)]] w fun e w' => e = .returned (.int .i64 (c : Int)) ∧ Up w w') := fun w q u hq => by
    have := classFor_any (h.up u) hq
    rw [hc, idxI_lt hcl] at this
    exact this
  have HUs : Hid (∀ w, Up W w → Calls Try.prog 35 #[.pointer (some ⟨A.ar i, 0, none⟩)] w fun e w' => e = .returned (.int .i64 (sizes a.loans : Nat)) ∧ Up w w') := fun w u => used_any (h.up u) ha (fun l hl => (ok.size ha hl).2) (by omega)
  obtain ⟨f1, f2, f3⟩ := h.free c x hx
  obtain ⟨fa, fc, hfv, hfc⟩ : ∃ fa fc, A.fv c = .slice fa 0 fc ∧ fc ≤ 9223372036854775807 := by
    rw [hfr] at f1
    rcases own_cases f1 with ⟨hv, hn, _⟩ | ⟨g, cap, hv, h2, h3, h4, h5⟩
    · exact ⟨none, 0, hv, by decide⟩
    · exact ⟨_, cap, hv, by unfold maxLen at h3; omega⟩
  obtain ⟨g1, g2, g3, g4⟩ := h.arn i a ha
  obtain ⟨cs, c1, c2⟩ := h.cls
  have c3 := c2 c x hx
  have HW : Hid (∀ w, Up W w → w.cell? ⟨pb, 0, none⟩ = some (.slice (some ⟨A.cb, 0, none⟩) P.cls.length A.nc) ∧ w.cell? ⟨A.cb, c * 2, none⟩ = some (.int .i64 (x.size : Int)) ∧ w.cell? ⟨A.ar i, 0, none⟩ = some (.int .i64 a.quota) ∧ w.cell? ⟨A.cb, c * 2 + 1, none⟩ = some (.slice fa 0 fc)) := fun w u => by
    have hb := (u.block _ (heap_at c1)).trans c1
    exact ⟨heap_cell ((u.block _ (heap_at h.pool)).trans h.pool) rfl, heap_cell hb c3.1, heap_cell ((u.block _ (heap_at g2)).trans g2) rfl, heap_cell hb (hfv ▸ c3.2)⟩
  have hnc2 : A.nc ≤ 9223372036854775807 := by have := h.nc.2; unfold maxLen at this; omega
  have hnc1 := h.nc.1
  obtain ⟨q1, q2⟩ := hq
  obtain ⟨s1, s2⟩ := hsz
  obtain ⟨p1, p2⟩ := hpk
  have d1 : ¬ size < 1 := by omega
  have d2 : (c : Int) < (P.cls.length : Int) := by omega
  have d3 : ¬ ((c : Int) < 0) := by omega
  have d4 : ¬ (a.quota < (sizes a.loans : Int) + (x.size : Int)) := by omega
  have d4b : decide (a.quota < (sizes a.loans : Int) + (x.size : Int)) = false := decide_eq_false d4
  have hw6 : IntKind.i64.wrap ((sizes a.loans : Int) + (x.size : Int)) = (sizes a.loans : Int) + (x.size : Int) := by simp [IntKind.wrap, IntKind.bits, IntKind.signed]; omega
  clear h ok ha hx hc hfr f1 f2 f3 hfv g1 g2 g3 g4 c1 c2 c3
  go_enter Try.func15, Try.ntmps15
  go_wp2_with fail
  have U0 : Up W ((W.alloc (Obj.cells #[.int .i64 size] 3)).alloc (Obj.cells #[.int .i64 0, .int .i64 0, .int .i64 0] 38)) := ((Up.refl W).alloc _).alloc _
  have K0 : ((W.alloc (Obj.cells #[.int .i64 size] 3)).alloc (Obj.cells #[.int .i64 0, .int .i64 0, .int .i64 0] 38)).heap[W.heap.size]? = some (.cells #[.int .i64 size] 3 (0, 0)) := (Below.heap_alloc _ _ _ (by simp)).trans (heap_alloc_new W _)
  have K1 : ((W.alloc (Obj.cells #[.int .i64 size] 3)).alloc (Obj.cells #[.int .i64 0, .int .i64 0, .int .i64 0] 38)).heap[W.heap.size + 1]? = some (.cells #[.int .i64 0, .int .i64 0, .int .i64 0] 38 (0, 0)) := heap_alloc2 W _ _
  have H0 : Hid (Up W ((W.alloc (Obj.cells #[.int .i64 size] 3)).alloc (Obj.cells #[.int .i64 0, .int .i64 0, .int .i64 0] 38)) ∧ ((W.alloc (Obj.cells #[.int .i64 size] 3)).alloc (Obj.cells #[.int .i64 0, .int .i64 0, .int .i64 0] 38)).heap[W.heap.size]? = some (.cells #[.int .i64 size] 3 (0, 0)) ∧ ((W.alloc (Obj.cells #[.int .i64 size] 3)).alloc (Obj.cells #[.int .i64 0, .int .i64 0, .int .i64 0] 38)).heap[W.heap.size + 1]? = some (.cells #[.int .i64 0, .int .i64 0, .int .i64 0] 38 (0, 0))) := ⟨U0, K0, K1⟩
  clear U0 K0 K1
  generalize World.alloc (World.alloc W _) _ = w1 at H0 ⊢
  generalize hrb : W.heap.size + 1 = rb at H0 ⊢
  have HRB : Hid (W.heap.size + 1 = rb) := hrb
  clear hrb
  generalize hqb : W.heap.size = qb at H0 ⊢
  have HQB : Hid (W.heap.size = qb) := hqb
  clear hqb
  have HQ : Hid (∀ w, Up w1 w → w.cell? ⟨qb, 0, none⟩ = some (.int .i64 size) ∧ w.heap[rb]? = some (.cells #[.int .i64 0, .int .i64 0, .int .i64 0] 38 (0, 0))) := fun w u => ⟨heap_cell ((u.block _ (heap_at H0.out.2.1)).trans H0.out.2.1) rfl, (u.block _ (heap_at H0.out.2.2)).trans H0.out.2.2⟩
  have HU1 : Hid (Up W w1) := H0.out.1
  clear H0
  refine (HO.out _ HU1.out).mono ?_
  rintro e w' ⟨rfl, hw'⟩
  obtain rfl := hw'.symm
  clear HO
  have k0 := (HW.out w1 HU1.out).1
  go_wp2_with fail
  refine (HI.out _ _ HU1.out (HQ.out w1 (Up.refl w1)).1).mono ?_
  rintro e w2 ⟨rfl, u2⟩
  have H2 : Hid (Up w1 w2) := u2
  have kq := (HQ.out w2 u2).1
  obtain ⟨k0', k1, k3, k4⟩ := HW.out w2 (HU1.out.trans u2)
  clear u2 HI k0
  go_wp2_with fail
  have HD2 : Hid (Up w1 w2.drew) := H2.out.drew
  refine wp_region_held_drew (S := fun w' => w'.cell? ⟨A.cb, c * 2, none⟩ = some (.int .i64 (x.size : Int)) ∧ w'.cell? ⟨A.ar i, 0, none⟩ = some (.int .i64 a.quota)) (by kernel_rfl) ?_ (fun hHeld => ?_)
  · (try dsimp only); exact ⟨k1, k3⟩
  refine wpAnyH_take (i := 0) (v := ?_) (by simp only [List.getElem?_toArray, List.getElem?_cons_zero]; rfl) (by kernel_rfl) (by kernel_rfl) (by kernel_rfl) (by intro _ _ _ h; exact h) (Or.inl ⟨by rfl, ?_⟩) (by assumption) ?_
  rotate_left
  · (intro w hSw; (try dsimp only at hSw); go_simp <;> with_reducible rfl)
  try simp only [Act.put, List.setIfInBounds_toArray, List.set_cons_zero, List.set_cons_succ]
  refine wpAnyH_take (i := 2) (v := ?_) (by simp only [List.getElem?_toArray, List.getElem?_cons_succ, List.getElem?_cons_zero]; rfl) (by kernel_rfl) (by kernel_rfl) (by kernel_rfl) (by intro _ _ _ h; exact h) (Or.inl ⟨by rfl, ?_⟩) (by assumption) ?_
  rotate_left
  · (intro w hSw; (try dsimp only at hSw); go_simp <;> with_reducible rfl)
  try simp only [Act.put, List.setIfInBounds_toArray, List.set_cons_zero, List.set_cons_succ]
  refine wpAnyH_take (i := 3) (v := ?_) (by simp only [List.getElem?_toArray, List.getElem?_cons_succ, List.getElem?_cons_zero]; rfl) (by kernel_rfl) (by kernel_rfl) (by kernel_rfl) (by intro _ _ _ h; exact h) (Or.inl ⟨by rfl, ?_⟩) (by assumption) ?_
  rotate_left
  · (intro w hSw; (try dsimp only at hSw); go_simp <;> with_reducible rfl)
  try simp only [Act.put, List.setIfInBounds_toArray, List.set_cons_zero, List.set_cons_succ]
  refine wpAnyH_take (i := 4) (v := ?_) (by simp only [List.getElem?_toArray, List.getElem?_cons_succ, List.getElem?_cons_zero]; rfl) (by kernel_rfl) (by kernel_rfl) (by kernel_rfl) (by intro _ _ _ h; exact h) (Or.inl ⟨by rfl, ?_⟩) (by assumption) ?_
  rotate_left
  · (intro w hSw; (try dsimp only at hSw); go_simp <;> with_reducible rfl)
  try simp only [Act.put, List.setIfInBounds_toArray, List.set_cons_zero, List.set_cons_succ]
  refine wpAnyH_take (i := 5) (v := ?_) (by simp only [List.getElem?_toArray, List.getElem?_cons_succ, List.getElem?_cons_zero]; rfl) (by kernel_rfl) (by kernel_rfl) (by kernel_rfl) (by intro _ _ _ h; exact h) (Or.inl ⟨by rfl, ?_⟩) (by assumption) ?_
  rotate_left
  · (intro w hSw; (try dsimp only at hSw); go_simp <;> with_reducible rfl)
  try simp only [Act.put, List.setIfInBounds_toArray, List.set_cons_zero, List.set_cons_succ]
  refine wpAnyH_take (i := 7) (v := ?_) (by simp only [List.getElem?_toArray, List.getElem?_cons_succ, List.getElem?_cons_zero]; rfl) (by kernel_rfl) (by kernel_rfl) (by kernel_rfl) (by intro _ _ _ h; exact h) (Or.inl ⟨by rfl, ?_⟩) (by assumption) ?_
  rotate_left
  · (intro w hSw; (try dsimp only at hSw); go_simp <;> with_reducible rfl)
  try simp only [Act.put, List.setIfInBounds_toArray, List.set_cons_zero, List.set_cons_succ]
  refine wpAnyH_take (i := 8) (v := ?_) (by simp only [List.getElem?_toArray, List.getElem?_cons_succ, List.getElem?_cons_zero]; rfl) (by kernel_rfl) (by kernel_rfl) (by kernel_rfl) (by intro _ _ _ h; exact h) (Or.inl ⟨by rfl, ?_⟩) (by assumption) ?_
  rotate_left
  · (intro w hSw; (try dsimp only at hSw); go_simp <;> with_reducible rfl)
  try simp only [Act.put, List.setIfInBounds_toArray, List.set_cons_zero, List.set_cons_succ]
  refine wpAnyH_take (i := 9) (v := ?_) (by simp only [List.getElem?_toArray, List.getElem?_cons_succ, List.getElem?_cons_zero]; rfl) (by kernel_rfl) (by kernel_rfl) (by kernel_rfl) (by intro _ _ _ h; exact h) (Or.inl ⟨by rfl, ?_⟩) (by assumption) ?_
  rotate_left
  · (intro w hSw; (try dsimp only at hSw); go_simp <;> with_reducible rfl)
  try simp only [Act.put, List.setIfInBounds_toArray, List.set_cons_zero, List.set_cons_succ]
  refine wpAnyH_take (i := 10) (v := ?_) (by simp only [List.getElem?_toArray, List.getElem?_cons_succ, List.getElem?_cons_zero]; rfl) (by kernel_rfl) (by kernel_rfl) (by kernel_rfl) (by intro _ _ _ h; exact h) (Or.inl ⟨by rfl, ?_⟩) (by assumption) ?_
  rotate_left
  · (intro w hSw; (try dsimp only at hSw); go_simp <;> with_reducible rfl)
  try simp only [Act.put, List.setIfInBounds_toArray, List.set_cons_zero, List.set_cons_succ]
  refine wpAnyH_ready (rs := [1]) (by kernel_rfl) (by simp) ?_
  refine AllReadyH.cons (by simp only [List.getElem?_toArray, List.getElem?_cons_succ, List.getElem?_cons_zero]; rfl) (fun KK hK => ?_) AllReadyH.nil
  go_simp
  refine (HUs.out _ (HU1.out.trans HD2.out)).mono ?_
  rintro e w3 ⟨rfl, u3⟩
  have H3 : Hid (Up w1 w3) := HD2.out.trans u3
  refine hK.out _ _ ?_ (fun hHeld => ?_)
  · (try dsimp only); exact ⟨(HW.out w3 (HU1.out.trans H3.out)).2.1, (HW.out w3 (HU1.out.trans H3.out)).2.2.1⟩
  clear hK KK
  try simp only [Act.put, List.setIfInBounds_toArray, List.set_cons_zero, List.set_cons_succ]
  refine wpAnyH_take (i := 6) (v := ?_) (by simp only [List.getElem?_toArray, List.getElem?_cons_succ, List.getElem?_cons_zero]; rfl) (by kernel_rfl) (by kernel_rfl) (by kernel_rfl) (by intro _ _ _ h; exact h) (Or.inl ⟨by rfl, ?_⟩) (by assumption) ?_
  rotate_left
  · (intro w hSw; (try dsimp only at hSw); go_simp <;> with_reducible rfl)
  try simp only [Act.put, List.setIfInBounds_toArray, List.set_cons_zero, List.set_cons_succ]
  refine wpAnyH_take (i := 11) (v := ?_) (by simp only [List.getElem?_toArray, List.getElem?_cons_succ, List.getElem?_cons_zero]; rfl) (by kernel_rfl) (by kernel_rfl) (by kernel_rfl) (by intro _ _ _ h; exact h) (Or.inl ⟨by rfl, ?_⟩) (by assumption) ?_
  rotate_left
  · (intro w hSw; (try dsimp only at hSw); go_simp <;> with_reducible rfl)
  try simp only [Act.put, List.setIfInBounds_toArray, List.set_cons_zero, List.set_cons_succ]
  refine wpAnyH_done (by kernel_rfl) ?_ _
  have H9 : Hid (w3.heap[rb]? = some (.cells #[.int .i64 0, .int .i64 0, .int .i64 0] 38 (0, 0))) := (HQ.out w3 H3.out).2
  obtain ⟨k0', k1, k3, k4⟩ := HW.out w3 (HU1.out.trans H3.out)
  clear u3 HD2 H2 HUs
  go_wp2_with (refine wpList_store_rowTo rfl 38 _ _ rfl rfl rb #[.int .i64 0, .int .i64 0, .int .i64 0] rfl rfl 38 _ H9.out (by kernel_rfl) rfl (by simp [Value.oneCell']) ?_)
  have fr := (Fr.refl rb w3).setRow (cs := #[.int .i64 0, .int .i64 0, .int .i64 0])
  refine bodyPost_ret (v := .tuple #[.agg _, .int .i64 96]) (results_row_tmp Try.results15 _ _ _ 38 _ (0, 0) _ rfl (setRow_heap _ _ _ _ _ _ H9.out) Try.underlying38 rfl (by kernel_rfl)) rfl ⟨rfl, ?_⟩
  exact Fr.up (HU1.out.trans H3.out) (by have := HRB.out; omega) fr
end Go.Proofs.Yteijdcidemajfaa
