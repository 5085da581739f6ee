/- Arena: Take, the walk. -/
import Derived.Test.YteijdcidemajfaaArU
namespace Go.Proofs.Yteijdcidemajfaa
open Go.RowKit
set_option linter.unusedVariables false
set_option linter.unusedSimpArgs false
variable {R : Nat → Option Role} {K K' : Nat → Prop} {w w' W : World} {pb : Nat} {A : Ad} {P : Pl}
set_option maxRecDepth 100000 in
set_option maxHeartbeats 4000000 in
theorem take_ok {i c r buf : Nat} {a : Arn} {x : Cls} {size pk : Int} (hsz : I64 size) (hpk : I64 pk) (h : PlAt K W pb P) (ok : Ok P) (ha : P.ars[i]? = some (some a)) (hq : I64 a.quota) (h1 : 1 ≤ size) (hc : P.classFor size = c) (hx : P.cls[c]? = some x) (hqu : (sizes a.loans : Int) + (x.size : Int) ≤ a.quota) (hr : pickI pk x.free.length = (r : Int)) (hbuf : x.free[r]? = some buf) :
    Calls Try.prog 15 #[.pointer (some ⟨pb, 0, none⟩), .int .i64 (i : Int), .int .i64 size, .int .i64 pk] W fun e w' => e = .returned (.tuple #[.agg #[.int .i64 (buf : Int), .int .i64 (c : Int), .int .i64 (x.size : Int)], .int .i64 0]) ∧ (∃ blk, PlAt K w' pb (P.taken i a c x r ⟨buf, c, x.size, blk, fun _ => 0⟩)) ∧ FK K W w' := by
  obtain ⟨R, A, h⟩ := h
  have hcl := (List.getElem?_eq_some_iff.1 hx).1
  have nc := ok.nc
  have na := ok.na
  obtain ⟨sz1, sz2⟩ := ok.sz c x hx
  have hfl : r < x.free.length := (List.getElem?_eq_some_iff.1 hbuf).1
  have hmy := (ok.my c x hx).1
  have hfm : x.free.length ≤ 512 := by
    have := (ok.pm c x hx).length_eq
    rw [List.length_append, List.length_range'] at this
    omega
  have hln := ok.loans ha
  have hsl : sizes a.loans ≤ 65536 * 4096 := by
    have := sizes_le (ls := a.loans) (fun l hl => (ok.size ha hl).2)
    have h2 : 65536 * a.loans.length ≤ 65536 * 4096 := Nat.mul_le_mul_left _ hln
    omega
  -- what is called
  have HO : Hid (∀ w, Up W w → Calls Try.prog 33 #[.pointer (some ⟨pb, 0, none⟩), .int .i64 (i : Int)] w fun e w' => e = .returned (.tuple #[.pointer (some ⟨A.ar i, 0, none⟩), .int .i64 0]) ∧ w' = w) := fun w u => opened_yes (h.up u) ha (by omega)
  have HI : Hid (∀ w q, Up W w → w.cell? ⟨q, 0, none⟩ = some (.int .i64 size) → Calls Try.prog 37 #[.slice (some ⟨A.cb, 0, none⟩) P.cls.length A.nc, .func (.func 38) #[] #[.pointer (some ⟨q, 0, none⟩)]] w fun e w' => e = .returned (.int .i64 (c : Int)) ∧ Up w w') := fun w q u hq => by
    have := classFor_any (h.up u) hq
    rw [hc, idxI_lt hcl] at this
    exact this
  have HUs : Hid (∀ w, Up W w → Calls Try.prog 35 #[.pointer (some ⟨A.ar i, 0, none⟩)] w fun e w' => e = .returned (.int .i64 (sizes a.loans : Nat)) ∧ Up w w') := fun w u => used_any (h.up u) ha (fun l hl => (ok.size ha hl).2) (by omega)
  have HRs : Hid (∀ w, Calls Try.prog 40 #[.int .i64 pk, .int .i64 (x.free.length : Int)] w fun e w' => e = .returned (.int .i64 (r : Int)) ∧ w' = w) := fun w => by
    have := rest_any pk (x.free.length : Int) w hpk (by omega) (by omega)
    rw [hr] at this
    exact this
  obtain ⟨f1, f2, f3⟩ := h.free c x hx
  obtain ⟨fg, fcap, hfv, hfc, hfcm, hfgl, hfo⟩ : ∃ g cap, A.fv c = .slice (some ⟨g, 0, none⟩) x.free.length cap ∧ x.free.length ≤ cap ∧ cap ≤ maxLen ∧ g < W.heap.size ∧ (A.fv c).ownBlock = some g := by
    rcases own_cases f1 with ⟨hv, hn, _⟩ | ⟨g, cap, hv, h2, h3, h4, h5⟩
    · omega
    · exact ⟨g, cap, hv, h2, h3, h4, h5⟩
  obtain ⟨fm, hfm1⟩ : ∃ fm, x.free.length = fm + 1 := ⟨x.free.length - 1, by omega⟩
  obtain ⟨g1, g2, g3, g4⟩ := h.arn i a ha
  obtain ⟨cs, c1, c2⟩ := h.cls
  have c3 := c2 c x hx
  have hrg := f2 fg hfo
  have HW : Hid (∀ w, Up W w → w.cell? ⟨pb, 0, none⟩ = some (.slice (some ⟨A.cb, 0, none⟩) P.cls.length A.nc) ∧ w.cell? ⟨A.cb, c * 2, none⟩ = some (.int .i64 (x.size : Int)) ∧ w.cell? ⟨A.cb, c * 2 + 1, none⟩ = some (.slice (some ⟨fg, 0, none⟩) x.free.length fcap) ∧ w.cell? ⟨A.ar i, 0, none⟩ = some (.int .i64 a.quota)) := fun w u => by
    have hb := (u.block _ (heap_at c1)).trans c1
    rw [hfv] at c3
    exact ⟨heap_cell ((u.block _ (heap_at h.pool)).trans h.pool) rfl, heap_cell hb c3.1, heap_cell hb c3.2, heap_cell ((u.block _ (heap_at g2)).trans g2) rfl⟩
  have hnc2 : A.nc ≤ 9223372036854775807 := by have := h.nc.2; unfold maxLen at this; omega
  have hnc1 := h.nc.1
  have hfcm2 : fcap ≤ 9223372036854775807 := by unfold maxLen at hfcm; omega
  -- the draw, in any world that has only grown
  have HDr : Hid (∀ w, Up W w → Calls Try.prog 39 #[.pointer (some ⟨A.cb, c * 2 + 1, none⟩), .int .i64 (r : Int)] w fun e w' => e = .returned (.int .i64 (buf : Int)) ∧ (∃ R' A', PlR R' K w' pb A' (P.setFree c x (x.free.eraseIdx r)) ∧ A'.ar = A.ar ∧ A'.lv = A.lv ∧ A'.cb = A.cb ∧ (∀ b, W.heap.size ≤ b → R' b = none)) ∧ FK K w w' ∧ (∀ b, W.heap.size ≤ b → b < w.heap.size → w'.heap[b]? = w.heap[b]?) ∧ w'.cell? ⟨A.cb, c * 2, none⟩ = some (.int .i64 (x.size : Int))) := fun w u => by
    have hb := (u.block _ (heap_at c1)).trans c1
    have ow := ownsRow_up f1 u
    rw [hfv, hfm1] at ow
    have hco := c3.2
    rw [hfv, hfm1] at hco
    refine (drawI_any hb hco ow (fun e => by rw [e, h.rc] at hrg; cases hrg) hbuf hfm1).mono fun e w' ⟨e1, e2, e3⟩ => ?_
    have hpu := h.up u
    have e2' := e2
    rw [← hfm1, ← hfv] at e2'
    have hle : (x.free.eraseIdx r).length = fm := by rw [List.length_eraseIdx, if_pos hfl]; omega
    have ht := hpu.free_chg (v' := .slice (some ⟨fg, 0, none⟩) fm fcap) (f := x.free.eraseIdx r) hx e2' (by rw [hle]; exact e3) (by have f4 := f3; rw [hfv] at f4; exact f4)
    refine ⟨e1, ⟨_, _, ht.1, rfl, rfl, rfl, fun b hb2 => ?_⟩, ht.2, fun b hb1 hb2 => ?_, ?_⟩
    · refine roleAt_none ?_ (fun e => ?_)
      · cases hrb : R b with
        | none => rfl
        | some r' => have := h.lt b r' hrb; omega
      · have e := Option.some.inj (show some fg = some b from e)
        omega
    · refine e2.block b hb2 (fun e => ?_) (fun e => ?_)
      · have := heap_at c1
        omega
      · have e := Option.some.inj (show some fg = some b from e)
        omega
    · have hcq := e2.cellq _ _ hb
      refine heap_cell hcq ?_
      rw [Array.getElem?_setIfInBounds, if_neg (by omega)]
      exact c3.1
  have HPL : Hid (PlR R K W pb A P) := h
  obtain ⟨va, vc, hlv⟩ : ∃ va vc, A.lv i = .slice va a.loans.length vc := by
    rcases own_cases g3 with ⟨hv, hn, _⟩ | ⟨g, cap, hv, _⟩
    · exact ⟨none, 0, by rw [hv, hn]⟩
    · exact ⟨_, _, hv⟩
  have HLVv : Hid (A.lv i = .slice va a.loans.length vc) := hlv
  clear hlv
  have hmk8 : ∀ w : World, (Instr.makeSlice 45 (.int .i64 (x.size : Int)) (.int .i64 (x.size : Int))).run Try.prog w = .ok (.slice (some ⟨w.heap.size, 0, none⟩) x.size x.size) (w.alloc (.cells (madeCells #[.int .u8 0] x.size) 5)) := fun w => by
    have := run_make (P := Try.prog) w 45 5 Try.t5 (.int .u8 0) Try.underlying45 (by kernel_rfl) rfl .i64 .i64 (x.size : Int) (x.size : Int) (by omega) (by omega) (by show (1 : Int) * (x.size : Int) ≤ 281474976710656; omega) (by omega)
    have e1 : (Value.int .u8 0).cells = #[Value.int .u8 0] := rfl
    have e2 : Try.t5.size = 1 := rfl
    rw [e1, e2] at this
    simpa using this
  have HOk : Hid (Ok P ∧ P.ars[i]? = some (some a) ∧ P.cls[c]? = some x) := ⟨ok, ha, hx⟩
  obtain ⟨q1, q2⟩ := hq
  obtain ⟨s1, s2⟩ := hsz
  obtain ⟨p1, p2⟩ := hpk
  have d1 : ¬ size < 1 := by omega
  have d2 : (c : Int) < (P.cls.length : Int) := by omega
  have d3 : ¬ ((c : Int) < 0) := by omega
  have d4 : ¬ (a.quota < (sizes a.loans : Int) + (x.size : Int)) := by omega
  have d4b : decide (a.quota < (sizes a.loans : Int) + (x.size : Int)) = false := decide_eq_false d4
  have hw6 : IntKind.i64.wrap ((sizes a.loans : Int) + (x.size : Int)) = (sizes a.loans : Int) + (x.size : Int) := by simp [IntKind.wrap, IntKind.bits, IntKind.signed]; omega
  have d5 : ((x.free.length : Int) == 0) = false := beq_eq_false_iff_ne.2 (by omega)
  clear h ok ha hx hc hr hbuf f1 f2 f3 hfv hfo hfcm g1 g2 g3 g4 c1 c2 c3 hrg hfm1
  go_enter Try.func15, Try.ntmps15
  go_wp2_with fail
  have U0 : Up W ((W.alloc (Obj.cells #[.int .i64 size] 3)).alloc (Obj.cells #[.int .i64 0, .int .i64 0, .int .i64 0] 38)) := ((Up.refl W).alloc _).alloc _
  have K0 : ((W.alloc (Obj.cells #[.int .i64 size] 3)).alloc (Obj.cells #[.int .i64 0, .int .i64 0, .int .i64 0] 38)).heap[W.heap.size]? = some (.cells #[.int .i64 size] 3 (0, 0)) := (Below.heap_alloc _ _ _ (by simp)).trans (heap_alloc_new W _)
  have K1 : ((W.alloc (Obj.cells #[.int .i64 size] 3)).alloc (Obj.cells #[.int .i64 0, .int .i64 0, .int .i64 0] 38)).heap[W.heap.size + 1]? = some (.cells #[.int .i64 0, .int .i64 0, .int .i64 0] 38 (0, 0)) := heap_alloc2 W _ _
  have H0 : Hid (Up W ((W.alloc (Obj.cells #[.int .i64 size] 3)).alloc (Obj.cells #[.int .i64 0, .int .i64 0, .int .i64 0] 38)) ∧ ((W.alloc (Obj.cells #[.int .i64 size] 3)).alloc (Obj.cells #[.int .i64 0, .int .i64 0, .int .i64 0] 38)).heap[W.heap.size]? = some (.cells #[.int .i64 size] 3 (0, 0)) ∧ ((W.alloc (Obj.cells #[.int .i64 size] 3)).alloc (Obj.cells #[.int .i64 0, .int .i64 0, .int .i64 0] 38)).heap[W.heap.size + 1]? = some (.cells #[.int .i64 0, .int .i64 0, .int .i64 0] 38 (0, 0))) := ⟨U0, K0, K1⟩
  clear U0 K0 K1
  generalize World.alloc (World.alloc W _) _ = w1 at H0 ⊢
  generalize hrb : W.heap.size + 1 = rb at H0 ⊢
  have HRB : Hid (W.heap.size + 1 = rb) := hrb
  clear hrb
  generalize hqb : W.heap.size = qb at H0 ⊢
  have HQB : Hid (W.heap.size = qb) := hqb
  clear hqb
  have HQ : Hid (∀ w, Up w1 w → w.cell? ⟨qb, 0, none⟩ = some (.int .i64 size) ∧ w.heap[rb]? = some (.cells #[.int .i64 0, .int .i64 0, .int .i64 0] 38 (0, 0))) := fun w u => ⟨heap_cell ((u.block _ (heap_at H0.out.2.1)).trans H0.out.2.1) rfl, (u.block _ (heap_at H0.out.2.2)).trans H0.out.2.2⟩
  have HU1 : Hid (Up W w1) := H0.out.1
  clear H0
  refine (HO.out _ HU1.out).mono ?_
  rintro e w' ⟨rfl, hw'⟩
  obtain rfl := hw'.symm
  clear HO
  have k0 := (HW.out w1 HU1.out).1
  go_wp2_with fail
  refine (HI.out _ _ HU1.out (HQ.out w1 (Up.refl w1)).1).mono ?_
  rintro e w2 ⟨rfl, u2⟩
  have H2 : Hid (Up w1 w2) := u2
  have kq := (HQ.out w2 u2).1
  obtain ⟨k0', k1, k2, k3⟩ := HW.out w2 (HU1.out.trans u2)
  clear u2 HI k0
  go_wp2_with fail
  have HD2 : Hid (Up w1 w2.drew) := H2.out.drew
  refine wp_region_held_drew (S := fun w' => w'.cell? ⟨A.cb, c * 2, none⟩ = some (.int .i64 (x.size : Int)) ∧ w'.cell? ⟨A.ar i, 0, none⟩ = some (.int .i64 a.quota)) (by kernel_rfl) ?_ (fun hHeld => ?_)
  · (try dsimp only); exact ⟨k1, k3⟩
  refine wpAnyH_take (i := 0) (v := ?_) (by simp only [List.getElem?_toArray, List.getElem?_cons_zero]; rfl) (by kernel_rfl) (by kernel_rfl) (by kernel_rfl) (by intro _ _ _ h; exact h) (Or.inl ⟨by rfl, ?_⟩) (by assumption) ?_
  rotate_left
  · (intro w hSw; (try dsimp only at hSw); go_simp <;> with_reducible rfl)
  try simp only [Act.put, List.setIfInBounds_toArray, List.set_cons_zero, List.set_cons_succ]
  refine wpAnyH_take (i := 2) (v := ?_) (by simp only [List.getElem?_toArray, List.getElem?_cons_succ, List.getElem?_cons_zero]; rfl) (by kernel_rfl) (by kernel_rfl) (by kernel_rfl) (by intro _ _ _ h; exact h) (Or.inl ⟨by rfl, ?_⟩) (by assumption) ?_
  rotate_left
  · (intro w hSw; (try dsimp only at hSw); go_simp <;> with_reducible rfl)
  try simp only [Act.put, List.setIfInBounds_toArray, List.set_cons_zero, List.set_cons_succ]
  refine wpAnyH_take (i := 3) (v := ?_) (by simp only [List.getElem?_toArray, List.getElem?_cons_succ, List.getElem?_cons_zero]; rfl) (by kernel_rfl) (by kernel_rfl) (by kernel_rfl) (by intro _ _ _ h; exact h) (Or.inl ⟨by rfl, ?_⟩) (by assumption) ?_
  rotate_left
  · (intro w hSw; (try dsimp only at hSw); go_simp <;> with_reducible rfl)
  try simp only [Act.put, List.setIfInBounds_toArray, List.set_cons_zero, List.set_cons_succ]
  refine wpAnyH_take (i := 4) (v := ?_) (by simp only [List.getElem?_toArray, List.getElem?_cons_succ, List.getElem?_cons_zero]; rfl) (by kernel_rfl) (by kernel_rfl) (by kernel_rfl) (by intro _ _ _ h; exact h) (Or.inl ⟨by rfl, ?_⟩) (by assumption) ?_
  rotate_left
  · (intro w hSw; (try dsimp only at hSw); go_simp <;> with_reducible rfl)
  try simp only [Act.put, List.setIfInBounds_toArray, List.set_cons_zero, List.set_cons_succ]
  refine wpAnyH_take (i := 5) (v := ?_) (by simp only [List.getElem?_toArray, List.getElem?_cons_succ, List.getElem?_cons_zero]; rfl) (by kernel_rfl) (by kernel_rfl) (by kernel_rfl) (by intro _ _ _ h; exact h) (Or.inl ⟨by rfl, ?_⟩) (by assumption) ?_
  rotate_left
  · (intro w hSw; (try dsimp only at hSw); go_simp <;> with_reducible rfl)
  try simp only [Act.put, List.setIfInBounds_toArray, List.set_cons_zero, List.set_cons_succ]
  refine wpAnyH_take (i := 7) (v := ?_) (by simp only [List.getElem?_toArray, List.getElem?_cons_succ, List.getElem?_cons_zero]; rfl) (by kernel_rfl) (by kernel_rfl) (by kernel_rfl) (by intro _ _ _ h; exact h) (Or.inl ⟨by rfl, ?_⟩) (by assumption) ?_
  rotate_left
  · (intro w hSw; (try dsimp only at hSw); go_simp <;> with_reducible rfl)
  try simp only [Act.put, List.setIfInBounds_toArray, List.set_cons_zero, List.set_cons_succ]
  refine wpAnyH_take (i := 8) (v := ?_) (by simp only [List.getElem?_toArray, List.getElem?_cons_succ, List.getElem?_cons_zero]; rfl) (by kernel_rfl) (by kernel_rfl) (by kernel_rfl) (by intro _ _ _ h; exact h) (Or.inl ⟨by rfl, ?_⟩) (by assumption) ?_
  rotate_left
  · (intro w hSw; (try dsimp only at hSw); go_simp <;> with_reducible rfl)
  try simp only [Act.put, List.setIfInBounds_toArray, List.set_cons_zero, List.set_cons_succ]
  refine wpAnyH_take (i := 9) (v := ?_) (by simp only [List.getElem?_toArray, List.getElem?_cons_succ, List.getElem?_cons_zero]; rfl) (by kernel_rfl) (by kernel_rfl) (by kernel_rfl) (by intro _ _ _ h; exact h) (Or.inl ⟨by rfl, ?_⟩) (by assumption) ?_
  rotate_left
  · (intro w hSw; (try dsimp only at hSw); go_simp <;> with_reducible rfl)
  try simp only [Act.put, List.setIfInBounds_toArray, List.set_cons_zero, List.set_cons_succ]
  refine wpAnyH_take (i := 10) (v := ?_) (by simp only [List.getElem?_toArray, List.getElem?_cons_succ, List.getElem?_cons_zero]; rfl) (by kernel_rfl) (by kernel_rfl) (by kernel_rfl) (by intro _ _ _ h; exact h) (Or.inl ⟨by rfl, ?_⟩) (by assumption) ?_
  rotate_left
  · (intro w hSw; (try dsimp only at hSw); go_simp <;> with_reducible rfl)
  try simp only [Act.put, List.setIfInBounds_toArray, List.set_cons_zero, List.set_cons_succ]
  refine wpAnyH_ready (rs := [1]) (by kernel_rfl) (by simp) ?_
  refine AllReadyH.cons (by simp only [List.getElem?_toArray, List.getElem?_cons_succ, List.getElem?_cons_zero]; rfl) (fun KK hK => ?_) AllReadyH.nil
  go_simp
  refine (HUs.out _ (HU1.out.trans HD2.out)).mono ?_
  rintro e w3 ⟨rfl, u3⟩
  have H3 : Hid (Up w1 w3) := HD2.out.trans u3
  refine hK.out _ _ ?_ (fun hHeld => ?_)
  · (try dsimp only); exact ⟨(HW.out w3 (HU1.out.trans H3.out)).2.1, (HW.out w3 (HU1.out.trans H3.out)).2.2.2⟩
  clear hK KK
  try simp only [Act.put, List.setIfInBounds_toArray, List.set_cons_zero, List.set_cons_succ]
  refine wpAnyH_take (i := 6) (v := ?_) (by simp only [List.getElem?_toArray, List.getElem?_cons_succ, List.getElem?_cons_zero]; rfl) (by kernel_rfl) (by kernel_rfl) (by kernel_rfl) (by intro _ _ _ h; exact h) (Or.inl ⟨by rfl, ?_⟩) (by assumption) ?_
  rotate_left
  · (intro w hSw; (try dsimp only at hSw); go_simp <;> with_reducible rfl)
  try simp only [Act.put, List.setIfInBounds_toArray, List.set_cons_zero, List.set_cons_succ]
  refine wpAnyH_take (i := 11) (v := ?_) (by simp only [List.getElem?_toArray, List.getElem?_cons_succ, List.getElem?_cons_zero]; rfl) (by kernel_rfl) (by kernel_rfl) (by kernel_rfl) (by intro _ _ _ h; exact h) (Or.inl ⟨by rfl, ?_⟩) (by assumption) ?_
  rotate_left
  · (intro w hSw; (try dsimp only at hSw); go_simp <;> with_reducible rfl)
  try simp only [Act.put, List.setIfInBounds_toArray, List.set_cons_zero, List.set_cons_succ]
  refine wpAnyH_done (by kernel_rfl) ?_ _
  obtain ⟨k0', k1, k2, k3⟩ := HW.out w3 (HU1.out.trans H3.out)
  clear u3 HD2 H2 HUs
  go_wp2_with fail
  have HD3 : Hid (Up w1 w3.drew) := H3.out.drew
  have HKb : Hid (∀ b, K b → b < W.heap.size) := HPL.out.kb
  refine wp_region_held_drew (S := fun w' => w'.cell? ⟨A.cb, c * 2, none⟩ = some (.int .i64 (x.size : Int))) (by kernel_rfl) ?_ (fun hHeld => ?_)
  · (try dsimp only); exact k1
  clear k0' k1 k2 k3 H3 hHeld
  generalize hwd : World.drew w3 = wd at HD3 ⊢
  clear hwd
  have hHeld := (HW.out wd (HU1.out.trans HD3.out)).2.1
  refine wpAnyH_take (i := 0) (v := ?_) (by simp only [List.getElem?_toArray, List.getElem?_cons_zero]; rfl) (by kernel_rfl) (by kernel_rfl) (by kernel_rfl) (by intro _ _ _ h; exact h) (Or.inl ⟨by rfl, ?_⟩) (by assumption) ?_
  rotate_left
  · (intro w hSw; (try dsimp only at hSw); go_simp <;> with_reducible rfl)
  try simp only [Act.put, List.setIfInBounds_toArray, List.set_cons_zero, List.set_cons_succ]
  refine wpAnyH_take (i := 1) (v := ?_) (by simp only [List.getElem?_toArray, List.getElem?_cons_succ, List.getElem?_cons_zero]; rfl) (by kernel_rfl) (by kernel_rfl) (by kernel_rfl) (by intro _ _ _ h; exact h) (Or.inl ⟨by rfl, ?_⟩) (by assumption) ?_
  rotate_left
  · (intro w hSw; (try dsimp only at hSw); go_simp <;> with_reducible rfl)
  try simp only [Act.put, List.setIfInBounds_toArray, List.set_cons_zero, List.set_cons_succ]
  refine wpAnyH_take (i := 2) (v := ?_) (by simp only [List.getElem?_toArray, List.getElem?_cons_succ, List.getElem?_cons_zero]; rfl) (by kernel_rfl) (by kernel_rfl) (by kernel_rfl) (by intro _ _ _ h; exact h) (Or.inl ⟨by rfl, ?_⟩) (by assumption) ?_
  rotate_left
  · (intro w hSw; (try dsimp only at hSw); go_simp <;> with_reducible rfl)
  try simp only [Act.put, List.setIfInBounds_toArray, List.set_cons_zero, List.set_cons_succ]
  refine wpAnyH_take (i := 3) (v := ?_) (by simp only [List.getElem?_toArray, List.getElem?_cons_succ, List.getElem?_cons_zero]; rfl) (by kernel_rfl) (by kernel_rfl) (by kernel_rfl) (by intro _ _ _ h; exact h) (Or.inl ⟨by rfl, ?_⟩) (by assumption) ?_
  rotate_left
  · (intro w hSw; (try dsimp only at hSw); go_simp <;> with_reducible rfl)
  try simp only [Act.put, List.setIfInBounds_toArray, List.set_cons_zero, List.set_cons_succ]
  refine wpAnyH_take (i := 4) (v := ?_) (by simp only [List.getElem?_toArray, List.getElem?_cons_succ, List.getElem?_cons_zero]; rfl) (by kernel_rfl) (by kernel_rfl) (by kernel_rfl) (by intro _ _ _ h; exact h) (Or.inl ⟨by rfl, ?_⟩) (by assumption) ?_
  rotate_left
  · (intro w hSw; (try dsimp only at hSw); go_simp <;> with_reducible rfl)
  try simp only [Act.put, List.setIfInBounds_toArray, List.set_cons_zero, List.set_cons_succ]
  refine wpAnyH_take (i := 5) (v := ?_) (by simp only [List.getElem?_toArray, List.getElem?_cons_succ, List.getElem?_cons_zero]; rfl) (by kernel_rfl) (by kernel_rfl) (by kernel_rfl) (by intro _ _ _ h; exact h) (Or.inl ⟨by rfl, ?_⟩) (by assumption) ?_
  rotate_left
  · (intro w hSw; (try dsimp only at hSw); go_simp <;> with_reducible rfl)
  try simp only [Act.put, List.setIfInBounds_toArray, List.set_cons_zero, List.set_cons_succ]
  refine wpAnyH_take (i := 6) (v := ?_) (by simp only [List.getElem?_toArray, List.getElem?_cons_succ, List.getElem?_cons_zero]; rfl) (by kernel_rfl) (by kernel_rfl) (by kernel_rfl) (by intro _ _ _ h; exact h) (Or.inl ⟨by rfl, ?_⟩) (by assumption) ?_
  rotate_left
  · (intro w hSw; (try dsimp only at hSw); go_simp <;> with_reducible rfl)
  try simp only [Act.put, List.setIfInBounds_toArray, List.set_cons_zero, List.set_cons_succ]
  refine wpAnyH_take (i := 11) (v := ?_) (by simp only [List.getElem?_toArray, List.getElem?_cons_succ, List.getElem?_cons_zero]; rfl) (by kernel_rfl) (by kernel_rfl) (by kernel_rfl) (by intro _ _ _ h; exact h) (Or.inl ⟨by rfl, ?_⟩) (by assumption) ?_
  rotate_left
  · (intro w hSw; (try dsimp only at hSw); go_simp <;> with_reducible rfl)
  try simp only [Act.put, List.setIfInBounds_toArray, List.set_cons_zero, List.set_cons_succ]
  refine wpAnyH_take (i := 12) (v := ?_) (by simp only [List.getElem?_toArray, List.getElem?_cons_succ, List.getElem?_cons_zero]; rfl) (by kernel_rfl) (by kernel_rfl) (by kernel_rfl) (by intro _ _ _ h; exact h) (Or.inl ⟨by rfl, ?_⟩) (by assumption) ?_
  rotate_left
  · (intro w hSw; (try dsimp only at hSw); go_simp <;> with_reducible rfl)
  try simp only [Act.put, List.setIfInBounds_toArray, List.set_cons_zero, List.set_cons_succ]
  refine wpAnyH_take (i := 13) (v := ?_) (by simp only [List.getElem?_toArray, List.getElem?_cons_succ, List.getElem?_cons_zero]; rfl) (by kernel_rfl) (by kernel_rfl) (by kernel_rfl) (by intro _ _ _ h; exact h) (Or.inl ⟨by rfl, ?_⟩) (by assumption) ?_
  rotate_left
  · (intro w hSw; (try dsimp only at hSw); go_simp <;> with_reducible rfl)
  try simp only [Act.put, List.setIfInBounds_toArray, List.set_cons_zero, List.set_cons_succ]
  refine wpAnyH_take (i := 14) (v := ?_) (by simp only [List.getElem?_toArray, List.getElem?_cons_succ, List.getElem?_cons_zero]; rfl) (by kernel_rfl) (by kernel_rfl) (by kernel_rfl) (by intro _ _ _ h; exact h) (Or.inl ⟨by rfl, ?_⟩) (by assumption) ?_
  rotate_left
  · (intro w hSw; (try dsimp only at hSw); go_simp <;> with_reducible rfl)
  try simp only [Act.put, List.setIfInBounds_toArray, List.set_cons_zero, List.set_cons_succ]
  refine wpAnyH_take (i := 15) (v := ?_) (by simp only [List.getElem?_toArray, List.getElem?_cons_succ, List.getElem?_cons_zero]; rfl) (by kernel_rfl) (by kernel_rfl) (by kernel_rfl) (by intro _ _ _ h; exact h) (Or.inl ⟨by rfl, ?_⟩) (by assumption) ?_
  rotate_left
  · (intro w hSw; (try dsimp only at hSw); go_simp <;> with_reducible rfl)
  try simp only [Act.put, List.setIfInBounds_toArray, List.set_cons_zero, List.set_cons_succ]
  refine wpAnyH_ready (rs := [7, 17]) (by kernel_rfl) (by simp) ?_
  refine AllReadyH.cons (by simp only [List.getElem?_toArray, List.getElem?_cons_succ, List.getElem?_cons_zero]; rfl) (fun KK hK => ?_) (AllReadyH.cons (by simp only [List.getElem?_toArray, List.getElem?_cons_succ, List.getElem?_cons_zero]; rfl) (fun KK hK => ?_) AllReadyH.nil)
  · skip
    have kl := (HW.out _ (HU1.out.trans HD3.out)).2.2.1
    go_simp
    refine hK.out _ _ ?_ (fun hHeld => ?_)
    · (try dsimp only); exact (HW.out _ (HU1.out.trans HD3.out)).2.1
    clear hK KK kl
    try simp only [Act.put, List.setIfInBounds_toArray, List.set_cons_zero, List.set_cons_succ]
    refine wpAnyH_take (i := 8) (v := ?_) (by simp only [List.getElem?_toArray, List.getElem?_cons_succ, List.getElem?_cons_zero]; rfl) (by kernel_rfl) (by kernel_rfl) (by kernel_rfl) (by intro _ _ _ h; exact h) (Or.inl ⟨by rfl, ?_⟩) (by assumption) ?_
    rotate_left
    · (intro w hSw; (try dsimp only at hSw); go_simp <;> with_reducible rfl)
    try simp only [Act.put, List.setIfInBounds_toArray, List.set_cons_zero, List.set_cons_succ]
    refine wpAnyH_ready (rs := [9, 17]) (by kernel_rfl) (by simp) ?_
    refine AllReadyH.cons (by simp only [List.getElem?_toArray, List.getElem?_cons_succ, List.getElem?_cons_zero]; rfl) (fun KK hK => ?_) (AllReadyH.cons (by simp only [List.getElem?_toArray, List.getElem?_cons_succ, List.getElem?_cons_zero]; rfl) (fun KK hK => ?_) AllReadyH.nil)
    · skip
      go_simp
      refine (HRs.out _).mono ?_
      rintro e w' ⟨rfl, hw'⟩
      obtain rfl := hw'.symm
      refine hK.out _ _ ?_ (fun hHeld => ?_)
      · (try dsimp only); exact (HW.out _ (HU1.out.trans HD3.out)).2.1
      clear hK KK
      try simp only [Act.put, List.setIfInBounds_toArray, List.set_cons_zero, List.set_cons_succ]
      refine wpAnyH_ready (rs := [10, 17]) (by kernel_rfl) (by simp) ?_
      refine AllReadyH.cons (by simp only [List.getElem?_toArray, List.getElem?_cons_succ, List.getElem?_cons_zero]; rfl) (fun KK hK => ?_) (AllReadyH.cons (by simp only [List.getElem?_toArray, List.getElem?_cons_succ, List.getElem?_cons_zero]; rfl) (fun KK hK => ?_) AllReadyH.nil)
      · skip
        go_simp
        refine (HDr.out _ (HU1.out.trans HD3.out)).mono ?_
        rintro e w5 ⟨rfl, hR, hF, hB, hc5⟩
        have H5 : Hid ((∃ R' A', PlR R' K w5 pb A' (P.setFree c x (x.free.eraseIdx r)) ∧ A'.ar = A.ar ∧ A'.lv = A.lv ∧ A'.cb = A.cb ∧ (∀ b, W.heap.size ≤ b → R' b = none)) ∧ FK K wd w5 ∧ (∀ b, W.heap.size ≤ b → b < wd.heap.size → w5.heap[b]? = wd.heap[b]?) ∧ w5.cell? ⟨A.cb, c * 2, none⟩ = some (.int .i64 (x.size : Int))) := ⟨hR, hF, hB, hc5⟩
        refine hK.out _ _ ?_ (fun hHeld => ?_)
        · (try dsimp only); exact hc5
        clear hK KK hR hF hB hc5
        try simp only [Act.put, List.setIfInBounds_toArray, List.set_cons_zero, List.set_cons_succ]
        refine wpAnyH_take (i := 16) (v := ?_) (by simp only [List.getElem?_toArray, List.getElem?_cons_succ, List.getElem?_cons_zero]; rfl) (by kernel_rfl) (by kernel_rfl) (by kernel_rfl) (by intro _ _ _ h; exact h) (Or.inl ⟨by rfl, ?_⟩) (by assumption) ?_
        rotate_left
        · (intro w hSw; (try dsimp only at hSw); go_simp <;> with_reducible rfl)
        try simp only [Act.put, List.setIfInBounds_toArray, List.set_cons_zero, List.set_cons_succ]
        refine wpAnyH_ready (rs := [17]) (by kernel_rfl) (by simp) ?_
        refine AllReadyH.cons (by simp only [List.getElem?_toArray, List.getElem?_cons_succ, List.getElem?_cons_zero]; rfl) (fun KK hK => ?_) AllReadyH.nil
        go_simp
        have HA6 : Hid (Up w5 (w5.alloc (Obj.cells #[.int .i64 0, .int .i64 0, .int .i64 0] 38)) ∧ (w5.alloc (Obj.cells #[.int .i64 0, .int .i64 0, .int .i64 0] 38)).heap[w5.heap.size]? = some (.cells #[.int .i64 0, .int .i64 0, .int .i64 0] 38 (0, 0))) := ⟨(Up.refl w5).alloc _, heap_alloc_new w5 _⟩
        have hlb : W.heap.size ≤ w5.heap.size := Nat.le_trans (HU1.out.trans HD3.out).size H5.out.2.1.size
        have hrb : rb < wd.heap.size := Nat.lt_of_lt_of_le (heap_at (HQ.out w1 (Up.refl w1)).2) HD3.out.size
        have hrb5 : rb < w5.heap.size := Nat.lt_of_lt_of_le hrb H5.out.2.1.size
        generalize World.alloc w5 _ = w6 at HA6 ⊢
        generalize w5.heap.size = lb at HA6 hlb hrb5 ⊢
        refine hK.out _ _ ?_ (fun hHeld => ?_)
        · (try dsimp only); exact (HA6.out.1.cell (World.block_lt_of_cell? _ _ H5.out.2.2.2)).trans H5.out.2.2.2
        clear hK KK
        try simp only [Act.put, List.setIfInBounds_toArray, List.set_cons_zero, List.set_cons_succ]
        refine wpAnyH_ready (rs := [18]) (by kernel_rfl) (by simp) ?_
        refine AllReadyH.cons (by simp only [List.getElem?_toArray, List.getElem?_cons_succ, List.getElem?_cons_zero]; rfl) (fun KK hK => ?_) AllReadyH.nil
        rw [if_pos (by rfl)]
        refine wp_store_mid 38 _ _ rfl lb 0 #[.int .i64 (buf : Int), .int .i64 (c : Int), .int .i64 (x.size : Int)] rfl rfl (there3 HA6.out.2) (by kernel_rfl) (by simp [Value.oneCell']) ?_
        have HT : Hid (Tk W K A pb (P.setFree c x (x.free.eraseIdx r)) lb buf c x.size (w6.setCells lb 0 [.int .i64 (buf : Int), .int .i64 (c : Int), .int .i64 (x.size : Int)]) ∧ (w6.setCells lb 0 [.int .i64 (buf : Int), .int .i64 (c : Int), .int .i64 (x.size : Int)]).heap[rb]? = some (.cells #[.int .i64 0, .int .i64 0, .int .i64 0] 38 (0, 0)) ∧ rb ≠ lb) := by
          obtain ⟨⟨R', A', g1, g2, g3, g4, g5⟩, hF, hB, _⟩ := H5.out
          have fs := fr_setCells lb [.int .i64 (buf : Int), .int .i64 (c : Int), .int .i64 (x.size : Int)] 0 w6
          have hW := HRB.out
          refine ⟨Tk.mk' (HU1.out.trans HD3.out) HKb.out g1 g2 g3 g4 g5 hF ((Fr.ofUp HA6.out.1).trans fs) hlb (set3 HA6.out.2), ?_, by omega⟩
          rw [fs.block rb (Nat.lt_of_lt_of_le (Nat.lt_of_lt_of_le hrb hF.size) HA6.out.1.size) (by omega), HA6.out.1.block rb (Nat.lt_of_lt_of_le hrb hF.size), hB rb (by omega) hrb]
          exact (HQ.out wd HD3.out).2
        refine hK.out _ _ ?_ (fun hHeld => ?_)
        · (try dsimp only)
          obtain ⟨R', A', g1, g2, g3, g4, g5⟩ := HT.out.1.at'
          have := g1.clsCell (setFree_at HOk.out.2.2 (x.free.eraseIdx r))
          rw [g4] at this
          exact this
        clear hK KK hHeld
        try simp only [Act.put, List.setIfInBounds_toArray, List.set_cons_zero, List.set_cons_succ]
        refine wpAnyH_done (by kernel_rfl) ?_ _
        generalize hw7 : World.setCells _ lb 0 _ = w7 at HT ⊢
        have HT7 : Hid _ := HT.out
        clear hw7 HT H5
        have HLV : Hid (∀ w, Up w7 w → w.cell? ⟨A.ar i, 1, none⟩ = some (.slice va a.loans.length vc)) := fun w u => by
          have h1 := (HT7.out.1.lvAt (i := i) (a := a) HOk.out.2.1).1
          rw [HLVv.out] at h1
          exact heap_cell ((u.block _ (heap_at h1)).trans h1) rfl
        have HS2 : Hid (∀ w, Up w7 w → w.rangeAt lb 0 [.int .i64 (buf : Int), .int .i64 (c : Int), .int .i64 (x.size : Int)] ∧ w.cell? ⟨A.cb, c * 2, none⟩ = some (.int .i64 (x.size : Int))) := fun w u => by
          have hb := (u.block _ (heap_at HT7.out.1.blk)).trans HT7.out.1.blk
          refine ⟨range3 (heap_cell hb rfl) (heap_cell hb rfl) (heap_cell hb rfl), ?_⟩
          obtain ⟨R', A', g1, g2, g3, g4, g5⟩ := HT7.out.1.at'
          have := (g1.up u).clsCell (setFree_at HOk.out.2.2 (x.free.eraseIdx r))
          rw [g4] at this
          exact this
        have HPut : Hid (∀ w8 bb, Up w7 w8 → NmAt w8 bb x.size (fun _ => 0) → w7.heap.size ≤ bb → _) := fun w8 bb u nb hb => HT7.out.1.put (rb := rb) (i := i) (a := a) HOk.out.2.1 hln u nb hb HKb.out (by have := HRB.out; omega) (heap_at HT7.out.2.1)
        have U8 : Hid (Up w7 w7.drew) := (Up.refl w7).drew
        go_wp2_with fail
        refine wp_region_held_drew (S := fun w' => w'.rangeAt lb 0 [.int .i64 (buf : Int), .int .i64 (c : Int), .int .i64 (x.size : Int)] ∧ w'.cell? ⟨A.cb, c * 2, none⟩ = some (.int .i64 (x.size : Int))) (by kernel_rfl) ?_ (fun hHeld => ?_)
        · (try dsimp only); exact HS2.out _ U8.out
        clear hHeld
        generalize hwe : World.drew w7 = wk at U8 ⊢
        clear hwe
        have hHeld := HS2.out _ U8.out
        refine wpAnyH_take (i := 0) (v := ?_) (by simp only [List.getElem?_toArray, List.getElem?_cons_zero]; rfl) (by kernel_rfl) (by kernel_rfl) (by kernel_rfl) (by intro _ _ _ h; exact h) (Or.inl ⟨by rfl, ?_⟩) (by assumption) ?_
        rotate_left
        · (intro w hSw; (try dsimp only at hSw); go_simp <;> with_reducible rfl)
        try simp only [Act.put, List.setIfInBounds_toArray, List.set_cons_zero, List.set_cons_succ]
        refine wpAnyH_take (i := 1) (v := ?_) (by simp only [List.getElem?_toArray, List.getElem?_cons_succ, List.getElem?_cons_zero]; rfl) (by kernel_rfl) (by kernel_rfl) (by kernel_rfl) (by intro _ _ _ h; exact h) (Or.inl ⟨by rfl, ?_⟩) (by assumption) ?_
        rotate_left
        · (intro w hSw; (try dsimp only at hSw); go_simp <;> with_reducible rfl)
        try simp only [Act.put, List.setIfInBounds_toArray, List.set_cons_zero, List.set_cons_succ]
        refine wpAnyH_take (i := 2) (v := ?_) (by simp only [List.getElem?_toArray, List.getElem?_cons_succ, List.getElem?_cons_zero]; rfl) (by kernel_rfl) (by kernel_rfl) (by kernel_rfl) (by intro _ _ _ h; exact h) (Or.inl ⟨by rfl, ?_⟩) (by assumption) ?_
        rotate_left
        · (intro w hSw; (try dsimp only at hSw); go_simp <;> with_reducible rfl)
        try simp only [Act.put, List.setIfInBounds_toArray, List.set_cons_zero, List.set_cons_succ]
        refine wpAnyH_take (i := 3) (v := ?_) (by simp only [List.getElem?_toArray, List.getElem?_cons_succ, List.getElem?_cons_zero]; rfl) (by kernel_rfl) (by kernel_rfl) (by kernel_rfl) (by intro _ _ _ h; exact h) (Or.inl ⟨by rfl, ?_⟩) (by assumption) ?_
        rotate_left
        · (intro w hSw; (try dsimp only at hSw); go_simp <;> with_reducible rfl)
        try simp only [Act.put, List.setIfInBounds_toArray, List.set_cons_zero, List.set_cons_succ]
        refine wpAnyH_take (i := 4) (v := ?_) (by simp only [List.getElem?_toArray, List.getElem?_cons_succ, List.getElem?_cons_zero]; rfl) (by kernel_rfl) (by kernel_rfl) (by kernel_rfl) (by intro _ _ _ h; exact h) (Or.inl ⟨by rfl, ?_⟩) (by assumption) ?_
        rotate_left
        · (intro w hSw; (try dsimp only at hSw); go_simp <;> with_reducible rfl)
        try simp only [Act.put, List.setIfInBounds_toArray, List.set_cons_zero, List.set_cons_succ]
        refine wpAnyH_take (i := 5) (v := ?_) (by simp only [List.getElem?_toArray, List.getElem?_cons_succ, List.getElem?_cons_zero]; rfl) (by kernel_rfl) (by kernel_rfl) (by kernel_rfl) (by intro _ _ _ h; exact h) (Or.inl ⟨by rfl, ?_⟩) (by assumption) ?_
        rotate_left
        · (intro w hSw; (try dsimp only at hSw); go_simp <;> with_reducible rfl)
        try simp only [Act.put, List.setIfInBounds_toArray, List.set_cons_zero, List.set_cons_succ]
        refine wpAnyH_take (i := 8) (v := .agg [.int .i64 (buf : Int), .int .i64 (c : Int), .int .i64 (x.size : Int)].toArray) (by simp only [List.getElem?_toArray, List.getElem?_cons_succ, List.getElem?_cons_zero]; rfl) (by kernel_rfl) (by kernel_rfl) (by kernel_rfl) (by intro _ _ _ h; exact h) (yieldsIf_load_mid (by rfl) 38 _ rfl lb 0 rfl [.int .i64 (buf : Int), .int .i64 (c : Int), .int .i64 (x.size : Int)] _ (fun w hw => hw.1) Try.underlying38 rfl (by kernel_rfl)) (by assumption) ?_
        simp only [Act.put, List.setIfInBounds_toArray, List.set_cons_zero, List.set_cons_succ]
        refine wpAnyH_take (i := 9) (v := ?_) (by simp only [List.getElem?_toArray, List.getElem?_cons_succ, List.getElem?_cons_zero]; rfl) (by kernel_rfl) (by kernel_rfl) (by kernel_rfl) (by intro _ _ _ h; exact h) (Or.inl ⟨by rfl, ?_⟩) (by assumption) ?_
        rotate_left
        · (intro w hSw; (try dsimp only at hSw); go_simp <;> with_reducible rfl)
        try simp only [Act.put, List.setIfInBounds_toArray, List.set_cons_zero, List.set_cons_succ]
        refine wpAnyH_take (i := 10) (v := ?_) (by simp only [List.getElem?_toArray, List.getElem?_cons_succ, List.getElem?_cons_zero]; rfl) (by kernel_rfl) (by kernel_rfl) (by kernel_rfl) (by intro _ _ _ h; exact h) (Or.inl ⟨by rfl, ?_⟩) (by assumption) ?_
        rotate_left
        · (intro w hSw; (try dsimp only at hSw); go_simp <;> with_reducible rfl)
        try simp only [Act.put, List.setIfInBounds_toArray, List.set_cons_zero, List.set_cons_succ]
        refine wpAnyH_take (i := 11) (v := ?_) (by simp only [List.getElem?_toArray, List.getElem?_cons_succ, List.getElem?_cons_zero]; rfl) (by kernel_rfl) (by kernel_rfl) (by kernel_rfl) (by intro _ _ _ h; exact h) (Or.inl ⟨by rfl, ?_⟩) (by assumption) ?_
        rotate_left
        · (intro w hSw; (try dsimp only at hSw); go_simp <;> with_reducible rfl)
        try simp only [Act.put, List.setIfInBounds_toArray, List.set_cons_zero, List.set_cons_succ]
        refine wpAnyH_take (i := 12) (v := ?_) (by simp only [List.getElem?_toArray, List.getElem?_cons_succ, List.getElem?_cons_zero]; rfl) (by kernel_rfl) (by kernel_rfl) (by kernel_rfl) (by intro _ _ _ h; exact h) (Or.inl ⟨by rfl, ?_⟩) (by assumption) ?_
        rotate_left
        · (intro w hSw; (try dsimp only at hSw); go_simp <;> with_reducible rfl)
        try simp only [Act.put, List.setIfInBounds_toArray, List.set_cons_zero, List.set_cons_succ]
        refine wpAnyH_ready (rs := [6, 13]) (by kernel_rfl) (by simp) ?_
        refine AllReadyH.cons (by simp only [List.getElem?_toArray, List.getElem?_cons_succ, List.getElem?_cons_zero]; rfl) (fun KK hK => ?_) (AllReadyH.cons (by simp only [List.getElem?_toArray, List.getElem?_cons_succ, List.getElem?_cons_zero]; rfl) (fun KK hK => ?_) AllReadyH.nil)
        · skip
          have kl : wk.cell? ⟨A.ar i, 1, none⟩ = some (.slice va a.loans.length vc) := HLV.out wk U8.out
          go_simp
          refine hK.out _ _ ?_ (fun hHeld => ?_)
          · (try dsimp only); exact HS2.out wk U8.out
          clear hK KK kl
          try simp only [Act.put, List.setIfInBounds_toArray, List.set_cons_zero, List.set_cons_succ]
          refine wpAnyH_take (i := 7) (v := ?_) (by simp only [List.getElem?_toArray, List.getElem?_cons_succ, List.getElem?_cons_zero]; rfl) (by kernel_rfl) (by kernel_rfl) (by kernel_rfl) (by intro _ _ _ h; exact h) (Or.inl ⟨by rfl, ?_⟩) (by assumption) ?_
          rotate_left
          · (intro w hSw; (try dsimp only at hSw); go_simp <;> with_reducible rfl)
          try simp only [Act.put, List.setIfInBounds_toArray, List.set_cons_zero, List.set_cons_succ]
          refine wpAnyH_ready (rs := [13]) (by kernel_rfl) (by simp) ?_
          refine AllReadyH.cons (by simp only [List.getElem?_toArray, List.getElem?_cons_succ, List.getElem?_cons_zero]; rfl) (fun KK hK => ?_) AllReadyH.nil
          go_simp
          have HM8 : Hid (Up w7 (wk.alloc (Obj.cells (madeCells #[.int .u8 0] x.size) 5)) ∧ NmAt (wk.alloc (Obj.cells (madeCells #[.int .u8 0] x.size) 5)) wk.heap.size x.size (fun _ => 0) ∧ w7.heap.size ≤ wk.heap.size) := ⟨U8.out.alloc _, made_nm wk x.size, U8.out.size⟩
          generalize World.alloc wk _ = w8 at HM8 ⊢
          generalize wk.heap.size = bb at HM8 ⊢
          refine hK.out _ _ ?_ (fun hHeld => ?_)
          · (try dsimp only); exact HS2.out w8 HM8.out.1
          clear hK KK
          try simp only [Act.put, List.setIfInBounds_toArray, List.set_cons_zero, List.set_cons_succ]
          refine wpAnyH_take (i := 14) (v := ?_) (by simp only [List.getElem?_toArray, List.getElem?_cons_succ, List.getElem?_cons_zero]; rfl) (by kernel_rfl) (by kernel_rfl) (by kernel_rfl) (by intro _ _ _ h; exact h) (Or.inl ⟨by rfl, ?_⟩) (by assumption) ?_
          rotate_left
          · (intro w hSw; (try dsimp only at hSw); go_simp <;> with_reducible rfl)
          try simp only [Act.put, List.setIfInBounds_toArray, List.set_cons_zero, List.set_cons_succ]
          have HP15 : Hid _ := HPut.out w8 bb HM8.out.1 HM8.out.2.1 HM8.out.2.2
          unfold Loan.cells at HP15
          refine wpAnyH_ready (rs := [15]) (by kernel_rfl) (by simp) ?_
          refine AllReadyH.cons (by simp only [List.getElem?_toArray, List.getElem?_cons_succ, List.getElem?_cons_zero]; rfl) (fun KK hK => ?_) AllReadyH.nil
          go_simp
          refine Calls.mono HP15.out ?_
          rintro e w9 ⟨rfl, h9, f9, b9, b10, b11⟩
          have hlb9 : w9.heap[lb]? = some (.cells #[.int .i64 (buf : Int), .int .i64 (c : Int), .int .i64 (x.size : Int)] 38 (0, 0)) := b9.trans ((HM8.out.1.block lb (heap_at HT7.out.1.blk)).trans HT7.out.1.blk)
          have hrb9 : w9.heap[rb]? = some (.cells #[.int .i64 0, .int .i64 0, .int .i64 0] 38 (0, 0)) := b10.trans ((HM8.out.1.block rb (heap_at HT7.out.2.1)).trans HT7.out.2.1)
          have hcb9 : w9.cell? ⟨A.cb, c * 2, none⟩ = some (.int .i64 (x.size : Int)) := by
            have h0 := (HS2.out w8 HM8.out.1).2
            unfold World.cell? at h0 ⊢
            simp only [b11]
            exact h0
          have H9 : Hid ((∃ R A', PlR R K w9 pb A' (P.taken i a c x r ⟨buf, c, x.size, bb, fun _ => 0⟩) ∧ R rb = none) ∧ FK K W w9 ∧ w9.heap[rb]? = some (.cells #[.int .i64 0, .int .i64 0, .int .i64 0] 38 (0, 0))) := ⟨h9, f9, hrb9⟩
          have HR9 : Hid (w9.rangeAt lb 0 [.int .i64 (buf : Int), .int .i64 (c : Int), .int .i64 (x.size : Int)]) := range3 (heap_cell hlb9 rfl) (heap_cell hlb9 rfl) (heap_cell hlb9 rfl)
          clear h9 f9 b9 b10 b11 hrb9 hlb9
          refine hK.out _ _ ?_ (fun hHeld => ?_)
          · (try dsimp only); exact ⟨HR9.out, hcb9⟩
          clear hK KK
          try simp only [Act.put, List.setIfInBounds_toArray, List.set_cons_zero, List.set_cons_succ]
          refine wpAnyH_done (by kernel_rfl) ?_ _
          clear hHeld hcb9 HS2 HLV HPut HM8 HP15
          go_wp2_with (first
            | (refine wpList_load_mid rfl 38 _ rfl lb 0 rfl [.int .i64 (buf : Int), .int .i64 (c : Int), .int .i64 (x.size : Int)] _ HR9.out Try.underlying38 rfl (by kernel_rfl) ?_)
            | (refine wpList_store_rowTo rfl 38 _ _ rfl rfl rb #[.int .i64 (buf : Int), .int .i64 (c : Int), .int .i64 (x.size : Int)] rfl rfl 38 _ H9.out.2.2 (by kernel_rfl) rfl (by simp [Value.oneCell']) ?_))
          have fr := (Fr.refl rb w9).setRow (cs := #[.int .i64 (buf : Int), .int .i64 (c : Int), .int .i64 (x.size : Int)])
          refine bodyPost_ret (v := .tuple #[.agg _, .int .i64 0]) (results_row_tmp Try.results15 _ _ _ 38 _ (0, 0) _ rfl (setRow_heap _ _ _ _ _ _ H9.out.2.2) Try.underlying38 rfl (by kernel_rfl)) rfl ⟨rfl, ?_, ?_⟩
          · obtain ⟨R9, A9, h91, h92⟩ := H9.out.1
            exact ⟨bb, R9, A9, h91.fr1 fr h92⟩
          · exact H9.out.2.1.trans (FK.ofFr fr (fun k => by have := HKb.out rb k; have := HRB.out; omega))
        · skip
          go_simp
          have HM8 : Hid (Up w7 (wk.alloc (Obj.cells (madeCells #[.int .u8 0] x.size) 5)) ∧ NmAt (wk.alloc (Obj.cells (madeCells #[.int .u8 0] x.size) 5)) wk.heap.size x.size (fun _ => 0) ∧ w7.heap.size ≤ wk.heap.size) := ⟨U8.out.alloc _, made_nm wk x.size, U8.out.size⟩
          generalize World.alloc wk _ = w8 at HM8 ⊢
          generalize wk.heap.size = bb at HM8 ⊢
          refine hK.out _ _ ?_ (fun hHeld => ?_)
          · (try dsimp only); exact HS2.out w8 HM8.out.1
          clear hK KK
          try simp only [Act.put, List.setIfInBounds_toArray, List.set_cons_zero, List.set_cons_succ]
          refine wpAnyH_take (i := 14) (v := ?_) (by simp only [List.getElem?_toArray, List.getElem?_cons_succ, List.getElem?_cons_zero]; rfl) (by kernel_rfl) (by kernel_rfl) (by kernel_rfl) (by intro _ _ _ h; exact h) (Or.inl ⟨by rfl, ?_⟩) (by assumption) ?_
          rotate_left
          · (intro w hSw; (try dsimp only at hSw); go_simp <;> with_reducible rfl)
          try simp only [Act.put, List.setIfInBounds_toArray, List.set_cons_zero, List.set_cons_succ]
          refine wpAnyH_ready (rs := [6]) (by kernel_rfl) (by simp) ?_
          refine AllReadyH.cons (by simp only [List.getElem?_toArray, List.getElem?_cons_succ, List.getElem?_cons_zero]; rfl) (fun KK hK => ?_) AllReadyH.nil
          have kl : w8.cell? ⟨A.ar i, 1, none⟩ = some (.slice va a.loans.length vc) := HLV.out w8 HM8.out.1
          go_simp
          refine hK.out _ _ ?_ (fun hHeld => ?_)
          · (try dsimp only); exact HS2.out w8 HM8.out.1
          clear hK KK kl
          try simp only [Act.put, List.setIfInBounds_toArray, List.set_cons_zero, List.set_cons_succ]
          refine wpAnyH_take (i := 7) (v := ?_) (by simp only [List.getElem?_toArray, List.getElem?_cons_succ, List.getElem?_cons_zero]; rfl) (by kernel_rfl) (by kernel_rfl) (by kernel_rfl) (by intro _ _ _ h; exact h) (Or.inl ⟨by rfl, ?_⟩) (by assumption) ?_
          rotate_left
          · (intro w hSw; (try dsimp only at hSw); go_simp <;> with_reducible rfl)
          try simp only [Act.put, List.setIfInBounds_toArray, List.set_cons_zero, List.set_cons_succ]
          have HP15 : Hid _ := HPut.out w8 bb HM8.out.1 HM8.out.2.1 HM8.out.2.2
          unfold Loan.cells at HP15
          refine wpAnyH_ready (rs := [15]) (by kernel_rfl) (by simp) ?_
          refine AllReadyH.cons (by simp only [List.getElem?_toArray, List.getElem?_cons_succ, List.getElem?_cons_zero]; rfl) (fun KK hK => ?_) AllReadyH.nil
          go_simp
          refine Calls.mono HP15.out ?_
          rintro e w9 ⟨rfl, h9, f9, b9, b10, b11⟩
          have hlb9 : w9.heap[lb]? = some (.cells #[.int .i64 (buf : Int), .int .i64 (c : Int), .int .i64 (x.size : Int)] 38 (0, 0)) := b9.trans ((HM8.out.1.block lb (heap_at HT7.out.1.blk)).trans HT7.out.1.blk)
          have hrb9 : w9.heap[rb]? = some (.cells #[.int .i64 0, .int .i64 0, .int .i64 0] 38 (0, 0)) := b10.trans ((HM8.out.1.block rb (heap_at HT7.out.2.1)).trans HT7.out.2.1)
          have hcb9 : w9.cell? ⟨A.cb, c * 2, none⟩ = some (.int .i64 (x.size : Int)) := by
            have h0 := (HS2.out w8 HM8.out.1).2
            unfold World.cell? at h0 ⊢
            simp only [b11]
            exact h0
          have H9 : Hid ((∃ R A', PlR R K w9 pb A' (P.taken i a c x r ⟨buf, c, x.size, bb, fun _ => 0⟩) ∧ R rb = none) ∧ FK K W w9 ∧ w9.heap[rb]? = some (.cells #[.int .i64 0, .int .i64 0, .int .i64 0] 38 (0, 0))) := ⟨h9, f9, hrb9⟩
          have HR9 : Hid (w9.rangeAt lb 0 [.int .i64 (buf : Int), .int .i64 (c : Int), .int .i64 (x.size : Int)]) := range3 (heap_cell hlb9 rfl) (heap_cell hlb9 rfl) (heap_cell hlb9 rfl)
          clear h9 f9 b9 b10 b11 hrb9 hlb9
          refine hK.out _ _ ?_ (fun hHeld => ?_)
          · (try dsimp only); exact ⟨HR9.out, hcb9⟩
          clear hK KK
          try simp only [Act.put, List.setIfInBounds_toArray, List.set_cons_zero, List.set_cons_succ]
          refine wpAnyH_done (by kernel_rfl) ?_ _
          clear hHeld hcb9 HS2 HLV HPut HM8 HP15
          go_wp2_with (first
            | (refine wpList_load_mid rfl 38 _ rfl lb 0 rfl [.int .i64 (buf : Int), .int .i64 (c : Int), .int .i64 (x.size : Int)] _ HR9.out Try.underlying38 rfl (by kernel_rfl) ?_)
            | (refine wpList_store_rowTo rfl 38 _ _ rfl rfl rb #[.int .i64 (buf : Int), .int .i64 (c : Int), .int .i64 (x.size : Int)] rfl rfl 38 _ H9.out.2.2 (by kernel_rfl) rfl (by simp [Value.oneCell']) ?_))
          have fr := (Fr.refl rb w9).setRow (cs := #[.int .i64 (buf : Int), .int .i64 (c : Int), .int .i64 (x.size : Int)])
          refine bodyPost_ret (v := .tuple #[.agg _, .int .i64 0]) (results_row_tmp Try.results15 _ _ _ 38 _ (0, 0) _ rfl (setRow_heap _ _ _ _ _ _ H9.out.2.2) Try.underlying38 rfl (by kernel_rfl)) rfl ⟨rfl, ?_, ?_⟩
          · obtain ⟨R9, A9, h91, h92⟩ := H9.out.1
            exact ⟨bb, R9, A9, h91.fr1 fr h92⟩
          · exact H9.out.2.1.trans (FK.ofFr fr (fun k => by have := HKb.out rb k; have := HRB.out; omega))
      · skip
        go_simp
        have HE : Hid (Up w1 (wd.alloc (Obj.cells #[.int .i64 0, .int .i64 0, .int .i64 0] 38)) ∧ (wd.alloc (Obj.cells #[.int .i64 0, .int .i64 0, .int .i64 0] 38)).heap[wd.heap.size]? = some (.cells #[.int .i64 0, .int .i64 0, .int .i64 0] 38 (0, 0)) ∧ W.heap.size ≤ wd.heap.size ∧ rb < wd.heap.size) := ⟨HD3.out.alloc _, heap_alloc_new wd _, Nat.le_trans HU1.out.size HD3.out.size, Nat.lt_of_lt_of_le (heap_at (HQ.out w1 (Up.refl w1)).2) HD3.out.size⟩
        generalize World.alloc wd _ = we at HE ⊢
        generalize wd.heap.size = lb at HE ⊢
        have HEu : Hid (Up w1 we) := HE.out.1
        refine hK.out _ _ ?_ (fun hHeld => ?_)
        · (try dsimp only); exact (HW.out _ (HU1.out.trans HEu.out)).2.1
        clear hK KK
        try simp only [Act.put, List.setIfInBounds_toArray, List.set_cons_zero, List.set_cons_succ]
        refine wpAnyH_ready (rs := [10]) (by kernel_rfl) (by simp) ?_
        refine AllReadyH.cons (by simp only [List.getElem?_toArray, List.getElem?_cons_succ, List.getElem?_cons_zero]; rfl) (fun KK hK => ?_) AllReadyH.nil
        go_simp
        refine (HDr.out _ (HU1.out.trans HEu.out)).mono ?_
        rintro e w5 ⟨rfl, hR, hF, hB, hc5⟩
        have H5 : Hid ((∃ R' A', PlR R' K w5 pb A' (P.setFree c x (x.free.eraseIdx r)) ∧ A'.ar = A.ar ∧ A'.lv = A.lv ∧ A'.cb = A.cb ∧ (∀ b, W.heap.size ≤ b → R' b = none)) ∧ FK K we w5 ∧ (∀ b, W.heap.size ≤ b → b < we.heap.size → w5.heap[b]? = we.heap[b]?) ∧ w5.cell? ⟨A.cb, c * 2, none⟩ = some (.int .i64 (x.size : Int))) := ⟨hR, hF, hB, hc5⟩
        refine hK.out _ _ ?_ (fun hHeld => ?_)
        · (try dsimp only); exact hc5
        clear hK KK hR hF hB hc5
        try simp only [Act.put, List.setIfInBounds_toArray, List.set_cons_zero, List.set_cons_succ]
        refine wpAnyH_take (i := 16) (v := ?_) (by simp only [List.getElem?_toArray, List.getElem?_cons_succ, List.getElem?_cons_zero]; rfl) (by kernel_rfl) (by kernel_rfl) (by kernel_rfl) (by intro _ _ _ h; exact h) (Or.inl ⟨by rfl, ?_⟩) (by assumption) ?_
        rotate_left
        · (intro w hSw; (try dsimp only at hSw); go_simp <;> with_reducible rfl)
        try simp only [Act.put, List.setIfInBounds_toArray, List.set_cons_zero, List.set_cons_succ]
        refine wpAnyH_ready (rs := [18]) (by kernel_rfl) (by simp) ?_
        refine AllReadyH.cons (by simp only [List.getElem?_toArray, List.getElem?_cons_succ, List.getElem?_cons_zero]; rfl) (fun KK hK => ?_) AllReadyH.nil
        have HB5 : w5.heap[lb]? = some (.cells #[.int .i64 0, .int .i64 0, .int .i64 0] 38 (0, 0)) := (H5.out.2.2.1 lb HE.out.2.2.1 (heap_at HE.out.2.1)).trans HE.out.2.1
        rw [if_pos (by rfl)]
        refine wp_store_mid 38 _ _ rfl lb 0 #[.int .i64 (buf : Int), .int .i64 (c : Int), .int .i64 (x.size : Int)] rfl rfl (there3 HB5) (by kernel_rfl) (by simp [Value.oneCell']) ?_
        have HT : Hid (Tk W K A pb (P.setFree c x (x.free.eraseIdx r)) lb buf c x.size (w5.setCells lb 0 [.int .i64 (buf : Int), .int .i64 (c : Int), .int .i64 (x.size : Int)]) ∧ (w5.setCells lb 0 [.int .i64 (buf : Int), .int .i64 (c : Int), .int .i64 (x.size : Int)]).heap[rb]? = some (.cells #[.int .i64 0, .int .i64 0, .int .i64 0] 38 (0, 0)) ∧ rb ≠ lb) := by
          obtain ⟨⟨R', A', g1, g2, g3, g4, g5⟩, hF, hB, _⟩ := H5.out
          have fs := fr_setCells lb [.int .i64 (buf : Int), .int .i64 (c : Int), .int .i64 (x.size : Int)] 0 w5
          have hW := HRB.out
          have hl := HE.out.2.2.1
          have hr := HE.out.2.2.2
          have hrc : rb < we.heap.size := Nat.lt_of_lt_of_le (heap_at (HQ.out w1 (Up.refl w1)).2) HEu.out.size
          refine ⟨Tk.mk' (HU1.out.trans HEu.out) HKb.out g1 g2 g3 g4 g5 hF fs hl (set3 HB5), ?_, by omega⟩
          rw [fs.block rb (Nat.lt_of_lt_of_le hrc hF.size) (by omega), hB rb (by omega) hrc]
          exact (HQ.out we HEu.out).2
        refine hK.out _ _ ?_ (fun hHeld => ?_)
        · (try dsimp only)
          obtain ⟨R', A', g1, g2, g3, g4, g5⟩ := HT.out.1.at'
          have := g1.clsCell (setFree_at HOk.out.2.2 (x.free.eraseIdx r))
          rw [g4] at this
          exact this
        clear hK KK hHeld
        try simp only [Act.put, List.setIfInBounds_toArray, List.set_cons_zero, List.set_cons_succ]
        refine wpAnyH_done (by kernel_rfl) ?_ _
        generalize hw7 : World.setCells _ lb 0 _ = w7 at HT ⊢
        have HT7 : Hid _ := HT.out
        clear hw7 HT H5
        have HLV : Hid (∀ w, Up w7 w → w.cell? ⟨A.ar i, 1, none⟩ = some (.slice va a.loans.length vc)) := fun w u => by
          have h1 := (HT7.out.1.lvAt (i := i) (a := a) HOk.out.2.1).1
          rw [HLVv.out] at h1
          exact heap_cell ((u.block _ (heap_at h1)).trans h1) rfl
        have HS2 : Hid (∀ w, Up w7 w → w.rangeAt lb 0 [.int .i64 (buf : Int), .int .i64 (c : Int), .int .i64 (x.size : Int)] ∧ w.cell? ⟨A.cb, c * 2, none⟩ = some (.int .i64 (x.size : Int))) := fun w u => by
          have hb := (u.block _ (heap_at HT7.out.1.blk)).trans HT7.out.1.blk
          refine ⟨range3 (heap_cell hb rfl) (heap_cell hb rfl) (heap_cell hb rfl), ?_⟩
          obtain ⟨R', A', g1, g2, g3, g4, g5⟩ := HT7.out.1.at'
          have := (g1.up u).clsCell (setFree_at HOk.out.2.2 (x.free.eraseIdx r))
          rw [g4] at this
          exact this
        have HPut : Hid (∀ w8 bb, Up w7 w8 → NmAt w8 bb x.size (fun _ => 0) → w7.heap.size ≤ bb → _) := fun w8 bb u nb hb => HT7.out.1.put (rb := rb) (i := i) (a := a) HOk.out.2.1 hln u nb hb HKb.out (by have := HRB.out; omega) (heap_at HT7.out.2.1)
        have U8 : Hid (Up w7 w7.drew) := (Up.refl w7).drew
        go_wp2_with fail
        refine wp_region_held_drew (S := fun w' => w'.rangeAt lb 0 [.int .i64 (buf : Int), .int .i64 (c : Int), .int .i64 (x.size : Int)] ∧ w'.cell? ⟨A.cb, c * 2, none⟩ = some (.int .i64 (x.size : Int))) (by kernel_rfl) ?_ (fun hHeld => ?_)
        · (try dsimp only); exact HS2.out _ U8.out
        clear hHeld
        generalize hwe : World.drew w7 = wk at U8 ⊢
        clear hwe
        have hHeld := HS2.out _ U8.out
        refine wpAnyH_take (i := 0) (v := ?_) (by simp only [List.getElem?_toArray, List.getElem?_cons_zero]; rfl) (by kernel_rfl) (by kernel_rfl) (by kernel_rfl) (by intro _ _ _ h; exact h) (Or.inl ⟨by rfl, ?_⟩) (by assumption) ?_
        rotate_left
        · (intro w hSw; (try dsimp only at hSw); go_simp <;> with_reducible rfl)
        try simp only [Act.put, List.setIfInBounds_toArray, List.set_cons_zero, List.set_cons_succ]
        refine wpAnyH_take (i := 1) (v := ?_) (by simp only [List.getElem?_toArray, List.getElem?_cons_succ, List.getElem?_cons_zero]; rfl) (by kernel_rfl) (by kernel_rfl) (by kernel_rfl) (by intro _ _ _ h; exact h) (Or.inl ⟨by rfl, ?_⟩) (by assumption) ?_
        rotate_left
        · (intro w hSw; (try dsimp only at hSw); go_simp <;> with_reducible rfl)
        try simp only [Act.put, List.setIfInBounds_toArray, List.set_cons_zero, List.set_cons_succ]
        refine wpAnyH_take (i := 2) (v := ?_) (by simp only [List.getElem?_toArray, List.getElem?_cons_succ, List.getElem?_cons_zero]; rfl) (by kernel_rfl) (by kernel_rfl) (by kernel_rfl) (by intro _ _ _ h; exact h) (Or.inl ⟨by rfl, ?_⟩) (by assumption) ?_
        rotate_left
        · (intro w hSw; (try dsimp only at hSw); go_simp <;> with_reducible rfl)
        try simp only [Act.put, List.setIfInBounds_toArray, List.set_cons_zero, List.set_cons_succ]
        refine wpAnyH_take (i := 3) (v := ?_) (by simp only [List.getElem?_toArray, List.getElem?_cons_succ, List.getElem?_cons_zero]; rfl) (by kernel_rfl) (by kernel_rfl) (by kernel_rfl) (by intro _ _ _ h; exact h) (Or.inl ⟨by rfl, ?_⟩) (by assumption) ?_
        rotate_left
        · (intro w hSw; (try dsimp only at hSw); go_simp <;> with_reducible rfl)
        try simp only [Act.put, List.setIfInBounds_toArray, List.set_cons_zero, List.set_cons_succ]
        refine wpAnyH_take (i := 4) (v := ?_) (by simp only [List.getElem?_toArray, List.getElem?_cons_succ, List.getElem?_cons_zero]; rfl) (by kernel_rfl) (by kernel_rfl) (by kernel_rfl) (by intro _ _ _ h; exact h) (Or.inl ⟨by rfl, ?_⟩) (by assumption) ?_
        rotate_left
        · (intro w hSw; (try dsimp only at hSw); go_simp <;> with_reducible rfl)
        try simp only [Act.put, List.setIfInBounds_toArray, List.set_cons_zero, List.set_cons_succ]
        refine wpAnyH_take (i := 5) (v := ?_) (by simp only [List.getElem?_toArray, List.getElem?_cons_succ, List.getElem?_cons_zero]; rfl) (by kernel_rfl) (by kernel_rfl) (by kernel_rfl) (by intro _ _ _ h; exact h) (Or.inl ⟨by rfl, ?_⟩) (by assumption) ?_
        rotate_left
        · (intro w hSw; (try dsimp only at hSw); go_simp <;> with_reducible rfl)
        try simp only [Act.put, List.setIfInBounds_toArray, List.set_cons_zero, List.set_cons_succ]
        refine wpAnyH_take (i := 8) (v := .agg [.int .i64 (buf : Int), .int .i64 (c : Int), .int .i64 (x.size : Int)].toArray) (by simp only [List.getElem?_toArray, List.getElem?_cons_succ, List.getElem?_cons_zero]; rfl) (by kernel_rfl) (by kernel_rfl) (by kernel_rfl) (by intro _ _ _ h; exact h) (yieldsIf_load_mid (by rfl) 38 _ rfl lb 0 rfl [.int .i64 (buf : Int), .int .i64 (c : Int), .int .i64 (x.size : Int)] _ (fun w hw => hw.1) Try.underlying38 rfl (by kernel_rfl)) (by assumption) ?_
        simp only [Act.put, List.setIfInBounds_toArray, List.set_cons_zero, List.set_cons_succ]
        refine wpAnyH_take (i := 9) (v := ?_) (by simp only [List.getElem?_toArray, List.getElem?_cons_succ, List.getElem?_cons_zero]; rfl) (by kernel_rfl) (by kernel_rfl) (by kernel_rfl) (by intro _ _ _ h; exact h) (Or.inl ⟨by rfl, ?_⟩) (by assumption) ?_
        rotate_left
        · (intro w hSw; (try dsimp only at hSw); go_simp <;> with_reducible rfl)
        try simp only [Act.put, List.setIfInBounds_toArray, List.set_cons_zero, List.set_cons_succ]
        refine wpAnyH_take (i := 10) (v := ?_) (by simp only [List.getElem?_toArray, List.getElem?_cons_succ, List.getElem?_cons_zero]; rfl) (by kernel_rfl) (by kernel_rfl) (by kernel_rfl) (by intro _ _ _ h; exact h) (Or.inl ⟨by rfl, ?_⟩) (by assumption) ?_
        rotate_left
        · (intro w hSw; (try dsimp only at hSw); go_simp <;> with_reducible rfl)
        try simp only [Act.put, List.setIfInBounds_toArray, List.set_cons_zero, List.set_cons_succ]
        refine wpAnyH_take (i := 11) (v := ?_) (by simp only [List.getElem?_toArray, List.getElem?_cons_succ, List.getElem?_cons_zero]; rfl) (by kernel_rfl) (by kernel_rfl) (by kernel_rfl) (by intro _ _ _ h; exact h) (Or.inl ⟨by rfl, ?_⟩) (by assumption) ?_
        rotate_left
        · (intro w hSw; (try dsimp only at hSw); go_simp <;> with_reducible rfl)
        try simp only [Act.put, List.setIfInBounds_toArray, List.set_cons_zero, List.set_cons_succ]
        refine wpAnyH_take (i := 12) (v := ?_) (by simp only [List.getElem?_toArray, List.getElem?_cons_succ, List.getElem?_cons_zero]; rfl) (by kernel_rfl) (by kernel_rfl) (by kernel_rfl) (by intro _ _ _ h; exact h) (Or.inl ⟨by rfl, ?_⟩) (by assumption) ?_
        rotate_left
        · (intro w hSw; (try dsimp only at hSw); go_simp <;> with_reducible rfl)
        try simp only [Act.put, List.setIfInBounds_toArray, List.set_cons_zero, List.set_cons_succ]
        refine wpAnyH_ready (rs := [6, 13]) (by kernel_rfl) (by simp) ?_
        refine AllReadyH.cons (by simp only [List.getElem?_toArray, List.getElem?_cons_succ, List.getElem?_cons_zero]; rfl) (fun KK hK => ?_) (AllReadyH.cons (by simp only [List.getElem?_toArray, List.getElem?_cons_succ, List.getElem?_cons_zero]; rfl) (fun KK hK => ?_) AllReadyH.nil)
        · skip
          have kl : wk.cell? ⟨A.ar i, 1, none⟩ = some (.slice va a.loans.length vc) := HLV.out wk U8.out
          go_simp
          refine hK.out _ _ ?_ (fun hHeld => ?_)
          · (try dsimp only); exact HS2.out wk U8.out
          clear hK KK kl
          try simp only [Act.put, List.setIfInBounds_toArray, List.set_cons_zero, List.set_cons_succ]
          refine wpAnyH_take (i := 7) (v := ?_) (by simp only [List.getElem?_toArray, List.getElem?_cons_succ, List.getElem?_cons_zero]; rfl) (by kernel_rfl) (by kernel_rfl) (by kernel_rfl) (by intro _ _ _ h; exact h) (Or.inl ⟨by rfl, ?_⟩) (by assumption) ?_
          rotate_left
          · (intro w hSw; (try dsimp only at hSw); go_simp <;> with_reducible rfl)
          try simp only [Act.put, List.setIfInBounds_toArray, List.set_cons_zero, List.set_cons_succ]
          refine wpAnyH_ready (rs := [13]) (by kernel_rfl) (by simp) ?_
          refine AllReadyH.cons (by simp only [List.getElem?_toArray, List.getElem?_cons_succ, List.getElem?_cons_zero]; rfl) (fun KK hK => ?_) AllReadyH.nil
          go_simp
          have HM8 : Hid (Up w7 (wk.alloc (Obj.cells (madeCells #[.int .u8 0] x.size) 5)) ∧ NmAt (wk.alloc (Obj.cells (madeCells #[.int .u8 0] x.size) 5)) wk.heap.size x.size (fun _ => 0) ∧ w7.heap.size ≤ wk.heap.size) := ⟨U8.out.alloc _, made_nm wk x.size, U8.out.size⟩
          generalize World.alloc wk _ = w8 at HM8 ⊢
          generalize wk.heap.size = bb at HM8 ⊢
          refine hK.out _ _ ?_ (fun hHeld => ?_)
          · (try dsimp only); exact HS2.out w8 HM8.out.1
          clear hK KK
          try simp only [Act.put, List.setIfInBounds_toArray, List.set_cons_zero, List.set_cons_succ]
          refine wpAnyH_take (i := 14) (v := ?_) (by simp only [List.getElem?_toArray, List.getElem?_cons_succ, List.getElem?_cons_zero]; rfl) (by kernel_rfl) (by kernel_rfl) (by kernel_rfl) (by intro _ _ _ h; exact h) (Or.inl ⟨by rfl, ?_⟩) (by assumption) ?_
          rotate_left
          · (intro w hSw; (try dsimp only at hSw); go_simp <;> with_reducible rfl)
          try simp only [Act.put, List.setIfInBounds_toArray, List.set_cons_zero, List.set_cons_succ]
          have HP15 : Hid _ := HPut.out w8 bb HM8.out.1 HM8.out.2.1 HM8.out.2.2
          unfold Loan.cells at HP15
          refine wpAnyH_ready (rs := [15]) (by kernel_rfl) (by simp) ?_
          refine AllReadyH.cons (by simp only [List.getElem?_toArray, List.getElem?_cons_succ, List.getElem?_cons_zero]; rfl) (fun KK hK => ?_) AllReadyH.nil
          go_simp
          refine Calls.mono HP15.out ?_
          rintro e w9 ⟨rfl, h9, f9, b9, b10, b11⟩
          have hlb9 : w9.heap[lb]? = some (.cells #[.int .i64 (buf : Int), .int .i64 (c : Int), .int .i64 (x.size : Int)] 38 (0, 0)) := b9.trans ((HM8.out.1.block lb (heap_at HT7.out.1.blk)).trans HT7.out.1.blk)
          have hrb9 : w9.heap[rb]? = some (.cells #[.int .i64 0, .int .i64 0, .int .i64 0] 38 (0, 0)) := b10.trans ((HM8.out.1.block rb (heap_at HT7.out.2.1)).trans HT7.out.2.1)
          have hcb9 : w9.cell? ⟨A.cb, c * 2, none⟩ = some (.int .i64 (x.size : Int)) := by
            have h0 := (HS2.out w8 HM8.out.1).2
            unfold World.cell? at h0 ⊢
            simp only [b11]
            exact h0
          have H9 : Hid ((∃ R A', PlR R K w9 pb A' (P.taken i a c x r ⟨buf, c, x.size, bb, fun _ => 0⟩) ∧ R rb = none) ∧ FK K W w9 ∧ w9.heap[rb]? = some (.cells #[.int .i64 0, .int .i64 0, .int .i64 0] 38 (0, 0))) := ⟨h9, f9, hrb9⟩
          have HR9 : Hid (w9.rangeAt lb 0 [.int .i64 (buf : Int), .int .i64 (c : Int), .int .i64 (x.size : Int)]) := range3 (heap_cell hlb9 rfl) (heap_cell hlb9 rfl) (heap_cell hlb9 rfl)
          clear h9 f9 b9 b10 b11 hrb9 hlb9
          refine hK.out _ _ ?_ (fun hHeld => ?_)
          · (try dsimp only); exact ⟨HR9.out, hcb9⟩
          clear hK KK
          try simp only [Act.put, List.setIfInBounds_toArray, List.set_cons_zero, List.set_cons_succ]
          refine wpAnyH_done (by kernel_rfl) ?_ _
          clear hHeld hcb9 HS2 HLV HPut HM8 HP15
          go_wp2_with (first
            | (refine wpList_load_mid rfl 38 _ rfl lb 0 rfl [.int .i64 (buf : Int), .int .i64 (c : Int), .int .i64 (x.size : Int)] _ HR9.out Try.underlying38 rfl (by kernel_rfl) ?_)
            | (refine wpList_store_rowTo rfl 38 _ _ rfl rfl rb #[.int .i64 (buf : Int), .int .i64 (c : Int), .int .i64 (x.size : Int)] rfl rfl 38 _ H9.out.2.2 (by kernel_rfl) rfl (by simp [Value.oneCell']) ?_))
          have fr := (Fr.refl rb w9).setRow (cs := #[.int .i64 (buf : Int), .int .i64 (c : Int), .int .i64 (x.size : Int)])
          refine bodyPost_ret (v := .tuple #[.agg _, .int .i64 0]) (results_row_tmp Try.results15 _ _ _ 38 _ (0, 0) _ rfl (setRow_heap _ _ _ _ _ _ H9.out.2.2) Try.underlying38 rfl (by kernel_rfl)) rfl ⟨rfl, ?_, ?_⟩
          · obtain ⟨R9, A9, h91, h92⟩ := H9.out.1
            exact ⟨bb, R9, A9, h91.fr1 fr h92⟩
          · exact H9.out.2.1.trans (FK.ofFr fr (fun k => by have := HKb.out rb k; have := HRB.out; omega))
        · skip
          go_simp
          have HM8 : Hid (Up w7 (wk.alloc (Obj.cells (madeCells #[.int .u8 0] x.size) 5)) ∧ NmAt (wk.alloc (Obj.cells (madeCells #[.int .u8 0] x.size) 5)) wk.heap.size x.size (fun _ => 0) ∧ w7.heap.size ≤ wk.heap.size) := ⟨U8.out.alloc _, made_nm wk x.size, U8.out.size⟩
          generalize World.alloc wk _ = w8 at HM8 ⊢
          generalize wk.heap.size = bb at HM8 ⊢
          refine hK.out _ _ ?_ (fun hHeld => ?_)
          · (try dsimp only); exact HS2.out w8 HM8.out.1
          clear hK KK
          try simp only [Act.put, List.setIfInBounds_toArray, List.set_cons_zero, List.set_cons_succ]
          refine wpAnyH_take (i := 14) (v := ?_) (by simp only [List.getElem?_toArray, List.getElem?_cons_succ, List.getElem?_cons_zero]; rfl) (by kernel_rfl) (by kernel_rfl) (by kernel_rfl) (by intro _ _ _ h; exact h) (Or.inl ⟨by rfl, ?_⟩) (by assumption) ?_
          rotate_left
          · (intro w hSw; (try dsimp only at hSw); go_simp <;> with_reducible rfl)
          try simp only [Act.put, List.setIfInBounds_toArray, List.set_cons_zero, List.set_cons_succ]
          refine wpAnyH_ready (rs := [6]) (by kernel_rfl) (by simp) ?_
          refine AllReadyH.cons (by simp only [List.getElem?_toArray, List.getElem?_cons_succ, List.getElem?_cons_zero]; rfl) (fun KK hK => ?_) AllReadyH.nil
          have kl : w8.cell? ⟨A.ar i, 1, none⟩ = some (.slice va a.loans.length vc) := HLV.out w8 HM8.out.1
          go_simp
          refine hK.out _ _ ?_ (fun hHeld => ?_)
          · (try dsimp only); exact HS2.out w8 HM8.out.1
          clear hK KK kl
          try simp only [Act.put, List.setIfInBounds_toArray, List.set_cons_zero, List.set_cons_succ]
          refine wpAnyH_take (i := 7) (v := ?_) (by simp only [List.getElem?_toArray, List.getElem?_cons_succ, List.getElem?_cons_zero]; rfl) (by kernel_rfl) (by kernel_rfl) (by kernel_rfl) (by intro _ _ _ h; exact h) (Or.inl ⟨by rfl, ?_⟩) (by assumption) ?_
          rotate_left
          · (intro w hSw; (try dsimp only at hSw); go_simp <;> with_reducible rfl)
          try simp only [Act.put, List.setIfInBounds_toArray, List.set_cons_zero, List.set_cons_succ]
          have HP15 : Hid _ := HPut.out w8 bb HM8.out.1 HM8.out.2.1 HM8.out.2.2
          unfold Loan.cells at HP15
          refine wpAnyH_ready (rs := [15]) (by kernel_rfl) (by simp) ?_
          refine AllReadyH.cons (by simp only [List.getElem?_toArray, List.getElem?_cons_succ, List.getElem?_cons_zero]; rfl) (fun KK hK => ?_) AllReadyH.nil
          go_simp
          refine Calls.mono HP15.out ?_
          rintro e w9 ⟨rfl, h9, f9, b9, b10, b11⟩
          have hlb9 : w9.heap[lb]? = some (.cells #[.int .i64 (buf : Int), .int .i64 (c : Int), .int .i64 (x.size : Int)] 38 (0, 0)) := b9.trans ((HM8.out.1.block lb (heap_at HT7.out.1.blk)).trans HT7.out.1.blk)
          have hrb9 : w9.heap[rb]? = some (.cells #[.int .i64 0, .int .i64 0, .int .i64 0] 38 (0, 0)) := b10.trans ((HM8.out.1.block rb (heap_at HT7.out.2.1)).trans HT7.out.2.1)
          have hcb9 : w9.cell? ⟨A.cb, c * 2, none⟩ = some (.int .i64 (x.size : Int)) := by
            have h0 := (HS2.out w8 HM8.out.1).2
            unfold World.cell? at h0 ⊢
            simp only [b11]
            exact h0
          have H9 : Hid ((∃ R A', PlR R K w9 pb A' (P.taken i a c x r ⟨buf, c, x.size, bb, fun _ => 0⟩) ∧ R rb = none) ∧ FK K W w9 ∧ w9.heap[rb]? = some (.cells #[.int .i64 0, .int .i64 0, .int .i64 0] 38 (0, 0))) := ⟨h9, f9, hrb9⟩
          have HR9 : Hid (w9.rangeAt lb 0 [.int .i64 (buf : Int), .int .i64 (c : Int), .int .i64 (x.size : Int)]) := range3 (heap_cell hlb9 rfl) (heap_cell hlb9 rfl) (heap_cell hlb9 rfl)
          clear h9 f9 b9 b10 b11 hrb9 hlb9
          refine hK.out _ _ ?_ (fun hHeld => ?_)
          · (try dsimp only); exact ⟨HR9.out, hcb9⟩
          clear hK KK
          try simp only [Act.put, List.setIfInBounds_toArray, List.set_cons_zero, List.set_cons_succ]
          refine wpAnyH_done (by kernel_rfl) ?_ _
          clear hHeld hcb9 HS2 HLV HPut HM8 HP15
          go_wp2_with (first
            | (refine wpList_load_mid rfl 38 _ rfl lb 0 rfl [.int .i64 (buf : Int), .int .i64 (c : Int), .int .i64 (x.size : Int)] _ HR9.out Try.underlying38 rfl (by kernel_rfl) ?_)
            | (refine wpList_store_rowTo rfl 38 _ _ rfl rfl rb #[.int .i64 (buf : Int), .int .i64 (c : Int), .int .i64 (x.size : Int)] rfl rfl 38 _ H9.out.2.2 (by kernel_rfl) rfl (by simp [Value.oneCell']) ?_))
          have fr := (Fr.refl rb w9).setRow (cs := #[.int .i64 (buf : Int), .int .i64 (c : Int), .int .i64 (x.size : Int)])
          refine bodyPost_ret (v := .tuple #[.agg _, .int .i64 0]) (results_row_tmp Try.results15 _ _ _ 38 _ (0, 0) _ rfl (setRow_heap _ _ _ _ _ _ H9.out.2.2) Try.underlying38 rfl (by kernel_rfl)) rfl ⟨rfl, ?_, ?_⟩
          · obtain ⟨R9, A9, h91, h92⟩ := H9.out.1
            exact ⟨bb, R9, A9, h91.fr1 fr h92⟩
          · exact H9.out.2.1.trans (FK.ofFr fr (fun k => by have := HKb.out rb k; have := HRB.out; omega))
    · skip
      go_simp
      have HE : Hid (Up w1 (wd.alloc (Obj.cells #[.int .i64 0, .int .i64 0, .int .i64 0] 38)) ∧ (wd.alloc (Obj.cells #[.int .i64 0, .int .i64 0, .int .i64 0] 38)).heap[wd.heap.size]? = some (.cells #[.int .i64 0, .int .i64 0, .int .i64 0] 38 (0, 0)) ∧ W.heap.size ≤ wd.heap.size ∧ rb < wd.heap.size) := ⟨HD3.out.alloc _, heap_alloc_new wd _, Nat.le_trans HU1.out.size HD3.out.size, Nat.lt_of_lt_of_le (heap_at (HQ.out w1 (Up.refl w1)).2) HD3.out.size⟩
      generalize World.alloc wd _ = we at HE ⊢
      generalize wd.heap.size = lb at HE ⊢
      have HEu : Hid (Up w1 we) := HE.out.1
      refine hK.out _ _ ?_ (fun hHeld => ?_)
      · (try dsimp only); exact (HW.out _ (HU1.out.trans HEu.out)).2.1
      clear hK KK
      try simp only [Act.put, List.setIfInBounds_toArray, List.set_cons_zero, List.set_cons_succ]
      refine wpAnyH_ready (rs := [9]) (by kernel_rfl) (by simp) ?_
      refine AllReadyH.cons (by simp only [List.getElem?_toArray, List.getElem?_cons_succ, List.getElem?_cons_zero]; rfl) (fun KK hK => ?_) AllReadyH.nil
      go_simp
      refine (HRs.out _).mono ?_
      rintro e w' ⟨rfl, hw'⟩
      obtain rfl := hw'.symm
      refine hK.out _ _ ?_ (fun hHeld => ?_)
      · (try dsimp only); exact (HW.out _ (HU1.out.trans HEu.out)).2.1
      clear hK KK
      try simp only [Act.put, List.setIfInBounds_toArray, List.set_cons_zero, List.set_cons_succ]
      refine wpAnyH_ready (rs := [10]) (by kernel_rfl) (by simp) ?_
      refine AllReadyH.cons (by simp only [List.getElem?_toArray, List.getElem?_cons_succ, List.getElem?_cons_zero]; rfl) (fun KK hK => ?_) AllReadyH.nil
      go_simp
      refine (HDr.out _ (HU1.out.trans HEu.out)).mono ?_
      rintro e w5 ⟨rfl, hR, hF, hB, hc5⟩
      have H5 : Hid ((∃ R' A', PlR R' K w5 pb A' (P.setFree c x (x.free.eraseIdx r)) ∧ A'.ar = A.ar ∧ A'.lv = A.lv ∧ A'.cb = A.cb ∧ (∀ b, W.heap.size ≤ b → R' b = none)) ∧ FK K we w5 ∧ (∀ b, W.heap.size ≤ b → b < we.heap.size → w5.heap[b]? = we.heap[b]?) ∧ w5.cell? ⟨A.cb, c * 2, none⟩ = some (.int .i64 (x.size : Int))) := ⟨hR, hF, hB, hc5⟩
      refine hK.out _ _ ?_ (fun hHeld => ?_)
      · (try dsimp only); exact hc5
      clear hK KK hR hF hB hc5
      try simp only [Act.put, List.setIfInBounds_toArray, List.set_cons_zero, List.set_cons_succ]
      refine wpAnyH_take (i := 16) (v := ?_) (by simp only [List.getElem?_toArray, List.getElem?_cons_succ, List.getElem?_cons_zero]; rfl) (by kernel_rfl) (by kernel_rfl) (by kernel_rfl) (by intro _ _ _ h; exact h) (Or.inl ⟨by rfl, ?_⟩) (by assumption) ?_
      rotate_left
      · (intro w hSw; (try dsimp only at hSw); go_simp <;> with_reducible rfl)
      try simp only [Act.put, List.setIfInBounds_toArray, List.set_cons_zero, List.set_cons_succ]
      refine wpAnyH_ready (rs := [18]) (by kernel_rfl) (by simp) ?_
      refine AllReadyH.cons (by simp only [List.getElem?_toArray, List.getElem?_cons_succ, List.getElem?_cons_zero]; rfl) (fun KK hK => ?_) AllReadyH.nil
      have HB5 : w5.heap[lb]? = some (.cells #[.int .i64 0, .int .i64 0, .int .i64 0] 38 (0, 0)) := (H5.out.2.2.1 lb HE.out.2.2.1 (heap_at HE.out.2.1)).trans HE.out.2.1
      rw [if_pos (by rfl)]
      refine wp_store_mid 38 _ _ rfl lb 0 #[.int .i64 (buf : Int), .int .i64 (c : Int), .int .i64 (x.size : Int)] rfl rfl (there3 HB5) (by kernel_rfl) (by simp [Value.oneCell']) ?_
      have HT : Hid (Tk W K A pb (P.setFree c x (x.free.eraseIdx r)) lb buf c x.size (w5.setCells lb 0 [.int .i64 (buf : Int), .int .i64 (c : Int), .int .i64 (x.size : Int)]) ∧ (w5.setCells lb 0 [.int .i64 (buf : Int), .int .i64 (c : Int), .int .i64 (x.size : Int)]).heap[rb]? = some (.cells #[.int .i64 0, .int .i64 0, .int .i64 0] 38 (0, 0)) ∧ rb ≠ lb) := by
        obtain ⟨⟨R', A', g1, g2, g3, g4, g5⟩, hF, hB, _⟩ := H5.out
        have fs := fr_setCells lb [.int .i64 (buf : Int), .int .i64 (c : Int), .int .i64 (x.size : Int)] 0 w5
        have hW := HRB.out
        have hl := HE.out.2.2.1
        have hr := HE.out.2.2.2
        have hrc : rb < we.heap.size := Nat.lt_of_lt_of_le (heap_at (HQ.out w1 (Up.refl w1)).2) HEu.out.size
        refine ⟨Tk.mk' (HU1.out.trans HEu.out) HKb.out g1 g2 g3 g4 g5 hF fs hl (set3 HB5), ?_, by omega⟩
        rw [fs.block rb (Nat.lt_of_lt_of_le hrc hF.size) (by omega), hB rb (by omega) hrc]
        exact (HQ.out we HEu.out).2
      refine hK.out _ _ ?_ (fun hHeld => ?_)
      · (try dsimp only)
        obtain ⟨R', A', g1, g2, g3, g4, g5⟩ := HT.out.1.at'
        have := g1.clsCell (setFree_at HOk.out.2.2 (x.free.eraseIdx r))
        rw [g4] at this
        exact this
      clear hK KK hHeld
      try simp only [Act.put, List.setIfInBounds_toArray, List.set_cons_zero, List.set_cons_succ]
      refine wpAnyH_done (by kernel_rfl) ?_ _
      generalize hw7 : World.setCells _ lb 0 _ = w7 at HT ⊢
      have HT7 : Hid _ := HT.out
      clear hw7 HT H5
      have HLV : Hid (∀ w, Up w7 w → w.cell? ⟨A.ar i, 1, none⟩ = some (.slice va a.loans.length vc)) := fun w u => by
        have h1 := (HT7.out.1.lvAt (i := i) (a := a) HOk.out.2.1).1
        rw [HLVv.out] at h1
        exact heap_cell ((u.block _ (heap_at h1)).trans h1) rfl
      have HS2 : Hid (∀ w, Up w7 w → w.rangeAt lb 0 [.int .i64 (buf : Int), .int .i64 (c : Int), .int .i64 (x.size : Int)] ∧ w.cell? ⟨A.cb, c * 2, none⟩ = some (.int .i64 (x.size : Int))) := fun w u => by
        have hb := (u.block _ (heap_at HT7.out.1.blk)).trans HT7.out.1.blk
        refine ⟨range3 (heap_cell hb rfl) (heap_cell hb rfl) (heap_cell hb rfl), ?_⟩
        obtain ⟨R', A', g1, g2, g3, g4, g5⟩ := HT7.out.1.at'
        have := (g1.up u).clsCell (setFree_at HOk.out.2.2 (x.free.eraseIdx r))
        rw [g4] at this
        exact this
      have HPut : Hid (∀ w8 bb, Up w7 w8 → NmAt w8 bb x.size (fun _ => 0) → w7.heap.size ≤ bb → _) := fun w8 bb u nb hb => HT7.out.1.put (rb := rb) (i := i) (a := a) HOk.out.2.1 hln u nb hb HKb.out (by have := HRB.out; omega) (heap_at HT7.out.2.1)
      have U8 : Hid (Up w7 w7.drew) := (Up.refl w7).drew
      go_wp2_with fail
      refine wp_region_held_drew (S := fun w' => w'.rangeAt lb 0 [.int .i64 (buf : Int), .int .i64 (c : Int), .int .i64 (x.size : Int)] ∧ w'.cell? ⟨A.cb, c * 2, none⟩ = some (.int .i64 (x.size : Int))) (by kernel_rfl) ?_ (fun hHeld => ?_)
      · (try dsimp only); exact HS2.out _ U8.out
      clear hHeld
      generalize hwe : World.drew w7 = wk at U8 ⊢
      clear hwe
      have hHeld := HS2.out _ U8.out
      refine wpAnyH_take (i := 0) (v := ?_) (by simp only [List.getElem?_toArray, List.getElem?_cons_zero]; rfl) (by kernel_rfl) (by kernel_rfl) (by kernel_rfl) (by intro _ _ _ h; exact h) (Or.inl ⟨by rfl, ?_⟩) (by assumption) ?_
      rotate_left
      · (intro w hSw; (try dsimp only at hSw); go_simp <;> with_reducible rfl)
      try simp only [Act.put, List.setIfInBounds_toArray, List.set_cons_zero, List.set_cons_succ]
      refine wpAnyH_take (i := 1) (v := ?_) (by simp only [List.getElem?_toArray, List.getElem?_cons_succ, List.getElem?_cons_zero]; rfl) (by kernel_rfl) (by kernel_rfl) (by kernel_rfl) (by intro _ _ _ h; exact h) (Or.inl ⟨by rfl, ?_⟩) (by assumption) ?_
      rotate_left
      · (intro w hSw; (try dsimp only at hSw); go_simp <;> with_reducible rfl)
      try simp only [Act.put, List.setIfInBounds_toArray, List.set_cons_zero, List.set_cons_succ]
      refine wpAnyH_take (i := 2) (v := ?_) (by simp only [List.getElem?_toArray, List.getElem?_cons_succ, List.getElem?_cons_zero]; rfl) (by kernel_rfl) (by kernel_rfl) (by kernel_rfl) (by intro _ _ _ h; exact h) (Or.inl ⟨by rfl, ?_⟩) (by assumption) ?_
      rotate_left
      · (intro w hSw; (try dsimp only at hSw); go_simp <;> with_reducible rfl)
      try simp only [Act.put, List.setIfInBounds_toArray, List.set_cons_zero, List.set_cons_succ]
      refine wpAnyH_take (i := 3) (v := ?_) (by simp only [List.getElem?_toArray, List.getElem?_cons_succ, List.getElem?_cons_zero]; rfl) (by kernel_rfl) (by kernel_rfl) (by kernel_rfl) (by intro _ _ _ h; exact h) (Or.inl ⟨by rfl, ?_⟩) (by assumption) ?_
      rotate_left
      · (intro w hSw; (try dsimp only at hSw); go_simp <;> with_reducible rfl)
      try simp only [Act.put, List.setIfInBounds_toArray, List.set_cons_zero, List.set_cons_succ]
      refine wpAnyH_take (i := 4) (v := ?_) (by simp only [List.getElem?_toArray, List.getElem?_cons_succ, List.getElem?_cons_zero]; rfl) (by kernel_rfl) (by kernel_rfl) (by kernel_rfl) (by intro _ _ _ h; exact h) (Or.inl ⟨by rfl, ?_⟩) (by assumption) ?_
      rotate_left
      · (intro w hSw; (try dsimp only at hSw); go_simp <;> with_reducible rfl)
      try simp only [Act.put, List.setIfInBounds_toArray, List.set_cons_zero, List.set_cons_succ]
      refine wpAnyH_take (i := 5) (v := ?_) (by simp only [List.getElem?_toArray, List.getElem?_cons_succ, List.getElem?_cons_zero]; rfl) (by kernel_rfl) (by kernel_rfl) (by kernel_rfl) (by intro _ _ _ h; exact h) (Or.inl ⟨by rfl, ?_⟩) (by assumption) ?_
      rotate_left
      · (intro w hSw; (try dsimp only at hSw); go_simp <;> with_reducible rfl)
      try simp only [Act.put, List.setIfInBounds_toArray, List.set_cons_zero, List.set_cons_succ]
      refine wpAnyH_take (i := 8) (v := .agg [.int .i64 (buf : Int), .int .i64 (c : Int), .int .i64 (x.size : Int)].toArray) (by simp only [List.getElem?_toArray, List.getElem?_cons_succ, List.getElem?_cons_zero]; rfl) (by kernel_rfl) (by kernel_rfl) (by kernel_rfl) (by intro _ _ _ h; exact h) (yieldsIf_load_mid (by rfl) 38 _ rfl lb 0 rfl [.int .i64 (buf : Int), .int .i64 (c : Int), .int .i64 (x.size : Int)] _ (fun w hw => hw.1) Try.underlying38 rfl (by kernel_rfl)) (by assumption) ?_
      simp only [Act.put, List.setIfInBounds_toArray, List.set_cons_zero, List.set_cons_succ]
      refine wpAnyH_take (i := 9) (v := ?_) (by simp only [List.getElem?_toArray, List.getElem?_cons_succ, List.getElem?_cons_zero]; rfl) (by kernel_rfl) (by kernel_rfl) (by kernel_rfl) (by intro _ _ _ h; exact h) (Or.inl ⟨by rfl, ?_⟩) (by assumption) ?_
      rotate_left
      · (intro w hSw; (try dsimp only at hSw); go_simp <;> with_reducible rfl)
      try simp only [Act.put, List.setIfInBounds_toArray, List.set_cons_zero, List.set_cons_succ]
      refine wpAnyH_take (i := 10) (v := ?_) (by simp only [List.getElem?_toArray, List.getElem?_cons_succ, List.getElem?_cons_zero]; rfl) (by kernel_rfl) (by kernel_rfl) (by kernel_rfl) (by intro _ _ _ h; exact h) (Or.inl ⟨by rfl, ?_⟩) (by assumption) ?_
      rotate_left
      · (intro w hSw; (try dsimp only at hSw); go_simp <;> with_reducible rfl)
      try simp only [Act.put, List.setIfInBounds_toArray, List.set_cons_zero, List.set_cons_succ]
      refine wpAnyH_take (i := 11) (v := ?_) (by simp only [List.getElem?_toArray, List.getElem?_cons_succ, List.getElem?_cons_zero]; rfl) (by kernel_rfl) (by kernel_rfl) (by kernel_rfl) (by intro _ _ _ h; exact h) (Or.inl ⟨by rfl, ?_⟩) (by assumption) ?_
      rotate_left
      · (intro w hSw; (try dsimp only at hSw); go_simp <;> with_reducible rfl)
      try simp only [Act.put, List.setIfInBounds_toArray, List.set_cons_zero, List.set_cons_succ]
      refine wpAnyH_take (i := 12) (v := ?_) (by simp only [List.getElem?_toArray, List.getElem?_cons_succ, List.getElem?_cons_zero]; rfl) (by kernel_rfl) (by kernel_rfl) (by kernel_rfl) (by intro _ _ _ h; exact h) (Or.inl ⟨by rfl, ?_⟩) (by assumption) ?_
      rotate_left
      · (intro w hSw; (try dsimp only at hSw); go_simp <;> with_reducible rfl)
      try simp only [Act.put, List.setIfInBounds_toArray, List.set_cons_zero, List.set_cons_succ]
      refine wpAnyH_ready (rs := [6, 13]) (by kernel_rfl) (by simp) ?_
      refine AllReadyH.cons (by simp only [List.getElem?_toArray, List.getElem?_cons_succ, List.getElem?_cons_zero]; rfl) (fun KK hK => ?_) (AllReadyH.cons (by simp only [List.getElem?_toArray, List.getElem?_cons_succ, List.getElem?_cons_zero]; rfl) (fun KK hK => ?_) AllReadyH.nil)
      · skip
        have kl : wk.cell? ⟨A.ar i, 1, none⟩ = some (.slice va a.loans.length vc) := HLV.out wk U8.out
        go_simp
        refine hK.out _ _ ?_ (fun hHeld => ?_)
        · (try dsimp only); exact HS2.out wk U8.out
        clear hK KK kl
        try simp only [Act.put, List.setIfInBounds_toArray, List.set_cons_zero, List.set_cons_succ]
        refine wpAnyH_take (i := 7) (v := ?_) (by simp only [List.getElem?_toArray, List.getElem?_cons_succ, List.getElem?_cons_zero]; rfl) (by kernel_rfl) (by kernel_rfl) (by kernel_rfl) (by intro _ _ _ h; exact h) (Or.inl ⟨by rfl, ?_⟩) (by assumption) ?_
        rotate_left
        · (intro w hSw; (try dsimp only at hSw); go_simp <;> with_reducible rfl)
        try simp only [Act.put, List.setIfInBounds_toArray, List.set_cons_zero, List.set_cons_succ]
        refine wpAnyH_ready (rs := [13]) (by kernel_rfl) (by simp) ?_
        refine AllReadyH.cons (by simp only [List.getElem?_toArray, List.getElem?_cons_succ, List.getElem?_cons_zero]; rfl) (fun KK hK => ?_) AllReadyH.nil
        go_simp
        have HM8 : Hid (Up w7 (wk.alloc (Obj.cells (madeCells #[.int .u8 0] x.size) 5)) ∧ NmAt (wk.alloc (Obj.cells (madeCells #[.int .u8 0] x.size) 5)) wk.heap.size x.size (fun _ => 0) ∧ w7.heap.size ≤ wk.heap.size) := ⟨U8.out.alloc _, made_nm wk x.size, U8.out.size⟩
        generalize World.alloc wk _ = w8 at HM8 ⊢
        generalize wk.heap.size = bb at HM8 ⊢
        refine hK.out _ _ ?_ (fun hHeld => ?_)
        · (try dsimp only); exact HS2.out w8 HM8.out.1
        clear hK KK
        try simp only [Act.put, List.setIfInBounds_toArray, List.set_cons_zero, List.set_cons_succ]
        refine wpAnyH_take (i := 14) (v := ?_) (by simp only [List.getElem?_toArray, List.getElem?_cons_succ, List.getElem?_cons_zero]; rfl) (by kernel_rfl) (by kernel_rfl) (by kernel_rfl) (by intro _ _ _ h; exact h) (Or.inl ⟨by rfl, ?_⟩) (by assumption) ?_
        rotate_left
        · (intro w hSw; (try dsimp only at hSw); go_simp <;> with_reducible rfl)
        try simp only [Act.put, List.setIfInBounds_toArray, List.set_cons_zero, List.set_cons_succ]
        have HP15 : Hid _ := HPut.out w8 bb HM8.out.1 HM8.out.2.1 HM8.out.2.2
        unfold Loan.cells at HP15
        refine wpAnyH_ready (rs := [15]) (by kernel_rfl) (by simp) ?_
        refine AllReadyH.cons (by simp only [List.getElem?_toArray, List.getElem?_cons_succ, List.getElem?_cons_zero]; rfl) (fun KK hK => ?_) AllReadyH.nil
        go_simp
        refine Calls.mono HP15.out ?_
        rintro e w9 ⟨rfl, h9, f9, b9, b10, b11⟩
        have hlb9 : w9.heap[lb]? = some (.cells #[.int .i64 (buf : Int), .int .i64 (c : Int), .int .i64 (x.size : Int)] 38 (0, 0)) := b9.trans ((HM8.out.1.block lb (heap_at HT7.out.1.blk)).trans HT7.out.1.blk)
        have hrb9 : w9.heap[rb]? = some (.cells #[.int .i64 0, .int .i64 0, .int .i64 0] 38 (0, 0)) := b10.trans ((HM8.out.1.block rb (heap_at HT7.out.2.1)).trans HT7.out.2.1)
        have hcb9 : w9.cell? ⟨A.cb, c * 2, none⟩ = some (.int .i64 (x.size : Int)) := by
          have h0 := (HS2.out w8 HM8.out.1).2
          unfold World.cell? at h0 ⊢
          simp only [b11]
          exact h0
        have H9 : Hid ((∃ R A', PlR R K w9 pb A' (P.taken i a c x r ⟨buf, c, x.size, bb, fun _ => 0⟩) ∧ R rb = none) ∧ FK K W w9 ∧ w9.heap[rb]? = some (.cells #[.int .i64 0, .int .i64 0, .int .i64 0] 38 (0, 0))) := ⟨h9, f9, hrb9⟩
        have HR9 : Hid (w9.rangeAt lb 0 [.int .i64 (buf : Int), .int .i64 (c : Int), .int .i64 (x.size : Int)]) := range3 (heap_cell hlb9 rfl) (heap_cell hlb9 rfl) (heap_cell hlb9 rfl)
        clear h9 f9 b9 b10 b11 hrb9 hlb9
        refine hK.out _ _ ?_ (fun hHeld => ?_)
        · (try dsimp only); exact ⟨HR9.out, hcb9⟩
        clear hK KK
        try simp only [Act.put, List.setIfInBounds_toArray, List.set_cons_zero, List.set_cons_succ]
        refine wpAnyH_done (by kernel_rfl) ?_ _
        clear hHeld hcb9 HS2 HLV HPut HM8 HP15
        go_wp2_with (first
          | (refine wpList_load_mid rfl 38 _ rfl lb 0 rfl [.int .i64 (buf : Int), .int .i64 (c : Int), .int .i64 (x.size : Int)] _ HR9.out Try.underlying38 rfl (by kernel_rfl) ?_)
          | (refine wpList_store_rowTo rfl 38 _ _ rfl rfl rb #[.int .i64 (buf : Int), .int .i64 (c : Int), .int .i64 (x.size : Int)] rfl rfl 38 _ H9.out.2.2 (by kernel_rfl) rfl (by simp [Value.oneCell']) ?_))
        have fr := (Fr.refl rb w9).setRow (cs := #[.int .i64 (buf : Int), .int .i64 (c : Int), .int .i64 (x.size : Int)])
        refine bodyPost_ret (v := .tuple #[.agg _, .int .i64 0]) (results_row_tmp Try.results15 _ _ _ 38 _ (0, 0) _ rfl (setRow_heap _ _ _ _ _ _ H9.out.2.2) Try.underlying38 rfl (by kernel_rfl)) rfl ⟨rfl, ?_, ?_⟩
        · obtain ⟨R9, A9, h91, h92⟩ := H9.out.1
          exact ⟨bb, R9, A9, h91.fr1 fr h92⟩
        · exact H9.out.2.1.trans (FK.ofFr fr (fun k => by have := HKb.out rb k; have := HRB.out; omega))
      · skip
        go_simp
        have HM8 : Hid (Up w7 (wk.alloc (Obj.cells (madeCells #[.int .u8 0] x.size) 5)) ∧ NmAt (wk.alloc (Obj.cells (madeCells #[.int .u8 0] x.size) 5)) wk.heap.size x.size (fun _ => 0) ∧ w7.heap.size ≤ wk.heap.size) := ⟨U8.out.alloc _, made_nm wk x.size, U8.out.size⟩
        generalize World.alloc wk _ = w8 at HM8 ⊢
        generalize wk.heap.size = bb at HM8 ⊢
        refine hK.out _ _ ?_ (fun hHeld => ?_)
        · (try dsimp only); exact HS2.out w8 HM8.out.1
        clear hK KK
        try simp only [Act.put, List.setIfInBounds_toArray, List.set_cons_zero, List.set_cons_succ]
        refine wpAnyH_take (i := 14) (v := ?_) (by simp only [List.getElem?_toArray, List.getElem?_cons_succ, List.getElem?_cons_zero]; rfl) (by kernel_rfl) (by kernel_rfl) (by kernel_rfl) (by intro _ _ _ h; exact h) (Or.inl ⟨by rfl, ?_⟩) (by assumption) ?_
        rotate_left
        · (intro w hSw; (try dsimp only at hSw); go_simp <;> with_reducible rfl)
        try simp only [Act.put, List.setIfInBounds_toArray, List.set_cons_zero, List.set_cons_succ]
        refine wpAnyH_ready (rs := [6]) (by kernel_rfl) (by simp) ?_
        refine AllReadyH.cons (by simp only [List.getElem?_toArray, List.getElem?_cons_succ, List.getElem?_cons_zero]; rfl) (fun KK hK => ?_) AllReadyH.nil
        have kl : w8.cell? ⟨A.ar i, 1, none⟩ = some (.slice va a.loans.length vc) := HLV.out w8 HM8.out.1
        go_simp
        refine hK.out _ _ ?_ (fun hHeld => ?_)
        · (try dsimp only); exact HS2.out w8 HM8.out.1
        clear hK KK kl
        try simp only [Act.put, List.setIfInBounds_toArray, List.set_cons_zero, List.set_cons_succ]
        refine wpAnyH_take (i := 7) (v := ?_) (by simp only [List.getElem?_toArray, List.getElem?_cons_succ, List.getElem?_cons_zero]; rfl) (by kernel_rfl) (by kernel_rfl) (by kernel_rfl) (by intro _ _ _ h; exact h) (Or.inl ⟨by rfl, ?_⟩) (by assumption) ?_
        rotate_left
        · (intro w hSw; (try dsimp only at hSw); go_simp <;> with_reducible rfl)
        try simp only [Act.put, List.setIfInBounds_toArray, List.set_cons_zero, List.set_cons_succ]
        have HP15 : Hid _ := HPut.out w8 bb HM8.out.1 HM8.out.2.1 HM8.out.2.2
        unfold Loan.cells at HP15
        refine wpAnyH_ready (rs := [15]) (by kernel_rfl) (by simp) ?_
        refine AllReadyH.cons (by simp only [List.getElem?_toArray, List.getElem?_cons_succ, List.getElem?_cons_zero]; rfl) (fun KK hK => ?_) AllReadyH.nil
        go_simp
        refine Calls.mono HP15.out ?_
        rintro e w9 ⟨rfl, h9, f9, b9, b10, b11⟩
        have hlb9 : w9.heap[lb]? = some (.cells #[.int .i64 (buf : Int), .int .i64 (c : Int), .int .i64 (x.size : Int)] 38 (0, 0)) := b9.trans ((HM8.out.1.block lb (heap_at HT7.out.1.blk)).trans HT7.out.1.blk)
        have hrb9 : w9.heap[rb]? = some (.cells #[.int .i64 0, .int .i64 0, .int .i64 0] 38 (0, 0)) := b10.trans ((HM8.out.1.block rb (heap_at HT7.out.2.1)).trans HT7.out.2.1)
        have hcb9 : w9.cell? ⟨A.cb, c * 2, none⟩ = some (.int .i64 (x.size : Int)) := by
          have h0 := (HS2.out w8 HM8.out.1).2
          unfold World.cell? at h0 ⊢
          simp only [b11]
          exact h0
        have H9 : Hid ((∃ R A', PlR R K w9 pb A' (P.taken i a c x r ⟨buf, c, x.size, bb, fun _ => 0⟩) ∧ R rb = none) ∧ FK K W w9 ∧ w9.heap[rb]? = some (.cells #[.int .i64 0, .int .i64 0, .int .i64 0] 38 (0, 0))) := ⟨h9, f9, hrb9⟩
        have HR9 : Hid (w9.rangeAt lb 0 [.int .i64 (buf : Int), .int .i64 (c : Int), .int .i64 (x.size : Int)]) := range3 (heap_cell hlb9 rfl) (heap_cell hlb9 rfl) (heap_cell hlb9 rfl)
        clear h9 f9 b9 b10 b11 hrb9 hlb9
        refine hK.out _ _ ?_ (fun hHeld => ?_)
        · (try dsimp only); exact ⟨HR9.out, hcb9⟩
        clear hK KK
        try simp only [Act.put, List.setIfInBounds_toArray, List.set_cons_zero, List.set_cons_succ]
        refine wpAnyH_done (by kernel_rfl) ?_ _
        clear hHeld hcb9 HS2 HLV HPut HM8 HP15
        go_wp2_with (first
          | (refine wpList_load_mid rfl 38 _ rfl lb 0 rfl [.int .i64 (buf : Int), .int .i64 (c : Int), .int .i64 (x.size : Int)] _ HR9.out Try.underlying38 rfl (by kernel_rfl) ?_)
          | (refine wpList_store_rowTo rfl 38 _ _ rfl rfl rb #[.int .i64 (buf : Int), .int .i64 (c : Int), .int .i64 (x.size : Int)] rfl rfl 38 _ H9.out.2.2 (by kernel_rfl) rfl (by simp [Value.oneCell']) ?_))
        have fr := (Fr.refl rb w9).setRow (cs := #[.int .i64 (buf : Int), .int .i64 (c : Int), .int .i64 (x.size : Int)])
        refine bodyPost_ret (v := .tuple #[.agg _, .int .i64 0]) (results_row_tmp Try.results15 _ _ _ 38 _ (0, 0) _ rfl (setRow_heap _ _ _ _ _ _ H9.out.2.2) Try.underlying38 rfl (by kernel_rfl)) rfl ⟨rfl, ?_, ?_⟩
        · obtain ⟨R9, A9, h91, h92⟩ := H9.out.1
          exact ⟨bb, R9, A9, h91.fr1 fr h92⟩
        · exact H9.out.2.1.trans (FK.ofFr fr (fun k => by have := HKb.out rb k; have := HRB.out; omega))
  · skip
    go_simp
    have HE : Hid (Up w1 (wd.alloc (Obj.cells #[.int .i64 0, .int .i64 0, .int .i64 0] 38)) ∧ (wd.alloc (Obj.cells #[.int .i64 0, .int .i64 0, .int .i64 0] 38)).heap[wd.heap.size]? = some (.cells #[.int .i64 0, .int .i64 0, .int .i64 0] 38 (0, 0)) ∧ W.heap.size ≤ wd.heap.size ∧ rb < wd.heap.size) := ⟨HD3.out.alloc _, heap_alloc_new wd _, Nat.le_trans HU1.out.size HD3.out.size, Nat.lt_of_lt_of_le (heap_at (HQ.out w1 (Up.refl w1)).2) HD3.out.size⟩
    generalize World.alloc wd _ = we at HE ⊢
    generalize wd.heap.size = lb at HE ⊢
    have HEu : Hid (Up w1 we) := HE.out.1
    refine hK.out _ _ ?_ (fun hHeld => ?_)
    · (try dsimp only); exact (HW.out _ (HU1.out.trans HEu.out)).2.1
    clear hK KK
    try simp only [Act.put, List.setIfInBounds_toArray, List.set_cons_zero, List.set_cons_succ]
    refine wpAnyH_ready (rs := [7]) (by kernel_rfl) (by simp) ?_
    refine AllReadyH.cons (by simp only [List.getElem?_toArray, List.getElem?_cons_succ, List.getElem?_cons_zero]; rfl) (fun KK hK => ?_) AllReadyH.nil
    have kl := (HW.out _ (HU1.out.trans HEu.out)).2.2.1
    go_simp
    refine hK.out _ _ ?_ (fun hHeld => ?_)
    · (try dsimp only); exact (HW.out _ (HU1.out.trans HEu.out)).2.1
    clear hK KK kl
    try simp only [Act.put, List.setIfInBounds_toArray, List.set_cons_zero, List.set_cons_succ]
    refine wpAnyH_take (i := 8) (v := ?_) (by simp only [List.getElem?_toArray, List.getElem?_cons_succ, List.getElem?_cons_zero]; rfl) (by kernel_rfl) (by kernel_rfl) (by kernel_rfl) (by intro _ _ _ h; exact h) (Or.inl ⟨by rfl, ?_⟩) (by assumption) ?_
    rotate_left
    · (intro w hSw; (try dsimp only at hSw); go_simp <;> with_reducible rfl)
    try simp only [Act.put, List.setIfInBounds_toArray, List.set_cons_zero, List.set_cons_succ]
    refine wpAnyH_ready (rs := [9]) (by kernel_rfl) (by simp) ?_
    refine AllReadyH.cons (by simp only [List.getElem?_toArray, List.getElem?_cons_succ, List.getElem?_cons_zero]; rfl) (fun KK hK => ?_) AllReadyH.nil
    go_simp
    refine (HRs.out _).mono ?_
    rintro e w' ⟨rfl, hw'⟩
    obtain rfl := hw'.symm
    refine hK.out _ _ ?_ (fun hHeld => ?_)
    · (try dsimp only); exact (HW.out _ (HU1.out.trans HEu.out)).2.1
    clear hK KK
    try simp only [Act.put, List.setIfInBounds_toArray, List.set_cons_zero, List.set_cons_succ]
    refine wpAnyH_ready (rs := [10]) (by kernel_rfl) (by simp) ?_
    refine AllReadyH.cons (by simp only [List.getElem?_toArray, List.getElem?_cons_succ, List.getElem?_cons_zero]; rfl) (fun KK hK => ?_) AllReadyH.nil
    go_simp
    refine (HDr.out _ (HU1.out.trans HEu.out)).mono ?_
    rintro e w5 ⟨rfl, hR, hF, hB, hc5⟩
    have H5 : Hid ((∃ R' A', PlR R' K w5 pb A' (P.setFree c x (x.free.eraseIdx r)) ∧ A'.ar = A.ar ∧ A'.lv = A.lv ∧ A'.cb = A.cb ∧ (∀ b, W.heap.size ≤ b → R' b = none)) ∧ FK K we w5 ∧ (∀ b, W.heap.size ≤ b → b < we.heap.size → w5.heap[b]? = we.heap[b]?) ∧ w5.cell? ⟨A.cb, c * 2, none⟩ = some (.int .i64 (x.size : Int))) := ⟨hR, hF, hB, hc5⟩
    refine hK.out _ _ ?_ (fun hHeld => ?_)
    · (try dsimp only); exact hc5
    clear hK KK hR hF hB hc5
    try simp only [Act.put, List.setIfInBounds_toArray, List.set_cons_zero, List.set_cons_succ]
    refine wpAnyH_take (i := 16) (v := ?_) (by simp only [List.getElem?_toArray, List.getElem?_cons_succ, List.getElem?_cons_zero]; rfl) (by kernel_rfl) (by kernel_rfl) (by kernel_rfl) (by intro _ _ _ h; exact h) (Or.inl ⟨by rfl, ?_⟩) (by assumption) ?_
    rotate_left
    · (intro w hSw; (try dsimp only at hSw); go_simp <;> with_reducible rfl)
    try simp only [Act.put, List.setIfInBounds_toArray, List.set_cons_zero, List.set_cons_succ]
    refine wpAnyH_ready (rs := [18]) (by kernel_rfl) (by simp) ?_
    refine AllReadyH.cons (by simp only [List.getElem?_toArray, List.getElem?_cons_succ, List.getElem?_cons_zero]; rfl) (fun KK hK => ?_) AllReadyH.nil
    have HB5 : w5.heap[lb]? = some (.cells #[.int .i64 0, .int .i64 0, .int .i64 0] 38 (0, 0)) := (H5.out.2.2.1 lb HE.out.2.2.1 (heap_at HE.out.2.1)).trans HE.out.2.1
    rw [if_pos (by rfl)]
    refine wp_store_mid 38 _ _ rfl lb 0 #[.int .i64 (buf : Int), .int .i64 (c : Int), .int .i64 (x.size : Int)] rfl rfl (there3 HB5) (by kernel_rfl) (by simp [Value.oneCell']) ?_
    have HT : Hid (Tk W K A pb (P.setFree c x (x.free.eraseIdx r)) lb buf c x.size (w5.setCells lb 0 [.int .i64 (buf : Int), .int .i64 (c : Int), .int .i64 (x.size : Int)]) ∧ (w5.setCells lb 0 [.int .i64 (buf : Int), .int .i64 (c : Int), .int .i64 (x.size : Int)]).heap[rb]? = some (.cells #[.int .i64 0, .int .i64 0, .int .i64 0] 38 (0, 0)) ∧ rb ≠ lb) := by
      obtain ⟨⟨R', A', g1, g2, g3, g4, g5⟩, hF, hB, _⟩ := H5.out
      have fs := fr_setCells lb [.int .i64 (buf : Int), .int .i64 (c : Int), .int .i64 (x.size : Int)] 0 w5
      have hW := HRB.out
      have hl := HE.out.2.2.1
      have hr := HE.out.2.2.2
      have hrc : rb < we.heap.size := Nat.lt_of_lt_of_le (heap_at (HQ.out w1 (Up.refl w1)).2) HEu.out.size
      refine ⟨Tk.mk' (HU1.out.trans HEu.out) HKb.out g1 g2 g3 g4 g5 hF fs hl (set3 HB5), ?_, by omega⟩
      rw [fs.block rb (Nat.lt_of_lt_of_le hrc hF.size) (by omega), hB rb (by omega) hrc]
      exact (HQ.out we HEu.out).2
    refine hK.out _ _ ?_ (fun hHeld => ?_)
    · (try dsimp only)
      obtain ⟨R', A', g1, g2, g3, g4, g5⟩ := HT.out.1.at'
      have := g1.clsCell (setFree_at HOk.out.2.2 (x.free.eraseIdx r))
      rw [g4] at this
      exact this
    clear hK KK hHeld
    try simp only [Act.put, List.setIfInBounds_toArray, List.set_cons_zero, List.set_cons_succ]
    refine wpAnyH_done (by kernel_rfl) ?_ _
    generalize hw7 : World.setCells _ lb 0 _ = w7 at HT ⊢
    have HT7 : Hid _ := HT.out
    clear hw7 HT H5
    have HLV : Hid (∀ w, Up w7 w → w.cell? ⟨A.ar i, 1, none⟩ = some (.slice va a.loans.length vc)) := fun w u => by
      have h1 := (HT7.out.1.lvAt (i := i) (a := a) HOk.out.2.1).1
      rw [HLVv.out] at h1
      exact heap_cell ((u.block _ (heap_at h1)).trans h1) rfl
    have HS2 : Hid (∀ w, Up w7 w → w.rangeAt lb 0 [.int .i64 (buf : Int), .int .i64 (c : Int), .int .i64 (x.size : Int)] ∧ w.cell? ⟨A.cb, c * 2, none⟩ = some (.int .i64 (x.size : Int))) := fun w u => by
      have hb := (u.block _ (heap_at HT7.out.1.blk)).trans HT7.out.1.blk
      refine ⟨range3 (heap_cell hb rfl) (heap_cell hb rfl) (heap_cell hb rfl), ?_⟩
      obtain ⟨R', A', g1, g2, g3, g4, g5⟩ := HT7.out.1.at'
      have := (g1.up u).clsCell (setFree_at HOk.out.2.2 (x.free.eraseIdx r))
      rw [g4] at this
      exact this
    have HPut : Hid (∀ w8 bb, Up w7 w8 → NmAt w8 bb x.size (fun _ => 0) → w7.heap.size ≤ bb → _) := fun w8 bb u nb hb => HT7.out.1.put (rb := rb) (i := i) (a := a) HOk.out.2.1 hln u nb hb HKb.out (by have := HRB.out; omega) (heap_at HT7.out.2.1)
    have U8 : Hid (Up w7 w7.drew) := (Up.refl w7).drew
    go_wp2_with fail
    refine wp_region_held_drew (S := fun w' => w'.rangeAt lb 0 [.int .i64 (buf : Int), .int .i64 (c : Int), .int .i64 (x.size : Int)] ∧ w'.cell? ⟨A.cb, c * 2, none⟩ = some (.int .i64 (x.size : Int))) (by kernel_rfl) ?_ (fun hHeld => ?_)
    · (try dsimp only); exact HS2.out _ U8.out
    clear hHeld
    generalize hwe : World.drew w7 = wk at U8 ⊢
    clear hwe
    have hHeld := HS2.out _ U8.out
    refine wpAnyH_take (i := 0) (v := ?_) (by simp only [List.getElem?_toArray, List.getElem?_cons_zero]; rfl) (by kernel_rfl) (by kernel_rfl) (by kernel_rfl) (by intro _ _ _ h; exact h) (Or.inl ⟨by rfl, ?_⟩) (by assumption) ?_
    rotate_left
    · (intro w hSw; (try dsimp only at hSw); go_simp <;> with_reducible rfl)
    try simp only [Act.put, List.setIfInBounds_toArray, List.set_cons_zero, List.set_cons_succ]
    refine wpAnyH_take (i := 1) (v := ?_) (by simp only [List.getElem?_toArray, List.getElem?_cons_succ, List.getElem?_cons_zero]; rfl) (by kernel_rfl) (by kernel_rfl) (by kernel_rfl) (by intro _ _ _ h; exact h) (Or.inl ⟨by rfl, ?_⟩) (by assumption) ?_
    rotate_left
    · (intro w hSw; (try dsimp only at hSw); go_simp <;> with_reducible rfl)
    try simp only [Act.put, List.setIfInBounds_toArray, List.set_cons_zero, List.set_cons_succ]
    refine wpAnyH_take (i := 2) (v := ?_) (by simp only [List.getElem?_toArray, List.getElem?_cons_succ, List.getElem?_cons_zero]; rfl) (by kernel_rfl) (by kernel_rfl) (by kernel_rfl) (by intro _ _ _ h; exact h) (Or.inl ⟨by rfl, ?_⟩) (by assumption) ?_
    rotate_left
    · (intro w hSw; (try dsimp only at hSw); go_simp <;> with_reducible rfl)
    try simp only [Act.put, List.setIfInBounds_toArray, List.set_cons_zero, List.set_cons_succ]
    refine wpAnyH_take (i := 3) (v := ?_) (by simp only [List.getElem?_toArray, List.getElem?_cons_succ, List.getElem?_cons_zero]; rfl) (by kernel_rfl) (by kernel_rfl) (by kernel_rfl) (by intro _ _ _ h; exact h) (Or.inl ⟨by rfl, ?_⟩) (by assumption) ?_
    rotate_left
    · (intro w hSw; (try dsimp only at hSw); go_simp <;> with_reducible rfl)
    try simp only [Act.put, List.setIfInBounds_toArray, List.set_cons_zero, List.set_cons_succ]
    refine wpAnyH_take (i := 4) (v := ?_) (by simp only [List.getElem?_toArray, List.getElem?_cons_succ, List.getElem?_cons_zero]; rfl) (by kernel_rfl) (by kernel_rfl) (by kernel_rfl) (by intro _ _ _ h; exact h) (Or.inl ⟨by rfl, ?_⟩) (by assumption) ?_
    rotate_left
    · (intro w hSw; (try dsimp only at hSw); go_simp <;> with_reducible rfl)
    try simp only [Act.put, List.setIfInBounds_toArray, List.set_cons_zero, List.set_cons_succ]
    refine wpAnyH_take (i := 5) (v := ?_) (by simp only [List.getElem?_toArray, List.getElem?_cons_succ, List.getElem?_cons_zero]; rfl) (by kernel_rfl) (by kernel_rfl) (by kernel_rfl) (by intro _ _ _ h; exact h) (Or.inl ⟨by rfl, ?_⟩) (by assumption) ?_
    rotate_left
    · (intro w hSw; (try dsimp only at hSw); go_simp <;> with_reducible rfl)
    try simp only [Act.put, List.setIfInBounds_toArray, List.set_cons_zero, List.set_cons_succ]
    refine wpAnyH_take (i := 8) (v := .agg [.int .i64 (buf : Int), .int .i64 (c : Int), .int .i64 (x.size : Int)].toArray) (by simp only [List.getElem?_toArray, List.getElem?_cons_succ, List.getElem?_cons_zero]; rfl) (by kernel_rfl) (by kernel_rfl) (by kernel_rfl) (by intro _ _ _ h; exact h) (yieldsIf_load_mid (by rfl) 38 _ rfl lb 0 rfl [.int .i64 (buf : Int), .int .i64 (c : Int), .int .i64 (x.size : Int)] _ (fun w hw => hw.1) Try.underlying38 rfl (by kernel_rfl)) (by assumption) ?_
    simp only [Act.put, List.setIfInBounds_toArray, List.set_cons_zero, List.set_cons_succ]
    refine wpAnyH_take (i := 9) (v := ?_) (by simp only [List.getElem?_toArray, List.getElem?_cons_succ, List.getElem?_cons_zero]; rfl) (by kernel_rfl) (by kernel_rfl) (by kernel_rfl) (by intro _ _ _ h; exact h) (Or.inl ⟨by rfl, ?_⟩) (by assumption) ?_
    rotate_left
    · (intro w hSw; (try dsimp only at hSw); go_simp <;> with_reducible rfl)
    try simp only [Act.put, List.setIfInBounds_toArray, List.set_cons_zero, List.set_cons_succ]
    refine wpAnyH_take (i := 10) (v := ?_) (by simp only [List.getElem?_toArray, List.getElem?_cons_succ, List.getElem?_cons_zero]; rfl) (by kernel_rfl) (by kernel_rfl) (by kernel_rfl) (by intro _ _ _ h; exact h) (Or.inl ⟨by rfl, ?_⟩) (by assumption) ?_
    rotate_left
    · (intro w hSw; (try dsimp only at hSw); go_simp <;> with_reducible rfl)
    try simp only [Act.put, List.setIfInBounds_toArray, List.set_cons_zero, List.set_cons_succ]
    refine wpAnyH_take (i := 11) (v := ?_) (by simp only [List.getElem?_toArray, List.getElem?_cons_succ, List.getElem?_cons_zero]; rfl) (by kernel_rfl) (by kernel_rfl) (by kernel_rfl) (by intro _ _ _ h; exact h) (Or.inl ⟨by rfl, ?_⟩) (by assumption) ?_
    rotate_left
    · (intro w hSw; (try dsimp only at hSw); go_simp <;> with_reducible rfl)
    try simp only [Act.put, List.setIfInBounds_toArray, List.set_cons_zero, List.set_cons_succ]
    refine wpAnyH_take (i := 12) (v := ?_) (by simp only [List.getElem?_toArray, List.getElem?_cons_succ, List.getElem?_cons_zero]; rfl) (by kernel_rfl) (by kernel_rfl) (by kernel_rfl) (by intro _ _ _ h; exact h) (Or.inl ⟨by rfl, ?_⟩) (by assumption) ?_
    rotate_left
    · (intro w hSw; (try dsimp only at hSw); go_simp <;> with_reducible rfl)
    try simp only [Act.put, List.setIfInBounds_toArray, List.set_cons_zero, List.set_cons_succ]
    refine wpAnyH_ready (rs := [6, 13]) (by kernel_rfl) (by simp) ?_
    refine AllReadyH.cons (by simp only [List.getElem?_toArray, List.getElem?_cons_succ, List.getElem?_cons_zero]; rfl) (fun KK hK => ?_) (AllReadyH.cons (by simp only [List.getElem?_toArray, List.getElem?_cons_succ, List.getElem?_cons_zero]; rfl) (fun KK hK => ?_) AllReadyH.nil)
    · skip
      have kl : wk.cell? ⟨A.ar i, 1, none⟩ = some (.slice va a.loans.length vc) := HLV.out wk U8.out
      go_simp
      refine hK.out _ _ ?_ (fun hHeld => ?_)
      · (try dsimp only); exact HS2.out wk U8.out
      clear hK KK kl
      try simp only [Act.put, List.setIfInBounds_toArray, List.set_cons_zero, List.set_cons_succ]
      refine wpAnyH_take (i := 7) (v := ?_) (by simp only [List.getElem?_toArray, List.getElem?_cons_succ, List.getElem?_cons_zero]; rfl) (by kernel_rfl) (by kernel_rfl) (by kernel_rfl) (by intro _ _ _ h; exact h) (Or.inl ⟨by rfl, ?_⟩) (by assumption) ?_
      rotate_left
      · (intro w hSw; (try dsimp only at hSw); go_simp <;> with_reducible rfl)
      try simp only [Act.put, List.setIfInBounds_toArray, List.set_cons_zero, List.set_cons_succ]
      refine wpAnyH_ready (rs := [13]) (by kernel_rfl) (by simp) ?_
      refine AllReadyH.cons (by simp only [List.getElem?_toArray, List.getElem?_cons_succ, List.getElem?_cons_zero]; rfl) (fun KK hK => ?_) AllReadyH.nil
      go_simp
      have HM8 : Hid (Up w7 (wk.alloc (Obj.cells (madeCells #[.int .u8 0] x.size) 5)) ∧ NmAt (wk.alloc (Obj.cells (madeCells #[.int .u8 0] x.size) 5)) wk.heap.size x.size (fun _ => 0) ∧ w7.heap.size ≤ wk.heap.size) := ⟨U8.out.alloc _, made_nm wk x.size, U8.out.size⟩
      generalize World.alloc wk _ = w8 at HM8 ⊢
      generalize wk.heap.size = bb at HM8 ⊢
      refine hK.out _ _ ?_ (fun hHeld => ?_)
      · (try dsimp only); exact HS2.out w8 HM8.out.1
      clear hK KK
      try simp only [Act.put, List.setIfInBounds_toArray, List.set_cons_zero, List.set_cons_succ]
      refine wpAnyH_take (i := 14) (v := ?_) (by simp only [List.getElem?_toArray, List.getElem?_cons_succ, List.getElem?_cons_zero]; rfl) (by kernel_rfl) (by kernel_rfl) (by kernel_rfl) (by intro _ _ _ h; exact h) (Or.inl ⟨by rfl, ?_⟩) (by assumption) ?_
      rotate_left
      · (intro w hSw; (try dsimp only at hSw); go_simp <;> with_reducible rfl)
      try simp only [Act.put, List.setIfInBounds_toArray, List.set_cons_zero, List.set_cons_succ]
      have HP15 : Hid _ := HPut.out w8 bb HM8.out.1 HM8.out.2.1 HM8.out.2.2
      unfold Loan.cells at HP15
      refine wpAnyH_ready (rs := [15]) (by kernel_rfl) (by simp) ?_
      refine AllReadyH.cons (by simp only [List.getElem?_toArray, List.getElem?_cons_succ, List.getElem?_cons_zero]; rfl) (fun KK hK => ?_) AllReadyH.nil
      go_simp
      refine Calls.mono HP15.out ?_
      rintro e w9 ⟨rfl, h9, f9, b9, b10, b11⟩
      have hlb9 : w9.heap[lb]? = some (.cells #[.int .i64 (buf : Int), .int .i64 (c : Int), .int .i64 (x.size : Int)] 38 (0, 0)) := b9.trans ((HM8.out.1.block lb (heap_at HT7.out.1.blk)).trans HT7.out.1.blk)
      have hrb9 : w9.heap[rb]? = some (.cells #[.int .i64 0, .int .i64 0, .int .i64 0] 38 (0, 0)) := b10.trans ((HM8.out.1.block rb (heap_at HT7.out.2.1)).trans HT7.out.2.1)
      have hcb9 : w9.cell? ⟨A.cb, c * 2, none⟩ = some (.int .i64 (x.size : Int)) := by
        have h0 := (HS2.out w8 HM8.out.1).2
        unfold World.cell? at h0 ⊢
        simp only [b11]
        exact h0
      have H9 : Hid ((∃ R A', PlR R K w9 pb A' (P.taken i a c x r ⟨buf, c, x.size, bb, fun _ => 0⟩) ∧ R rb = none) ∧ FK K W w9 ∧ w9.heap[rb]? = some (.cells #[.int .i64 0, .int .i64 0, .int .i64 0] 38 (0, 0))) := ⟨h9, f9, hrb9⟩
      have HR9 : Hid (w9.rangeAt lb 0 [.int .i64 (buf : Int), .int .i64 (c : Int), .int .i64 (x.size : Int)]) := range3 (heap_cell hlb9 rfl) (heap_cell hlb9 rfl) (heap_cell hlb9 rfl)
      clear h9 f9 b9 b10 b11 hrb9 hlb9
      refine hK.out _ _ ?_ (fun hHeld => ?_)
      · (try dsimp only); exact ⟨HR9.out, hcb9⟩
      clear hK KK
      try simp only [Act.put, List.setIfInBounds_toArray, List.set_cons_zero, List.set_cons_succ]
      refine wpAnyH_done (by kernel_rfl) ?_ _
      clear hHeld hcb9 HS2 HLV HPut HM8 HP15
      go_wp2_with (first
        | (refine wpList_load_mid rfl 38 _ rfl lb 0 rfl [.int .i64 (buf : Int), .int .i64 (c : Int), .int .i64 (x.size : Int)] _ HR9.out Try.underlying38 rfl (by kernel_rfl) ?_)
        | (refine wpList_store_rowTo rfl 38 _ _ rfl rfl rb #[.int .i64 (buf : Int), .int .i64 (c : Int), .int .i64 (x.size : Int)] rfl rfl 38 _ H9.out.2.2 (by kernel_rfl) rfl (by simp [Value.oneCell']) ?_))
      have fr := (Fr.refl rb w9).setRow (cs := #[.int .i64 (buf : Int), .int .i64 (c : Int), .int .i64 (x.size : Int)])
      refine bodyPost_ret (v := .tuple #[.agg _, .int .i64 0]) (results_row_tmp Try.results15 _ _ _ 38 _ (0, 0) _ rfl (setRow_heap _ _ _ _ _ _ H9.out.2.2) Try.underlying38 rfl (by kernel_rfl)) rfl ⟨rfl, ?_, ?_⟩
      · obtain ⟨R9, A9, h91, h92⟩ := H9.out.1
        exact ⟨bb, R9, A9, h91.fr1 fr h92⟩
      · exact H9.out.2.1.trans (FK.ofFr fr (fun k => by have := HKb.out rb k; have := HRB.out; omega))
    · skip
      go_simp
      have HM8 : Hid (Up w7 (wk.alloc (Obj.cells (madeCells #[.int .u8 0] x.size) 5)) ∧ NmAt (wk.alloc (Obj.cells (madeCells #[.int .u8 0] x.size) 5)) wk.heap.size x.size (fun _ => 0) ∧ w7.heap.size ≤ wk.heap.size) := ⟨U8.out.alloc _, made_nm wk x.size, U8.out.size⟩
      generalize World.alloc wk _ = w8 at HM8 ⊢
      generalize wk.heap.size = bb at HM8 ⊢
      refine hK.out _ _ ?_ (fun hHeld => ?_)
      · (try dsimp only); exact HS2.out w8 HM8.out.1
      clear hK KK
      try simp only [Act.put, List.setIfInBounds_toArray, List.set_cons_zero, List.set_cons_succ]
      refine wpAnyH_take (i := 14) (v := ?_) (by simp only [List.getElem?_toArray, List.getElem?_cons_succ, List.getElem?_cons_zero]; rfl) (by kernel_rfl) (by kernel_rfl) (by kernel_rfl) (by intro _ _ _ h; exact h) (Or.inl ⟨by rfl, ?_⟩) (by assumption) ?_
      rotate_left
      · (intro w hSw; (try dsimp only at hSw); go_simp <;> with_reducible rfl)
      try simp only [Act.put, List.setIfInBounds_toArray, List.set_cons_zero, List.set_cons_succ]
      refine wpAnyH_ready (rs := [6]) (by kernel_rfl) (by simp) ?_
      refine AllReadyH.cons (by simp only [List.getElem?_toArray, List.getElem?_cons_succ, List.getElem?_cons_zero]; rfl) (fun KK hK => ?_) AllReadyH.nil
      have kl : w8.cell? ⟨A.ar i, 1, none⟩ = some (.slice va a.loans.length vc) := HLV.out w8 HM8.out.1
      go_simp
      refine hK.out _ _ ?_ (fun hHeld => ?_)
      · (try dsimp only); exact HS2.out w8 HM8.out.1
      clear hK KK kl
      try simp only [Act.put, List.setIfInBounds_toArray, List.set_cons_zero, List.set_cons_succ]
      refine wpAnyH_take (i := 7) (v := ?_) (by simp only [List.getElem?_toArray, List.getElem?_cons_succ, List.getElem?_cons_zero]; rfl) (by kernel_rfl) (by kernel_rfl) (by kernel_rfl) (by intro _ _ _ h; exact h) (Or.inl ⟨by rfl, ?_⟩) (by assumption) ?_
      rotate_left
      · (intro w hSw; (try dsimp only at hSw); go_simp <;> with_reducible rfl)
      try simp only [Act.put, List.setIfInBounds_toArray, List.set_cons_zero, List.set_cons_succ]
      have HP15 : Hid _ := HPut.out w8 bb HM8.out.1 HM8.out.2.1 HM8.out.2.2
      unfold Loan.cells at HP15
      refine wpAnyH_ready (rs := [15]) (by kernel_rfl) (by simp) ?_
      refine AllReadyH.cons (by simp only [List.getElem?_toArray, List.getElem?_cons_succ, List.getElem?_cons_zero]; rfl) (fun KK hK => ?_) AllReadyH.nil
      go_simp
      refine Calls.mono HP15.out ?_
      rintro e w9 ⟨rfl, h9, f9, b9, b10, b11⟩
      have hlb9 : w9.heap[lb]? = some (.cells #[.int .i64 (buf : Int), .int .i64 (c : Int), .int .i64 (x.size : Int)] 38 (0, 0)) := b9.trans ((HM8.out.1.block lb (heap_at HT7.out.1.blk)).trans HT7.out.1.blk)
      have hrb9 : w9.heap[rb]? = some (.cells #[.int .i64 0, .int .i64 0, .int .i64 0] 38 (0, 0)) := b10.trans ((HM8.out.1.block rb (heap_at HT7.out.2.1)).trans HT7.out.2.1)
      have hcb9 : w9.cell? ⟨A.cb, c * 2, none⟩ = some (.int .i64 (x.size : Int)) := by
        have h0 := (HS2.out w8 HM8.out.1).2
        unfold World.cell? at h0 ⊢
        simp only [b11]
        exact h0
      have H9 : Hid ((∃ R A', PlR R K w9 pb A' (P.taken i a c x r ⟨buf, c, x.size, bb, fun _ => 0⟩) ∧ R rb = none) ∧ FK K W w9 ∧ w9.heap[rb]? = some (.cells #[.int .i64 0, .int .i64 0, .int .i64 0] 38 (0, 0))) := ⟨h9, f9, hrb9⟩
      have HR9 : Hid (w9.rangeAt lb 0 [.int .i64 (buf : Int), .int .i64 (c : Int), .int .i64 (x.size : Int)]) := range3 (heap_cell hlb9 rfl) (heap_cell hlb9 rfl) (heap_cell hlb9 rfl)
      clear h9 f9 b9 b10 b11 hrb9 hlb9
      refine hK.out _ _ ?_ (fun hHeld => ?_)
      · (try dsimp only); exact ⟨HR9.out, hcb9⟩
      clear hK KK
      try simp only [Act.put, List.setIfInBounds_toArray, List.set_cons_zero, List.set_cons_succ]
      refine wpAnyH_done (by kernel_rfl) ?_ _
      clear hHeld hcb9 HS2 HLV HPut HM8 HP15
      go_wp2_with (first
        | (refine wpList_load_mid rfl 38 _ rfl lb 0 rfl [.int .i64 (buf : Int), .int .i64 (c : Int), .int .i64 (x.size : Int)] _ HR9.out Try.underlying38 rfl (by kernel_rfl) ?_)
        | (refine wpList_store_rowTo rfl 38 _ _ rfl rfl rb #[.int .i64 (buf : Int), .int .i64 (c : Int), .int .i64 (x.size : Int)] rfl rfl 38 _ H9.out.2.2 (by kernel_rfl) rfl (by simp [Value.oneCell']) ?_))
      have fr := (Fr.refl rb w9).setRow (cs := #[.int .i64 (buf : Int), .int .i64 (c : Int), .int .i64 (x.size : Int)])
      refine bodyPost_ret (v := .tuple #[.agg _, .int .i64 0]) (results_row_tmp Try.results15 _ _ _ 38 _ (0, 0) _ rfl (setRow_heap _ _ _ _ _ _ H9.out.2.2) Try.underlying38 rfl (by kernel_rfl)) rfl ⟨rfl, ?_, ?_⟩
      · obtain ⟨R9, A9, h91, h92⟩ := H9.out.1
        exact ⟨bb, R9, A9, h91.fr1 fr h92⟩
      · exact H9.out.2.1.trans (FK.ofFr fr (fun k => by have := HKb.out rb k; have := HRB.out; omega))
end Go.Proofs.Yteijdcidemajfaa
