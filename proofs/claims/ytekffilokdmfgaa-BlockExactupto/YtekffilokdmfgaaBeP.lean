/- Block: a step of the script: Write twice. -/
import Derived.Test.YtekffilokdmfgaaBeJ
namespace Go.Proofs.Ytekffilokdmfgaa
open Go.RowKit
set_option linter.unusedVariables false
set_option linter.unusedSimpArgs false
variable {w w1 w2 w3 w4 w5 w6 w7 W W0 : World} {ρ ρ1 : Nat → Nat} {wb H n N : Nat} {ps : List (Nat × Nat)} {Ss : List Sto} {S : Nat → Prop} {L : Bd} {hf f : Nat → Int} {ls : Value} {pp b c d : Int}
set_option maxRecDepth 100000 in
set_option maxHeartbeats 8000000 in
theorem stepTwice (h : Wd W0 wb ρ ps Ss Ss S L H hf W) (hN : L.es.length ≤ N) (hP : ∀ s ∈ Ss, s.pend.length ≤ N) (hN2 : N ≤ 16000000) (hn0 : ps ≠ []) (hpp : I64 pp) (hb : I64 b) (hc : I64 c) (hd : I64 d) :
    Calls Try.prog 4 #[.pointer (some ⟨wb, 0, none⟩), .agg #[.int .i64 12, .int .i64 pp, .int .i64 b, .int .i64 c, .int .i64 d, ls]] W (StepAns W0 wb (N + 8) ρ W) := by
  obtain ⟨np, hnp⟩ : ∃ np, np = ps.length := ⟨_, rfl⟩
  have hn1 : 0 < np := by rw [hnp]; exact List.length_pos_iff.2 hn0
  have hl4 : np ≤ 4 := by rw [hnp]; exact h.l4
  obtain ⟨j, hj, hPk⟩ := pick_natL pp np hpp hn1 (by omega)
  obtain ⟨⟨p1, p2⟩, hp⟩ : ∃ p, ps[j]? = some p := ⟨_, List.getElem?_eq_getElem (by omega)⟩
  obtain ⟨Sj, hS⟩ : ∃ Sj, Ss[j]? = some Sj := ⟨_, List.getElem?_eq_getElem (by rw [h.xl]; omega)⟩
  obtain ⟨gl, lc, hgl, hlc, hrg⟩ : ∃ gl lc, L.x0 = .slice (some ⟨gl, 0, none⟩) np lc ∧ (np ≤ lc ∧ lc ≤ 9223372036854775807) ∧ W.rangeAt gl (j * 2) [.pointer (some ⟨p1, 0, none⟩), .pointer (some ⟨p2, 0, none⟩)] := by
    rcases own_cases h.pr with ⟨_, hn, _⟩ | ⟨gl, cap, hv2, hc1, hc2, _⟩
    · omega
    · have ho := h.pr
      rw [hv2] at ho
      have hpt := ptrs_at ps j _ hp
      have q1 := own_cell ho (j * 2) (by omega)
      have q2 := own_cell ho (j * 2 + 1) (by omega)
      rw [Nat.zero_add] at q1 q2
      exact ⟨gl, cap, by rw [hv2, hnp], ⟨by omega, by unfold maxLen at hc2; omega⟩, range2 (by rw [q1]; exact hpt.1) (by rw [q2]; exact hpt.2)⟩
  obtain ⟨l1, l2⟩ := hlc
  have HPk : Hid (∀ w, Calls Try.prog 9 #[.int .i64 pp, .int .i64 (np : Int)] w fun e w' => e = .returned (.int .i64 (j : Int)) ∧ w' = w) := hPk
  have HLV : Hid (∀ w, Up W w → w.cell? ⟨wb, 0, none⟩ = some (.slice (some ⟨gl, 0, none⟩) np lc) ∧ w.rangeAt gl (j * 2) [.pointer (some ⟨p1, 0, none⟩), .pointer (some ⟨p2, 0, none⟩)]) := fun w u => ⟨cell_up u (by rw [← hgl]; exact h.c0), fun k v hv => cell_up u (hrg k v hv)⟩
  have b0 : ((np : Int) == 0) = false := beq_eq_false_iff_ne.2 (by omega)
  have d0 : (j : Int) < (np : Int) := by omega
  have HWb : Hid (wb < W.heap.size) := h.pl
  have HH : Hid (Wd W0 wb ρ ps Ss Ss S L H hf W ∧ ps[j]? = some (p1, p2) ∧ Ss[j]? = some Sj ∧ L.es.length ≤ N ∧ (∀ s ∈ Ss, s.pend.length ≤ N) ∧ Sj.Gd ∧ Sj.pend.length ≤ N ∧ N ≤ 16000000) := ⟨h, hp, hS, hN, hP, (h.pX j _ Sj hp hS).2, hP Sj (List.mem_of_getElem? hS), hN2⟩
  clear h hN hP hp hS hn0 hpp hPk hrg hgl hnp hj hN2
  have HB : Hid (I64 b) := hb
  have HC : Hid (I64 c) := hc
  clear hb hc
  obtain ⟨C2, hC2⟩ : ∃ x, x = IntKind.i64.wrap (c + 1) := ⟨_, rfl⟩
  have hI2 : I64 C2 := by rw [hC2, IntKind.wrap_i64]; unfold I64; omega
  have HC2 : Hid (I64 C2) := hI2
  clear hI2
  have HDd : Hid (I64 d) := hd
  have hC4 : IntKind.i64.wrap (c + 1) = C2 := hC2.symm
  clear hd hC2
  go_enter Try.func4, Try.ntmps4
  have hWbl : wb < W.heap.size := HWb.out
  have hWb2 : ¬ wb = W.heap.size := by omega
  have kw0 := (HLV.out W (Up.refl W)).1
  go_wp2_with fail
  have u1 : Up W (W.alloc (Obj.cells (opC 12 pp b c d ls) 31)) := (Up.refl W).alloc _
  have k1 : (W.alloc (Obj.cells (opC 12 pp b c d ls) 31)).heap[W.heap.size]? = some (.cells (opC 12 pp b c d ls) 31 (0, 0)) := heap_alloc_new W _
  have hob9 : W.heap.size < (W.alloc (Obj.cells (opC 12 pp b c d ls) 31)).heap.size := by simp
  clear kw0 hWb2 hWbl
  obtain ⟨ob, hob⟩ : ∃ ob, ob = W.heap.size := ⟨_, rfl⟩
  rw [← hob] at k1 hob9 ⊢
  generalize World.alloc W _ = W1 at u1 k1 hob9 ⊢
  have hob2 : W.heap.size ≤ ob := by omega
  clear hob
  have HO1 : Hid (∀ w, Up W1 w → w.cell? ⟨ob, 1, none⟩ = some (.int .i64 pp) ∧ w.cell? ⟨ob, 2, none⟩ = some (.int .i64 b) ∧ w.cell? ⟨ob, 3, none⟩ = some (.int .i64 c) ∧ w.cell? ⟨ob, 4, none⟩ = some (.int .i64 d) ∧ w.cell? ⟨ob, 5, none⟩ = some ls ∧ w.cell? ⟨ob, 0, none⟩ = some (.int .i64 12)) := fun w u => ⟨cell_up u (heap_cell k1 rfl), cell_up u (heap_cell k1 rfl), cell_up u (heap_cell k1 rfl), cell_up u (heap_cell k1 rfl), cell_up u (heap_cell k1 rfl), cell_up u (heap_cell k1 rfl)⟩
  have HSs : Hid (∀ w, Up W1 w → w.cell? ⟨wb, 0, none⟩ = some (.slice (some ⟨gl, 0, none⟩) np lc) ∧ w.cell? ⟨ob, 1, none⟩ = some (.int .i64 pp) ∧ w.rangeAt gl (j * 2) [.pointer (some ⟨p1, 0, none⟩), .pointer (some ⟨p2, 0, none⟩)]) := fun w u => ⟨(HLV.out w (u1.trans u)).1, (HO1.out w u).1, (HLV.out w (u1.trans u)).2⟩
  have HU1 : Hid (Up W W1 ∧ W.heap.size ≤ ob ∧ ob < W1.heap.size) := ⟨u1, hob2, hob9⟩
  clear u1 k1 hob9 hob2
  refine wp_region_held_drew (S := fun w => w.cell? ⟨wb, 0, none⟩ = some (.slice (some ⟨gl, 0, none⟩) np lc) ∧ w.cell? ⟨ob, 1, none⟩ = some (.int .i64 pp) ∧ w.rangeAt gl (j * 2) [.pointer (some ⟨p1, 0, none⟩), .pointer (some ⟨p2, 0, none⟩)]) (by kernel_rfl) (HSs.out _ (Up.refl W1).drew) (fun hHeld => ?_)
  have ud : Up W1 W1.drew := (Up.refl W1).drew
  generalize World.drew W1 = wd at ud hHeld ⊢
  refine wpAnyH_take (i := 0) (v := ?_) (by simp only [List.getElem?_toArray, List.getElem?_cons_zero]; rfl) (by kernel_rfl) (by kernel_rfl) (by kernel_rfl) (by intro _ _ _ h; exact h) (Or.inl ⟨by rfl, ?_⟩) (by assumption) ?_
  rotate_left
  · (intro w hSw; (try dsimp only at hSw); go_simp <;> with_reducible rfl)
  try simp only [Act.put, List.setIfInBounds_toArray, List.set_cons_zero, List.set_cons_succ]
  refine wpAnyH_take (i := 1) (v := ?_) (by simp only [List.getElem?_toArray, List.getElem?_cons_succ, List.getElem?_cons_zero]; rfl) (by kernel_rfl) (by kernel_rfl) (by kernel_rfl) (by intro _ _ _ h; exact h) (Or.inl ⟨by rfl, ?_⟩) (by assumption) ?_
  rotate_left
  · (intro w hSw; (try dsimp only at hSw); go_simp <;> with_reducible rfl)
  try simp only [Act.put, List.setIfInBounds_toArray, List.set_cons_zero, List.set_cons_succ]
  refine wpAnyH_take (i := 2) (v := ?_) (by simp only [List.getElem?_toArray, List.getElem?_cons_succ, List.getElem?_cons_zero]; rfl) (by kernel_rfl) (by kernel_rfl) (by kernel_rfl) (by intro _ _ _ h; exact h) (Or.inl ⟨by rfl, ?_⟩) (by assumption) ?_
  rotate_left
  · (intro w hSw; (try dsimp only at hSw); go_simp <;> with_reducible rfl)
  try simp only [Act.put, List.setIfInBounds_toArray, List.set_cons_zero, List.set_cons_succ]
  refine wpAnyH_take (i := 3) (v := ?_) (by simp only [List.getElem?_toArray, List.getElem?_cons_succ, List.getElem?_cons_zero]; rfl) (by kernel_rfl) (by kernel_rfl) (by kernel_rfl) (by intro _ _ _ h; exact h) (Or.inl ⟨by rfl, ?_⟩) (by assumption) ?_
  rotate_left
  · (intro w hSw; (try dsimp only at hSw); go_simp <;> with_reducible rfl)
  try simp only [Act.put, List.setIfInBounds_toArray, List.set_cons_zero, List.set_cons_succ]
  refine wpAnyH_take (i := 4) (v := ?_) (by simp only [List.getElem?_toArray, List.getElem?_cons_succ, List.getElem?_cons_zero]; rfl) (by kernel_rfl) (by kernel_rfl) (by kernel_rfl) (by intro _ _ _ h; exact h) (Or.inl ⟨by rfl, ?_⟩) (by assumption) ?_
  rotate_left
  · (intro w hSw; (try dsimp only at hSw); go_simp <;> with_reducible rfl)
  try simp only [Act.put, List.setIfInBounds_toArray, List.set_cons_zero, List.set_cons_succ]
  refine wpAnyH_take (i := 5) (v := ?_) (by simp only [List.getElem?_toArray, List.getElem?_cons_succ, List.getElem?_cons_zero]; rfl) (by kernel_rfl) (by kernel_rfl) (by kernel_rfl) (by intro _ _ _ h; exact h) (Or.inl ⟨by rfl, ?_⟩) (by assumption) ?_
  rotate_left
  · (intro w hSw; (try dsimp only at hSw); go_simp <;> with_reducible rfl)
  try simp only [Act.put, List.setIfInBounds_toArray, List.set_cons_zero, List.set_cons_succ]
  refine wpAnyH_take (i := 6) (v := ?_) (by simp only [List.getElem?_toArray, List.getElem?_cons_succ, List.getElem?_cons_zero]; rfl) (by kernel_rfl) (by kernel_rfl) (by kernel_rfl) (by intro _ _ _ h; exact h) (Or.inl ⟨by rfl, ?_⟩) (by assumption) ?_
  rotate_left
  · (intro w hSw; (try dsimp only at hSw); go_simp <;> with_reducible rfl)
  try simp only [Act.put, List.setIfInBounds_toArray, List.set_cons_zero, List.set_cons_succ]
  refine wpAnyH_take (i := 7) (v := ?_) (by simp only [List.getElem?_toArray, List.getElem?_cons_succ, List.getElem?_cons_zero]; rfl) (by kernel_rfl) (by kernel_rfl) (by kernel_rfl) (by intro _ _ _ h; exact h) (Or.inl ⟨by rfl, ?_⟩) (by assumption) ?_
  rotate_left
  · (intro w hSw; (try dsimp only at hSw); go_simp <;> with_reducible rfl)
  try simp only [Act.put, List.setIfInBounds_toArray, List.set_cons_zero, List.set_cons_succ]
  refine wpAnyH_take (i := 8) (v := ?_) (by simp only [List.getElem?_toArray, List.getElem?_cons_succ, List.getElem?_cons_zero]; rfl) (by kernel_rfl) (by kernel_rfl) (by kernel_rfl) (by intro _ _ _ h; exact h) (Or.inl ⟨by rfl, ?_⟩) (by assumption) ?_
  rotate_left
  · (intro w hSw; (try dsimp only at hSw); go_simp <;> with_reducible rfl)
  try simp only [Act.put, List.setIfInBounds_toArray, List.set_cons_zero, List.set_cons_succ]
  refine wpAnyH_take (i := 9) (v := ?_) (by simp only [List.getElem?_toArray, List.getElem?_cons_succ, List.getElem?_cons_zero]; rfl) (by kernel_rfl) (by kernel_rfl) (by kernel_rfl) (by intro _ _ _ h; exact h) (Or.inl ⟨by rfl, ?_⟩) (by assumption) ?_
  rotate_left
  · (intro w hSw; (try dsimp only at hSw); go_simp <;> with_reducible rfl)
  try simp only [Act.put, List.setIfInBounds_toArray, List.set_cons_zero, List.set_cons_succ]
  refine wpAnyH_take (i := 10) (v := ?_) (by simp only [List.getElem?_toArray, List.getElem?_cons_succ, List.getElem?_cons_zero]; rfl) (by kernel_rfl) (by kernel_rfl) (by kernel_rfl) (by intro _ _ _ h; exact h) (Or.inl ⟨by rfl, ?_⟩) (by assumption) ?_
  rotate_left
  · (intro w hSw; (try dsimp only at hSw); go_simp <;> with_reducible rfl)
  try simp only [Act.put, List.setIfInBounds_toArray, List.set_cons_zero, List.set_cons_succ]
  refine wpAnyH_ready (rs := [11, 14]) (by kernel_rfl) (by simp) ?_
  refine AllReadyH.cons (by simp only [List.getElem?_toArray, List.getElem?_cons_succ, List.getElem?_cons_zero]; rfl) (fun KK hK => ?_) (AllReadyH.cons (by simp only [List.getElem?_toArray, List.getElem?_cons_succ, List.getElem?_cons_zero]; rfl) (fun KK hK => ?_) AllReadyH.nil)
  · skip
    go_simp
    refine (HPk.out _).mono ?_
    rintro e w' ⟨rfl, hw⟩
    obtain rfl := hw.symm
    clear hw
    refine hK.out _ _ (HSs.out _ ud) (fun hHeld => ?_)
    clear hK KK
    try simp only [Act.put, List.setIfInBounds_toArray, List.set_cons_zero, List.set_cons_succ]
    refine wpAnyH_take (i := 12) (v := ?_) (by simp only [List.getElem?_toArray, List.getElem?_cons_succ, List.getElem?_cons_zero]; rfl) (by kernel_rfl) (by kernel_rfl) (by kernel_rfl) (by intro _ _ _ h; exact h) (Or.inl ⟨by rfl, ?_⟩) (by assumption) ?_
    rotate_left
    · (intro w hSw; (try dsimp only at hSw); go_simp <;> with_reducible rfl)
    try simp only [Act.put, List.setIfInBounds_toArray, List.set_cons_zero, List.set_cons_succ]
    refine wpAnyH_take (i := 13) (v := .agg [.pointer (some ⟨p1, 0, none⟩), .pointer (some ⟨p2, 0, none⟩)].toArray) (by simp only [List.getElem?_toArray, List.getElem?_cons_succ, List.getElem?_cons_zero]; rfl) (by kernel_rfl) (by kernel_rfl) (by kernel_rfl) (by intro _ _ _ h; exact h) (yieldsIf_load_mid (by rfl) 47 _ rfl gl (j * 2) rfl [.pointer (some ⟨p1, 0, none⟩), .pointer (some ⟨p2, 0, none⟩)] _ (fun w hw => hw.2.2) Try.underlying47 rfl (by kernel_rfl)) (by assumption) ?_
    simp only [Act.put, List.setIfInBounds_toArray, List.set_cons_zero, List.set_cons_succ]
    refine wpAnyH_ready (rs := [14]) (by kernel_rfl) (by simp) ?_
    refine AllReadyH.cons (by simp only [List.getElem?_toArray, List.getElem?_cons_succ, List.getElem?_cons_zero]; rfl) (fun KK hK => ?_) AllReadyH.nil
    go_simp
    have ub : Up W1 (wd.alloc (Obj.cells #[.pointer none, .pointer none] 47)) := ud.alloc _
    have kb9 : (wd.alloc (Obj.cells #[.pointer none, .pointer none] 47)).heap[wd.heap.size]? = some (.cells #[.pointer none, .pointer none] 47 (0, 0)) := heap_alloc_new wd _
    refine hK.out _ _ (HSs.out _ ub) (fun hHeld => ?_)
    clear hK KK
    try simp only [Act.put, List.setIfInBounds_toArray, List.set_cons_zero, List.set_cons_succ]
    have HNB9 : W1.heap.size ≤ wd.heap.size := ud.size
    refine wpAnyH_ready (rs := [15]) (by kernel_rfl) (by simp) ?_
    refine AllReadyH.cons (by simp only [List.getElem?_toArray, List.getElem?_cons_succ, List.getElem?_cons_zero]; rfl) (fun KK hK => ?_) AllReadyH.nil
    rw [if_pos (by rfl)]
    refine wp_store_mid 47 _ _ rfl (wd.heap.size) 0 #[.pointer (some ⟨p1, 0, none⟩), .pointer (some ⟨p2, 0, none⟩)] rfl rfl (there2 kb9) (by kernel_rfl) (by simp [Value.oneCell']) ?_
    have uz : Up W1 ((wd.alloc (Obj.cells #[.pointer none, .pointer none] 47)).setCells (wd.heap.size) 0 [.pointer (some ⟨p1, 0, none⟩), .pointer (some ⟨p2, 0, none⟩)]) := Fr.up (ub) HNB9 (fr_setCells _ _ 0 _)
    have kz : ((wd.alloc (Obj.cells #[.pointer none, .pointer none] 47)).setCells (wd.heap.size) 0 [.pointer (some ⟨p1, 0, none⟩), .pointer (some ⟨p2, 0, none⟩)]).heap[wd.heap.size]? = some (.cells #[.pointer (some ⟨p1, 0, none⟩), .pointer (some ⟨p2, 0, none⟩)] 47 (0, 0)) := heap_setCells_same _ _ _ 0 _ (wd.alloc (Obj.cells #[.pointer none, .pointer none] 47)) kb9
    refine hK.out _ _ (HSs.out _ uz) (fun hHeld => ?_)
    clear hK KK
    try simp only [Act.put, List.setIfInBounds_toArray, List.set_cons_zero, List.set_cons_succ]
    refine wpAnyH_done (by kernel_rfl) ?_ _
    obtain ⟨pb, hpb⟩ : ∃ pb, pb = wd.heap.size := ⟨_, rfl⟩
    rw [← hpb] at kz uz HNB9 ⊢
    clear hHeld hpb
    generalize World.setCells _ pb 0 _ = w4 at uz kz ⊢
    have u4 : Up W w4 := HU1.out.1.trans uz
    obtain ⟨ko1, ko2, ko3, ko4, ko5, ko0⟩ := HO1.out w4 uz
    have kp0 := heap_cell kz (o := 0) (v := .pointer (some ⟨p1, 0, none⟩)) rfl
    have kp1 := heap_cell kz (o := 1) (v := .pointer (some ⟨p2, 0, none⟩)) rfl
    have H4 : Hid (Wd W0 wb (ext ρ W.heap.size 6) ps Ss Ss S L H hf w4) := HH.out.1.upR u4 6
    have HM4 : Hid (Mv (fun r => r = 6) ρ (ext ρ W.heap.size 6) W w4) := Mv.ofUp ρ u4 6
    have HK4 : Hid (ext ρ W.heap.size 6 ob = 6 ∧ ext ρ W.heap.size 6 pb = 6 ∧ ob < w4.heap.size ∧ pb < w4.heap.size) := ⟨ext_ge HU1.out.2.1, ext_ge (Nat.le_trans HU1.out.1.size HNB9), World.block_lt_of_cell? _ _ ko2, World.block_lt_of_cell? _ _ kp0⟩
    generalize ext ρ W.heap.size 6 = ρ4 at H4 HM4 HK4
    clear u4 uz kz HNB9 ko1 ko5
    go_wp2_with fail
    refine Calls.mono (filled_any (v := c) (more := 0) (m := 512) HC.out (by omega) (by omega)) ?_
    rintro e w5 ⟨dg, dc, rfl, q1, q2, q3, q4, u5⟩
    have LD : Hid (Yst 9 (ext ρ4 w4.heap.size 9) w5 dg 512 dc (fillF c)) := ⟨q2, ext_ge q1, q3, q4⟩
    have H5 : Hid (Wd W0 wb (ext ρ4 w4.heap.size 9) ps Ss Ss S L H hf w5) := H4.out.upR u5 9
    have HM5 : Hid (Mv (fun r => r = 6) ρ (ext ρ4 w4.heap.size 9) W w5) := HM4.out.trans (Mv.ofUp ρ4 u5 9)
    have HK5 : Hid ((ext ρ4 w4.heap.size 9) ob = 6 ∧ (ext ρ4 w4.heap.size 9) pb = 6 ∧ ob < w5.heap.size ∧ pb < w5.heap.size) := (Mv.ofUp (R := fun _ => True) ρ4 u5 9).two HK4.out trivial
    replace kp0 := cell_up u5 kp0
    replace kp1 := cell_up u5 kp1
    replace ko2 := cell_up u5 ko2
    replace ko3 := cell_up u5 ko3
    replace ko4 := cell_up u5 ko4
    generalize ext ρ4 w4.heap.size 9 = ρ5 at H5 HM5 HK5 LD
    clear H4 HM4 HK4 u5 q1 q2 q3 q4 ko0
    go_wp2_with fail
    refine Calls.mono (filled_any (v := C2) (more := 0) (m := 512) HC2.out (by omega) (by omega)) ?_
    rintro e w6 ⟨tg, tc, rfl, q1, q2, q3, q4, u6⟩
    have LT : Hid (Yst 9 (ext ρ5 w5.heap.size 9) w6 tg 512 tc (fillF C2)) := ⟨q2, ext_ge q1, q3, q4⟩
    have H6 : Hid (Wd W0 wb (ext ρ5 w5.heap.size 9) ps Ss Ss S L H hf w6) := H5.out.upR u6 9
    have HM6 : Hid (Mv (fun r => r = 6) ρ (ext ρ5 w5.heap.size 9) W w6) := HM5.out.trans (Mv.ofUp ρ5 u6 9)
    have HK6 : Hid ((ext ρ5 w5.heap.size 9) ob = 6 ∧ (ext ρ5 w5.heap.size 9) pb = 6 ∧ ob < w6.heap.size ∧ pb < w6.heap.size) := (Mv.ofUp (R := fun _ => True) ρ5 u6 9).two HK5.out trivial
    replace kp0 := cell_up u6 kp0
    replace kp1 := cell_up u6 kp1
    replace ko2 := cell_up u6 ko2
    replace ko4 := cell_up u6 ko4
    replace LD : Hid _ := LD.out.mv (R := fun _ => True) (Mv.ofUp ρ5 u6 9) trivial
    generalize ext ρ5 w5.heap.size 9 = ρ6 at H6 HM6 HK6 LD LT
    clear H5 HM5 HK5 u6 q1 q2 q3 q4 ko3
    have hdc := LD.out.c1
    have hdm : dc ≤ 9223372036854775807 := by have := LD.out.c2; unfold maxLen at this; omega
    have htc := LT.out.c1
    have htm : tc ≤ 9223372036854775807 := by have := LT.out.c2; unfold maxLen at this; omega
    go_wp2_with fail
    refine Calls.mono (lentB_any (LD.out.by'.byts LD.out.c1 LD.out.c2 (fillF_b c)) (by omega)) ?_
    rintro e w7 ⟨l, rfl, q1, q2, u7⟩
    have HL : Hid (Yst 5 (ext ρ6 w6.heap.size 5) w7 l 520 520 (lentF 512 (fillF c))) := ⟨q2, ext_ge q1, Nat.le_refl _, by unfold maxLen; omega⟩
    have H7 : Hid (Wd W0 wb (ext ρ6 w6.heap.size 5) ps Ss Ss S L H hf w7) := H6.out.upR u7 5
    have HM7 : Hid (Mv (fun r => r = 6) ρ (ext ρ6 w6.heap.size 5) W w7) := HM6.out.trans (Mv.ofUp ρ6 u7 5)
    have HK7 : Hid ((ext ρ6 w6.heap.size 5) ob = 6 ∧ (ext ρ6 w6.heap.size 5) pb = 6 ∧ ob < w7.heap.size ∧ pb < w7.heap.size) := (Mv.ofUp (R := fun _ => True) ρ6 u7 5).two HK6.out trivial
    replace kp0 := cell_up u7 kp0
    replace kp1 := cell_up u7 kp1
    replace ko2 := cell_up u7 ko2
    replace ko4 := cell_up u7 ko4
    replace LD : Hid _ := LD.out.mv (R := fun _ => True) (Mv.ofUp ρ6 u7 5) trivial
    replace LT : Hid _ := LT.out.mv (R := fun _ => True) (Mv.ofUp ρ6 u7 5) trivial
    generalize ext ρ6 w6.heap.size 5 = ρ7 at H7 HM7 HK7 LD LT HL
    clear H6 HM6 HK6 u7 q1 q2
    go_upto_region 41 with fail
    refine wp_region_held_drew (S := fun w => (w.cell? ⟨pb, 0, none⟩ = some (.pointer (some ⟨p1, 0, none⟩))) ∧ (w.cell? ⟨pb, 1, none⟩ = some (.pointer (some ⟨p2, 0, none⟩))) ∧ (w.cell? ⟨ob, 2, none⟩ = some (.int .i64 b)) ∧ (w.cell? ⟨ob, 4, none⟩ = some (.int .i64 d))) (by kernel_rfl) ⟨cell_up ((Up.refl w7).drew) kp0, cell_up ((Up.refl w7).drew) kp1, cell_up ((Up.refl w7).drew) ko2, cell_up ((Up.refl w7).drew) ko4⟩ (fun hHeld => ?_)
    have u8 : Up w7 w7.drew := (Up.refl w7).drew
    generalize hwd8 : World.drew w7 = w8 at u8 hHeld ⊢
    clear hwd8
    have H8 : Hid (Wd W0 wb (ext ρ7 w7.heap.size 5) ps Ss Ss S L H hf w8) := H7.out.upR u8 5
    have HM8 : Hid (Mv (fun r => r = 6) ρ (ext ρ7 w7.heap.size 5) W w8) := HM7.out.trans (Mv.ofUp ρ7 u8 5)
    have HK8 : Hid ((ext ρ7 w7.heap.size 5) ob = 6 ∧ (ext ρ7 w7.heap.size 5) pb = 6 ∧ ob < w8.heap.size ∧ pb < w8.heap.size) := (Mv.ofUp (R := fun _ => True) ρ7 u8 5).two HK7.out trivial
    replace kp0 := cell_up u8 kp0
    replace kp1 := cell_up u8 kp1
    replace ko2 := cell_up u8 ko2
    replace ko4 := cell_up u8 ko4
    replace LD : Hid _ := LD.out.mv (R := fun _ => True) (Mv.ofUp ρ7 u8 5) trivial
    replace LT : Hid _ := LT.out.mv (R := fun _ => True) (Mv.ofUp ρ7 u8 5) trivial
    replace HL : Hid _ := HL.out.mv (R := fun _ => True) (Mv.ofUp ρ7 u8 5) trivial
    generalize ext ρ7 w7.heap.size 5 = ρ8 at H8 HM8 HK8 LD LT HL
    clear H7 HM7 HK7 u8
    refine wpAnyH_take (i := 0) (v := ?_) (by simp only [List.getElem?_toArray, List.getElem?_cons_zero]; rfl) (by kernel_rfl) (by kernel_rfl) (by kernel_rfl) (by intro _ _ _ h; exact h) (Or.inl ⟨by rfl, ?_⟩) (by assumption) ?_
    rotate_left
    · (intro w hSw; (try dsimp only at hSw); obtain ⟨hS0, hS1, hS2, hS3⟩ := hSw; go_simp <;> with_reducible rfl)
    try simp only [Act.put, List.setIfInBounds_toArray, List.set_cons_zero, List.set_cons_succ]
    refine wpAnyH_take (i := 1) (v := ?_) (by simp only [List.getElem?_toArray, List.getElem?_cons_succ, List.getElem?_cons_zero]; rfl) (by kernel_rfl) (by kernel_rfl) (by kernel_rfl) (by intro _ _ _ h; exact h) (Or.inl ⟨by rfl, ?_⟩) (by assumption) ?_
    rotate_left
    · (intro w hSw; (try dsimp only at hSw); obtain ⟨hS0, hS1, hS2, hS3⟩ := hSw; go_simp <;> with_reducible rfl)
    try simp only [Act.put, List.setIfInBounds_toArray, List.set_cons_zero, List.set_cons_succ]
    refine wpAnyH_take (i := 2) (v := ?_) (by simp only [List.getElem?_toArray, List.getElem?_cons_succ, List.getElem?_cons_zero]; rfl) (by kernel_rfl) (by kernel_rfl) (by kernel_rfl) (by intro _ _ _ h; exact h) (Or.inl ⟨by rfl, ?_⟩) (by assumption) ?_
    rotate_left
    · (intro w hSw; (try dsimp only at hSw); obtain ⟨hS0, hS1, hS2, hS3⟩ := hSw; go_simp <;> with_reducible rfl)
    try simp only [Act.put, List.setIfInBounds_toArray, List.set_cons_zero, List.set_cons_succ]
    refine wpAnyH_take (i := 3) (v := ?_) (by simp only [List.getElem?_toArray, List.getElem?_cons_succ, List.getElem?_cons_zero]; rfl) (by kernel_rfl) (by kernel_rfl) (by kernel_rfl) (by intro _ _ _ h; exact h) (Or.inl ⟨by rfl, ?_⟩) (by assumption) ?_
    rotate_left
    · (intro w hSw; (try dsimp only at hSw); obtain ⟨hS0, hS1, hS2, hS3⟩ := hSw; go_simp <;> with_reducible rfl)
    try simp only [Act.put, List.setIfInBounds_toArray, List.set_cons_zero, List.set_cons_succ]
    refine wpAnyH_take (i := 4) (v := ?_) (by simp only [List.getElem?_toArray, List.getElem?_cons_succ, List.getElem?_cons_zero]; rfl) (by kernel_rfl) (by kernel_rfl) (by kernel_rfl) (by intro _ _ _ h; exact h) (Or.inl ⟨by rfl, ?_⟩) (by assumption) ?_
    rotate_left
    · (intro w hSw; (try dsimp only at hSw); obtain ⟨hS0, hS1, hS2, hS3⟩ := hSw; go_simp <;> with_reducible rfl)
    try simp only [Act.put, List.setIfInBounds_toArray, List.set_cons_zero, List.set_cons_succ]
    refine wpAnyH_take (i := 5) (v := ?_) (by simp only [List.getElem?_toArray, List.getElem?_cons_succ, List.getElem?_cons_zero]; rfl) (by kernel_rfl) (by kernel_rfl) (by kernel_rfl) (by intro _ _ _ h; exact h) (Or.inl ⟨by rfl, ?_⟩) (by assumption) ?_
    rotate_left
    · (intro w hSw; (try dsimp only at hSw); obtain ⟨hS0, hS1, hS2, hS3⟩ := hSw; go_simp <;> with_reducible rfl)
    try simp only [Act.put, List.setIfInBounds_toArray, List.set_cons_zero, List.set_cons_succ]
    refine wpAnyH_ready (rs := [6]) (by kernel_rfl) (by simp) ?_
    refine AllReadyH.cons (by simp only [List.getElem?_toArray, List.getElem?_cons_succ, List.getElem?_cons_zero]; rfl) (fun KK hK => ?_) AllReadyH.nil
    go_simp
    have HWX : Hid _ := (writeX (aa := some ⟨l, 0, none⟩) (n := 512) (c := 520) (fd := fillF c) (H8.out.pX j _ Sj HH.out.2.1 HH.out.2.2.1).1 HB.out (by
      obtain ⟨cs, ty, q1, q2, q3⟩ := HL.out.by'.row
      have hl : By w8 l 512 (fillF c) := ⟨cs, ty, q1, by omega, fun k hk => by rw [q3 k (by omega)]; unfold lentF; rw [if_pos hk]⟩
      exact hl.lk (by omega) (by unfold maxLen; omega) ⟨HL.out.by'.lt, by rw [HL.out.ro]; omega⟩) (by have := HH.out.2.2.2.2.2.2; omega))
    refine Calls.mono HWX.out ?_
    clear HWX
    rintro e w9 ⟨rfl, s9, f9⟩
    have m9 := Mv.ofFK f9
    have H9 : Hid (Wd W0 wb (ext ρ8 w8.heap.size (10 + 2 * j)) ps (Ss.set j (Sj.wS b 512 (fillF c))) Ss S L H hf w9) := H8.out.chX HH.out.2.1 f9 s9 (HH.out.2.2.2.2.2.1.wS b 512 (fillF_b c))
    have HM9 : Hid (Mv (fun r => r = 6) ρ (ext ρ8 w8.heap.size (10 + 2 * j)) W w9) := HM8.out.trans (m9.mono (fun r hr => by omega))
    have HK9 : Hid ((ext ρ8 w8.heap.size (10 + 2 * j)) ob = 6 ∧ (ext ρ8 w8.heap.size (10 + 2 * j)) pb = 6 ∧ ob < w9.heap.size ∧ pb < w9.heap.size) := m9.two HK8.out (by omega)
    replace kp0 := m9.cell (by rw [HK8.out.2.1]; omega) kp0
    replace kp1 := m9.cell (by rw [HK8.out.2.1]; omega) kp1
    replace ko2 := m9.cell (by rw [HK8.out.1]; omega) ko2
    replace ko4 := m9.cell (by rw [HK8.out.1]; omega) ko4
    replace LD : Hid _ := LD.out.mv m9 (by omega)
    replace LT : Hid _ := LT.out.mv m9 (by omega)
    replace HL : Hid _ := HL.out.mv m9 (by omega)
    generalize ext ρ8 w8.heap.size (10 + 2 * j) = ρ9 at H9 HM9 HK9 LD LT HL
    clear H8 HM8 HK8 s9 f9 m9
    refine hK.out _ _ ⟨kp0, kp1, ko2, ko4⟩ (fun hHeld => ?_)
    clear hK KK
    try simp only [Act.put, List.setIfInBounds_toArray, List.set_cons_zero, List.set_cons_succ]
    refine wpAnyH_take (i := 7) (v := ?_) (by simp only [List.getElem?_toArray, List.getElem?_cons_succ, List.getElem?_cons_zero]; rfl) (by kernel_rfl) (by kernel_rfl) (by kernel_rfl) (by intro _ _ _ h; exact h) (Or.inl ⟨by rfl, ?_⟩) (by assumption) ?_
    rotate_left
    · (intro w hSw; (try dsimp only at hSw); obtain ⟨hS0, hS1, hS2, hS3⟩ := hSw; go_simp <;> with_reducible rfl)
    try simp only [Act.put, List.setIfInBounds_toArray, List.set_cons_zero, List.set_cons_succ]
    refine wpAnyH_done (by kernel_rfl) ?_ _
    clear hHeld
    go_wp2_with fail
    have HWY : Hid _ := (writeY (fd := fillF c) (H9.out.pY j _ Sj HH.out.2.1 HH.out.2.2.1).1 HB.out (LD.out.by'.lk LD.out.c1 LD.out.c2 ⟨LD.out.by'.lt, by rw [LD.out.ro]; omega⟩) (fillF_b c) (by have := HH.out.2.2.2.2.2.2; omega))
    refine Calls.mono HWY.out ?_
    clear HWY
    rintro e w10 ⟨rfl, s10, f10⟩
    have m10 := Mv.ofFK f10
    have H10 : Hid (Wd W0 wb (ext ρ9 w9.heap.size (11 + 2 * j)) ps (Ss.set j (Sj.wS b 512 (fillF c))) (Ss.set j (Sj.wS b 512 (fillF c))) S L H hf w10) := H9.out.chY HH.out.2.1 f10 s10 (HH.out.2.2.2.2.2.1.wS b 512 (fillF_b c))
    have HM10 : Hid (Mv (fun r => r = 6) ρ (ext ρ9 w9.heap.size (11 + 2 * j)) W w10) := HM9.out.trans (m10.mono (fun r hr => by omega))
    have HK10 : Hid ((ext ρ9 w9.heap.size (11 + 2 * j)) ob = 6 ∧ (ext ρ9 w9.heap.size (11 + 2 * j)) pb = 6 ∧ ob < w10.heap.size ∧ pb < w10.heap.size) := m10.two HK9.out (by omega)
    replace kp0 := m10.cell (by rw [HK9.out.2.1]; omega) kp0
    replace kp1 := m10.cell (by rw [HK9.out.2.1]; omega) kp1
    replace ko2 := m10.cell (by rw [HK9.out.1]; omega) ko2
    replace ko4 := m10.cell (by rw [HK9.out.1]; omega) ko4
    replace LD : Hid _ := LD.out.mv m10 (by omega)
    replace LT : Hid _ := LT.out.mv m10 (by omega)
    replace HL : Hid _ := HL.out.mv m10 (by omega)
    generalize ext ρ9 w9.heap.size (11 + 2 * j) = ρ10 at H10 HM10 HK10 LD LT HL
    clear H9 HM9 HK9 s10 f10 m10
    have HS1 : Hid ((Ss.set j (Sj.wS b 512 (fillF c)))[j]? = some (Sj.wS b 512 (fillF c)) ∧ (Sj.wS b 512 (fillF c)).Gd ∧ (Sj.wS b 512 (fillF c)).pend.length ≤ N + 1) := ⟨List.getElem?_set_self (List.getElem?_eq_some_iff.1 HH.out.2.2.1).1, HH.out.2.2.2.2.2.1.wS b 512 (fillF_b c), by have := Sto.wS_len Sj b 512 (fillF c); have := HH.out.2.2.2.2.2.2; omega⟩
    generalize Sj.wE b 512 = E1 at *
    have hE1 : (E1 == E1) = true := beq_self_eq_true _
    generalize hSk : Sj.wS b 512 (fillF c) = Sk at H10 HS1
    clear hSk
    have HCp : Hid (∀ ty, (Builtin.copy_ #[25, 25] ty #[.slice (some ⟨l, 0, none⟩) 520 520, .slice (some ⟨tg, 0, none⟩) 512 tc]).run Try.prog w10 = .ok (goInt (512 : Nat)) (w10.setCells l 0 (byL (fillF C2) 512))) := fun ty => copy_run HL.out.by' (by omega) (by decide) (fun j hj => by rw [Addr.add_lit, Nat.zero_add]; exact LT.out.by'.cell j hj) 520 tc ty
    have f11 := fr_setCells l (byL (fillF C2) 512) 0 w10
    have q11 : By (w10.setCells l 0 (byL (fillF C2) 512)) l 520 (lentF 512 (fillF C2)) := (HL.out.by'.setCells 0 512 (fillF C2) (by omega)).congr (fun k hk => by
      unfold putF lentF
      by_cases h5 : k < 512
      · rw [if_pos ⟨Nat.zero_le _, by omega⟩, if_pos h5, Nat.sub_zero]
      · rw [if_neg (by omega), if_neg h5, if_neg h5])
    obtain ⟨w11, hw11⟩ : ∃ x, x = w10.setCells l 0 (byL (fillF C2) 512) := ⟨_, rfl⟩
    rw [← hw11] at f11 q11 HCp
    generalize hSs1 : Ss.set j Sk = Ss1 at H10 HS1
    have HLn : Hid (Ss1 = Ss.set j Sk) := hSs1.symm
    clear hSs1
    have m11 := Mv.ofFr f11 HL.out.ro 5
    have H11 : Hid (Wd W0 wb (ext ρ10 w10.heap.size 5) ps Ss1 Ss1 S L H hf w11) := H10.out.mv m11 (by omega) (fun r hr => by omega)
    have HM11 : Hid (Mv (fun r => r = 6) ρ (ext ρ10 w10.heap.size 5) W w11) := HM10.out.trans (m11.mono (fun r hr => by omega))
    have HK11 : Hid ((ext ρ10 w10.heap.size 5) ob = 6 ∧ (ext ρ10 w10.heap.size 5) pb = 6 ∧ ob < w11.heap.size ∧ pb < w11.heap.size) := m11.two HK10.out (by omega)
    replace LD : Hid _ := LD.out.mv m11 (by omega)
    replace LT : Hid _ := LT.out.mv m11 (by omega)
    have HLq : Hid (Yst 5 (ext ρ10 w10.heap.size 5) w11 l 520 520 (lentF 512 (fillF C2))) := ⟨q11, by rw [ext_lt HL.out.by'.lt]; exact HL.out.ro, Nat.le_refl _, by unfold maxLen; omega⟩
    replace kp0 := m11.cell (by rw [HK10.out.2.1]; omega) kp0
    replace kp1 := m11.cell (by rw [HK10.out.2.1]; omega) kp1
    replace ko4 := m11.cell (by rw [HK10.out.1]; omega) ko4
    clear HL
    have HL : Hid _ := HLq.out
    clear HLq q11
    generalize (ext ρ10 w10.heap.size 5) = ρ11 at H11 HM11 HK11 LD LT HL
    clear H10 HM10 HK10 f11 m11 ko2 hw11
    go_upto_region 44 with (refine wpList_copy_runI _ rfl _ _ 25 25 rfl _ _ rfl rfl (HCp.out _) ?_)
    clear HCp
    go_upto_region 44 with fail
    refine wp_region_held_drew (S := fun w => (w.cell? ⟨pb, 0, none⟩ = some (.pointer (some ⟨p1, 0, none⟩))) ∧ (w.cell? ⟨pb, 1, none⟩ = some (.pointer (some ⟨p2, 0, none⟩))) ∧ (w.cell? ⟨ob, 4, none⟩ = some (.int .i64 d))) (by kernel_rfl) ⟨cell_up ((Up.refl w11).drew) kp0, cell_up ((Up.refl w11).drew) kp1, cell_up ((Up.refl w11).drew) ko4⟩ (fun hHeld => ?_)
    have u12 : Up w11 w11.drew := (Up.refl w11).drew
    generalize hwd12 : World.drew w11 = w12 at u12 hHeld ⊢
    clear hwd12
    have H12 : Hid (Wd W0 wb (ext ρ11 w11.heap.size 5) ps Ss1 Ss1 S L H hf w12) := H11.out.upR u12 5
    have HM12 : Hid (Mv (fun r => r = 6) ρ (ext ρ11 w11.heap.size 5) W w12) := HM11.out.trans (Mv.ofUp ρ11 u12 5)
    have HK12 : Hid ((ext ρ11 w11.heap.size 5) ob = 6 ∧ (ext ρ11 w11.heap.size 5) pb = 6 ∧ ob < w12.heap.size ∧ pb < w12.heap.size) := (Mv.ofUp (R := fun _ => True) ρ11 u12 5).two HK11.out trivial
    replace kp0 := cell_up u12 kp0
    replace kp1 := cell_up u12 kp1
    replace ko4 := cell_up u12 ko4
    replace LD : Hid _ := LD.out.mv (R := fun _ => True) (Mv.ofUp ρ11 u12 5) trivial
    replace LT : Hid _ := LT.out.mv (R := fun _ => True) (Mv.ofUp ρ11 u12 5) trivial
    replace HL : Hid _ := HL.out.mv (R := fun _ => True) (Mv.ofUp ρ11 u12 5) trivial
    generalize ext ρ11 w11.heap.size 5 = ρ12 at H12 HM12 HK12 LD LT HL
    clear H11 HM11 HK11 u12
    refine wpAnyH_take (i := 0) (v := ?_) (by simp only [List.getElem?_toArray, List.getElem?_cons_zero]; rfl) (by kernel_rfl) (by kernel_rfl) (by kernel_rfl) (by intro _ _ _ h; exact h) (Or.inl ⟨by rfl, ?_⟩) (by assumption) ?_
    rotate_left
    · (intro w hSw; (try dsimp only at hSw); obtain ⟨hS0, hS1, hS2⟩ := hSw; go_simp <;> with_reducible rfl)
    try simp only [Act.put, List.setIfInBounds_toArray, List.set_cons_zero, List.set_cons_succ]
    refine wpAnyH_take (i := 1) (v := ?_) (by simp only [List.getElem?_toArray, List.getElem?_cons_succ, List.getElem?_cons_zero]; rfl) (by kernel_rfl) (by kernel_rfl) (by kernel_rfl) (by intro _ _ _ h; exact h) (Or.inl ⟨by rfl, ?_⟩) (by assumption) ?_
    rotate_left
    · (intro w hSw; (try dsimp only at hSw); obtain ⟨hS0, hS1, hS2⟩ := hSw; go_simp <;> with_reducible rfl)
    try simp only [Act.put, List.setIfInBounds_toArray, List.set_cons_zero, List.set_cons_succ]
    refine wpAnyH_take (i := 2) (v := ?_) (by simp only [List.getElem?_toArray, List.getElem?_cons_succ, List.getElem?_cons_zero]; rfl) (by kernel_rfl) (by kernel_rfl) (by kernel_rfl) (by intro _ _ _ h; exact h) (Or.inl ⟨by rfl, ?_⟩) (by assumption) ?_
    rotate_left
    · (intro w hSw; (try dsimp only at hSw); obtain ⟨hS0, hS1, hS2⟩ := hSw; go_simp <;> with_reducible rfl)
    try simp only [Act.put, List.setIfInBounds_toArray, List.set_cons_zero, List.set_cons_succ]
    refine wpAnyH_take (i := 3) (v := ?_) (by simp only [List.getElem?_toArray, List.getElem?_cons_succ, List.getElem?_cons_zero]; rfl) (by kernel_rfl) (by kernel_rfl) (by kernel_rfl) (by intro _ _ _ h; exact h) (Or.inl ⟨by rfl, ?_⟩) (by assumption) ?_
    rotate_left
    · (intro w hSw; (try dsimp only at hSw); obtain ⟨hS0, hS1, hS2⟩ := hSw; go_simp <;> with_reducible rfl)
    try simp only [Act.put, List.setIfInBounds_toArray, List.set_cons_zero, List.set_cons_succ]
    refine wpAnyH_take (i := 4) (v := ?_) (by simp only [List.getElem?_toArray, List.getElem?_cons_succ, List.getElem?_cons_zero]; rfl) (by kernel_rfl) (by kernel_rfl) (by kernel_rfl) (by intro _ _ _ h; exact h) (Or.inl ⟨by rfl, ?_⟩) (by assumption) ?_
    rotate_left
    · (intro w hSw; (try dsimp only at hSw); obtain ⟨hS0, hS1, hS2⟩ := hSw; go_simp <;> with_reducible rfl)
    try simp only [Act.put, List.setIfInBounds_toArray, List.set_cons_zero, List.set_cons_succ]
    refine wpAnyH_take (i := 5) (v := ?_) (by simp only [List.getElem?_toArray, List.getElem?_cons_succ, List.getElem?_cons_zero]; rfl) (by kernel_rfl) (by kernel_rfl) (by kernel_rfl) (by intro _ _ _ h; exact h) (Or.inl ⟨by rfl, ?_⟩) (by assumption) ?_
    rotate_left
    · (intro w hSw; (try dsimp only at hSw); obtain ⟨hS0, hS1, hS2⟩ := hSw; go_simp <;> with_reducible rfl)
    try simp only [Act.put, List.setIfInBounds_toArray, List.set_cons_zero, List.set_cons_succ]
    refine wpAnyH_ready (rs := [6]) (by kernel_rfl) (by simp) ?_
    refine AllReadyH.cons (by simp only [List.getElem?_toArray, List.getElem?_cons_succ, List.getElem?_cons_zero]; rfl) (fun KK hK => ?_) AllReadyH.nil
    go_simp
    have HWX : Hid _ := (writeX (aa := some ⟨l, 0, none⟩) (n := 512) (c := 520) (fd := fillF C2) (H12.out.pX j _ Sk HH.out.2.1 HS1.out.1).1 HDd.out (by
      obtain ⟨cs, ty, q1, q2, q3⟩ := HL.out.by'.row
      have hl : By w12 l 512 (fillF C2) := ⟨cs, ty, q1, by omega, fun k hk => by rw [q3 k (by omega)]; unfold lentF; rw [if_pos hk]⟩
      exact hl.lk (by omega) (by unfold maxLen; omega) ⟨HL.out.by'.lt, by rw [HL.out.ro]; omega⟩) (by have := HS1.out.2.2; have := HH.out.2.2.2.2.2.2; omega))
    refine Calls.mono HWX.out ?_
    clear HWX
    rintro e w13 ⟨rfl, s13, f13⟩
    have m13 := Mv.ofFK f13
    have H13 : Hid (Wd W0 wb (ext ρ12 w12.heap.size (10 + 2 * j)) ps (Ss1.set j (Sk.wS d 512 (fillF C2))) Ss1 S L H hf w13) := H12.out.chX HH.out.2.1 f13 s13 (HS1.out.2.1.wS d 512 (fillF_b C2))
    have HM13 : Hid (Mv (fun r => r = 6) ρ (ext ρ12 w12.heap.size (10 + 2 * j)) W w13) := HM12.out.trans (m13.mono (fun r hr => by omega))
    have HK13 : Hid ((ext ρ12 w12.heap.size (10 + 2 * j)) ob = 6 ∧ (ext ρ12 w12.heap.size (10 + 2 * j)) pb = 6 ∧ ob < w13.heap.size ∧ pb < w13.heap.size) := m13.two HK12.out (by omega)
    replace kp0 := m13.cell (by rw [HK12.out.2.1]; omega) kp0
    replace kp1 := m13.cell (by rw [HK12.out.2.1]; omega) kp1
    replace ko4 := m13.cell (by rw [HK12.out.1]; omega) ko4
    replace LD : Hid _ := LD.out.mv m13 (by omega)
    replace LT : Hid _ := LT.out.mv m13 (by omega)
    replace HL : Hid _ := HL.out.mv m13 (by omega)
    generalize ext ρ12 w12.heap.size (10 + 2 * j) = ρ13 at H13 HM13 HK13 LD LT HL
    clear H12 HM12 HK12 s13 f13 m13
    refine hK.out _ _ ⟨kp0, kp1, ko4⟩ (fun hHeld => ?_)
    clear hK KK
    try simp only [Act.put, List.setIfInBounds_toArray, List.set_cons_zero, List.set_cons_succ]
    refine wpAnyH_take (i := 7) (v := ?_) (by simp only [List.getElem?_toArray, List.getElem?_cons_succ, List.getElem?_cons_zero]; rfl) (by kernel_rfl) (by kernel_rfl) (by kernel_rfl) (by intro _ _ _ h; exact h) (Or.inl ⟨by rfl, ?_⟩) (by assumption) ?_
    rotate_left
    · (intro w hSw; (try dsimp only at hSw); obtain ⟨hS0, hS1, hS2⟩ := hSw; go_simp <;> with_reducible rfl)
    try simp only [Act.put, List.setIfInBounds_toArray, List.set_cons_zero, List.set_cons_succ]
    refine wpAnyH_done (by kernel_rfl) ?_ _
    clear hHeld
    go_wp2_with fail
    have HWY : Hid _ := (writeY (fd := fillF C2) (H13.out.pY j _ Sk HH.out.2.1 HS1.out.1).1 HDd.out (LT.out.by'.lk LT.out.c1 LT.out.c2 ⟨LT.out.by'.lt, by rw [LT.out.ro]; omega⟩) (fillF_b C2) (by have := HS1.out.2.2; have := HH.out.2.2.2.2.2.2; omega))
    refine Calls.mono HWY.out ?_
    clear HWY
    rintro e w14 ⟨rfl, s14, f14⟩
    have m14 := Mv.ofFK f14
    have H14 : Hid (Wd W0 wb (ext ρ13 w13.heap.size (11 + 2 * j)) ps (Ss1.set j (Sk.wS d 512 (fillF C2))) (Ss1.set j (Sk.wS d 512 (fillF C2))) S L H hf w14) := H13.out.chY HH.out.2.1 f14 s14 (HS1.out.2.1.wS d 512 (fillF_b C2))
    have HM14 : Hid (Mv (fun r => r = 6) ρ (ext ρ13 w13.heap.size (11 + 2 * j)) W w14) := HM13.out.trans (m14.mono (fun r hr => by omega))
    have HK14 : Hid ((ext ρ13 w13.heap.size (11 + 2 * j)) ob = 6 ∧ (ext ρ13 w13.heap.size (11 + 2 * j)) pb = 6 ∧ ob < w14.heap.size ∧ pb < w14.heap.size) := m14.two HK13.out (by omega)
    replace kp0 := m14.cell (by rw [HK13.out.2.1]; omega) kp0
    replace kp1 := m14.cell (by rw [HK13.out.2.1]; omega) kp1
    replace ko4 := m14.cell (by rw [HK13.out.1]; omega) ko4
    replace LD : Hid _ := LD.out.mv m14 (by omega)
    replace LT : Hid _ := LT.out.mv m14 (by omega)
    replace HL : Hid _ := HL.out.mv m14 (by omega)
    generalize ext ρ13 w13.heap.size (11 + 2 * j) = ρ14 at H14 HM14 HK14 LD LT HL
    clear H13 HM13 HK13 s14 f14 m14
    generalize Sk.wE d 512 = E2
    have hE2 : (E2 == E2) = true := beq_self_eq_true _
    clear kp0 kp1 ko4
    go_wp2_with fail
    refine Calls.mono (backB_any (LT.out.by'.byts LT.out.c1 LT.out.c2 (fillF_b C2)) (by omega) HL.out.by') ?_
    rintro e w15 ⟨rfl, f15⟩
    have m15 := Mv.ofFr f15 HL.out.ro 5
    have H15 : Hid (Wd W0 wb (ext ρ14 w14.heap.size 5) ps (Ss1.set j (Sk.wS d 512 (fillF C2))) (Ss1.set j (Sk.wS d 512 (fillF C2))) S L H hf w15) := H14.out.mv m15 (by omega) (fun r hr => by omega)
    have HM15 : Hid (Mv (fun r => r = 6) ρ (ext ρ14 w14.heap.size 5) W w15) := HM14.out.trans (m15.mono (fun r hr => by omega))
    have HK15 : Hid ((ext ρ14 w14.heap.size 5) ob = 6 ∧ (ext ρ14 w14.heap.size 5) pb = 6 ∧ ob < w15.heap.size ∧ pb < w15.heap.size) := m15.two HK14.out (by omega)
    generalize ext ρ14 w14.heap.size 5 = ρ15 at H15 HM15 HK15 
    clear H14 HM14 HK14 f15 m15 LD LT HL
    go_wp2_with fail
    go_ret
    exact ⟨by first | rfl | (simp; done), ρ15, ⟨_, _, _, _, _, _, H15.out, by have := HH.out.2.2.2.1; omega, fun s hs => by
      rcases List.mem_or_eq_of_mem_set hs with e | e
      · rw [HLn.out] at e
        rcases List.mem_or_eq_of_mem_set e with e2 | e2
        · have := HH.out.2.2.2.2.1 s e2; omega
        · rw [e2]; have := HS1.out.2.2; omega
      · rw [e]; have := Sto.wS_len Sk d 512 (fillF C2); have := HS1.out.2.2; omega⟩, HM15.out⟩
  · skip
    go_simp
    have ub : Up W1 (wd.alloc (Obj.cells #[.pointer none, .pointer none] 47)) := ud.alloc _
    have kb9 : (wd.alloc (Obj.cells #[.pointer none, .pointer none] 47)).heap[wd.heap.size]? = some (.cells #[.pointer none, .pointer none] 47 (0, 0)) := heap_alloc_new wd _
    refine hK.out _ _ (HSs.out _ ub) (fun hHeld => ?_)
    clear hK KK
    try simp only [Act.put, List.setIfInBounds_toArray, List.set_cons_zero, List.set_cons_succ]
    have HNB9 : W1.heap.size ≤ wd.heap.size := ud.size
    refine wpAnyH_ready (rs := [11]) (by kernel_rfl) (by simp) ?_
    refine AllReadyH.cons (by simp only [List.getElem?_toArray, List.getElem?_cons_succ, List.getElem?_cons_zero]; rfl) (fun KK hK => ?_) AllReadyH.nil
    go_simp
    refine (HPk.out _).mono ?_
    rintro e w' ⟨rfl, hw⟩
    obtain rfl := hw.symm
    clear hw
    refine hK.out _ _ (HSs.out _ ub) (fun hHeld => ?_)
    clear hK KK
    try simp only [Act.put, List.setIfInBounds_toArray, List.set_cons_zero, List.set_cons_succ]
    refine wpAnyH_take (i := 12) (v := ?_) (by simp only [List.getElem?_toArray, List.getElem?_cons_succ, List.getElem?_cons_zero]; rfl) (by kernel_rfl) (by kernel_rfl) (by kernel_rfl) (by intro _ _ _ h; exact h) (Or.inl ⟨by rfl, ?_⟩) (by assumption) ?_
    rotate_left
    · (intro w hSw; (try dsimp only at hSw); go_simp <;> with_reducible rfl)
    try simp only [Act.put, List.setIfInBounds_toArray, List.set_cons_zero, List.set_cons_succ]
    refine wpAnyH_take (i := 13) (v := .agg [.pointer (some ⟨p1, 0, none⟩), .pointer (some ⟨p2, 0, none⟩)].toArray) (by simp only [List.getElem?_toArray, List.getElem?_cons_succ, List.getElem?_cons_zero]; rfl) (by kernel_rfl) (by kernel_rfl) (by kernel_rfl) (by intro _ _ _ h; exact h) (yieldsIf_load_mid (by rfl) 47 _ rfl gl (j * 2) rfl [.pointer (some ⟨p1, 0, none⟩), .pointer (some ⟨p2, 0, none⟩)] _ (fun w hw => hw.2.2) Try.underlying47 rfl (by kernel_rfl)) (by assumption) ?_
    simp only [Act.put, List.setIfInBounds_toArray, List.set_cons_zero, List.set_cons_succ]
    refine wpAnyH_ready (rs := [15]) (by kernel_rfl) (by simp) ?_
    refine AllReadyH.cons (by simp only [List.getElem?_toArray, List.getElem?_cons_succ, List.getElem?_cons_zero]; rfl) (fun KK hK => ?_) AllReadyH.nil
    rw [if_pos (by rfl)]
    refine wp_store_mid 47 _ _ rfl (wd.heap.size) 0 #[.pointer (some ⟨p1, 0, none⟩), .pointer (some ⟨p2, 0, none⟩)] rfl rfl (there2 kb9) (by kernel_rfl) (by simp [Value.oneCell']) ?_
    have uz : Up W1 ((wd.alloc (Obj.cells #[.pointer none, .pointer none] 47)).setCells (wd.heap.size) 0 [.pointer (some ⟨p1, 0, none⟩), .pointer (some ⟨p2, 0, none⟩)]) := Fr.up (ub) HNB9 (fr_setCells _ _ 0 _)
    have kz : ((wd.alloc (Obj.cells #[.pointer none, .pointer none] 47)).setCells (wd.heap.size) 0 [.pointer (some ⟨p1, 0, none⟩), .pointer (some ⟨p2, 0, none⟩)]).heap[wd.heap.size]? = some (.cells #[.pointer (some ⟨p1, 0, none⟩), .pointer (some ⟨p2, 0, none⟩)] 47 (0, 0)) := heap_setCells_same _ _ _ 0 _ (wd.alloc (Obj.cells #[.pointer none, .pointer none] 47)) kb9
    refine hK.out _ _ (HSs.out _ uz) (fun hHeld => ?_)
    clear hK KK
    try simp only [Act.put, List.setIfInBounds_toArray, List.set_cons_zero, List.set_cons_succ]
    refine wpAnyH_done (by kernel_rfl) ?_ _
    obtain ⟨pb, hpb⟩ : ∃ pb, pb = wd.heap.size := ⟨_, rfl⟩
    rw [← hpb] at kz uz HNB9 ⊢
    clear hHeld hpb
    generalize World.setCells _ pb 0 _ = w4 at uz kz ⊢
    have u4 : Up W w4 := HU1.out.1.trans uz
    obtain ⟨ko1, ko2, ko3, ko4, ko5, ko0⟩ := HO1.out w4 uz
    have kp0 := heap_cell kz (o := 0) (v := .pointer (some ⟨p1, 0, none⟩)) rfl
    have kp1 := heap_cell kz (o := 1) (v := .pointer (some ⟨p2, 0, none⟩)) rfl
    have H4 : Hid (Wd W0 wb (ext ρ W.heap.size 6) ps Ss Ss S L H hf w4) := HH.out.1.upR u4 6
    have HM4 : Hid (Mv (fun r => r = 6) ρ (ext ρ W.heap.size 6) W w4) := Mv.ofUp ρ u4 6
    have HK4 : Hid (ext ρ W.heap.size 6 ob = 6 ∧ ext ρ W.heap.size 6 pb = 6 ∧ ob < w4.heap.size ∧ pb < w4.heap.size) := ⟨ext_ge HU1.out.2.1, ext_ge (Nat.le_trans HU1.out.1.size HNB9), World.block_lt_of_cell? _ _ ko2, World.block_lt_of_cell? _ _ kp0⟩
    generalize ext ρ W.heap.size 6 = ρ4 at H4 HM4 HK4
    clear u4 uz kz HNB9 ko1 ko5
    go_wp2_with fail
    refine Calls.mono (filled_any (v := c) (more := 0) (m := 512) HC.out (by omega) (by omega)) ?_
    rintro e w5 ⟨dg, dc, rfl, q1, q2, q3, q4, u5⟩
    have LD : Hid (Yst 9 (ext ρ4 w4.heap.size 9) w5 dg 512 dc (fillF c)) := ⟨q2, ext_ge q1, q3, q4⟩
    have H5 : Hid (Wd W0 wb (ext ρ4 w4.heap.size 9) ps Ss Ss S L H hf w5) := H4.out.upR u5 9
    have HM5 : Hid (Mv (fun r => r = 6) ρ (ext ρ4 w4.heap.size 9) W w5) := HM4.out.trans (Mv.ofUp ρ4 u5 9)
    have HK5 : Hid ((ext ρ4 w4.heap.size 9) ob = 6 ∧ (ext ρ4 w4.heap.size 9) pb = 6 ∧ ob < w5.heap.size ∧ pb < w5.heap.size) := (Mv.ofUp (R := fun _ => True) ρ4 u5 9).two HK4.out trivial
    replace kp0 := cell_up u5 kp0
    replace kp1 := cell_up u5 kp1
    replace ko2 := cell_up u5 ko2
    replace ko3 := cell_up u5 ko3
    replace ko4 := cell_up u5 ko4
    generalize ext ρ4 w4.heap.size 9 = ρ5 at H5 HM5 HK5 LD
    clear H4 HM4 HK4 u5 q1 q2 q3 q4 ko0
    go_wp2_with fail
    refine Calls.mono (filled_any (v := C2) (more := 0) (m := 512) HC2.out (by omega) (by omega)) ?_
    rintro e w6 ⟨tg, tc, rfl, q1, q2, q3, q4, u6⟩
    have LT : Hid (Yst 9 (ext ρ5 w5.heap.size 9) w6 tg 512 tc (fillF C2)) := ⟨q2, ext_ge q1, q3, q4⟩
    have H6 : Hid (Wd W0 wb (ext ρ5 w5.heap.size 9) ps Ss Ss S L H hf w6) := H5.out.upR u6 9
    have HM6 : Hid (Mv (fun r => r = 6) ρ (ext ρ5 w5.heap.size 9) W w6) := HM5.out.trans (Mv.ofUp ρ5 u6 9)
    have HK6 : Hid ((ext ρ5 w5.heap.size 9) ob = 6 ∧ (ext ρ5 w5.heap.size 9) pb = 6 ∧ ob < w6.heap.size ∧ pb < w6.heap.size) := (Mv.ofUp (R := fun _ => True) ρ5 u6 9).two HK5.out trivial
    replace kp0 := cell_up u6 kp0
    replace kp1 := cell_up u6 kp1
    replace ko2 := cell_up u6 ko2
    replace ko4 := cell_up u6 ko4
    replace LD : Hid _ := LD.out.mv (R := fun _ => True) (Mv.ofUp ρ5 u6 9) trivial
    generalize ext ρ5 w5.heap.size 9 = ρ6 at H6 HM6 HK6 LD LT
    clear H5 HM5 HK5 u6 q1 q2 q3 q4 ko3
    have hdc := LD.out.c1
    have hdm : dc ≤ 9223372036854775807 := by have := LD.out.c2; unfold maxLen at this; omega
    have htc := LT.out.c1
    have htm : tc ≤ 9223372036854775807 := by have := LT.out.c2; unfold maxLen at this; omega
    go_wp2_with fail
    refine Calls.mono (lentB_any (LD.out.by'.byts LD.out.c1 LD.out.c2 (fillF_b c)) (by omega)) ?_
    rintro e w7 ⟨l, rfl, q1, q2, u7⟩
    have HL : Hid (Yst 5 (ext ρ6 w6.heap.size 5) w7 l 520 520 (lentF 512 (fillF c))) := ⟨q2, ext_ge q1, Nat.le_refl _, by unfold maxLen; omega⟩
    have H7 : Hid (Wd W0 wb (ext ρ6 w6.heap.size 5) ps Ss Ss S L H hf w7) := H6.out.upR u7 5
    have HM7 : Hid (Mv (fun r => r = 6) ρ (ext ρ6 w6.heap.size 5) W w7) := HM6.out.trans (Mv.ofUp ρ6 u7 5)
    have HK7 : Hid ((ext ρ6 w6.heap.size 5) ob = 6 ∧ (ext ρ6 w6.heap.size 5) pb = 6 ∧ ob < w7.heap.size ∧ pb < w7.heap.size) := (Mv.ofUp (R := fun _ => True) ρ6 u7 5).two HK6.out trivial
    replace kp0 := cell_up u7 kp0
    replace kp1 := cell_up u7 kp1
    replace ko2 := cell_up u7 ko2
    replace ko4 := cell_up u7 ko4
    replace LD : Hid _ := LD.out.mv (R := fun _ => True) (Mv.ofUp ρ6 u7 5) trivial
    replace LT : Hid _ := LT.out.mv (R := fun _ => True) (Mv.ofUp ρ6 u7 5) trivial
    generalize ext ρ6 w6.heap.size 5 = ρ7 at H7 HM7 HK7 LD LT HL
    clear H6 HM6 HK6 u7 q1 q2
    go_upto_region 41 with fail
    refine wp_region_held_drew (S := fun w => (w.cell? ⟨pb, 0, none⟩ = some (.pointer (some ⟨p1, 0, none⟩))) ∧ (w.cell? ⟨pb, 1, none⟩ = some (.pointer (some ⟨p2, 0, none⟩))) ∧ (w.cell? ⟨ob, 2, none⟩ = some (.int .i64 b)) ∧ (w.cell? ⟨ob, 4, none⟩ = some (.int .i64 d))) (by kernel_rfl) ⟨cell_up ((Up.refl w7).drew) kp0, cell_up ((Up.refl w7).drew) kp1, cell_up ((Up.refl w7).drew) ko2, cell_up ((Up.refl w7).drew) ko4⟩ (fun hHeld => ?_)
    have u8 : Up w7 w7.drew := (Up.refl w7).drew
    generalize hwd8 : World.drew w7 = w8 at u8 hHeld ⊢
    clear hwd8
    have H8 : Hid (Wd W0 wb (ext ρ7 w7.heap.size 5) ps Ss Ss S L H hf w8) := H7.out.upR u8 5
    have HM8 : Hid (Mv (fun r => r = 6) ρ (ext ρ7 w7.heap.size 5) W w8) := HM7.out.trans (Mv.ofUp ρ7 u8 5)
    have HK8 : Hid ((ext ρ7 w7.heap.size 5) ob = 6 ∧ (ext ρ7 w7.heap.size 5) pb = 6 ∧ ob < w8.heap.size ∧ pb < w8.heap.size) := (Mv.ofUp (R := fun _ => True) ρ7 u8 5).two HK7.out trivial
    replace kp0 := cell_up u8 kp0
    replace kp1 := cell_up u8 kp1
    replace ko2 := cell_up u8 ko2
    replace ko4 := cell_up u8 ko4
    replace LD : Hid _ := LD.out.mv (R := fun _ => True) (Mv.ofUp ρ7 u8 5) trivial
    replace LT : Hid _ := LT.out.mv (R := fun _ => True) (Mv.ofUp ρ7 u8 5) trivial
    replace HL : Hid _ := HL.out.mv (R := fun _ => True) (Mv.ofUp ρ7 u8 5) trivial
    generalize ext ρ7 w7.heap.size 5 = ρ8 at H8 HM8 HK8 LD LT HL
    clear H7 HM7 HK7 u8
    refine wpAnyH_take (i := 0) (v := ?_) (by simp only [List.getElem?_toArray, List.getElem?_cons_zero]; rfl) (by kernel_rfl) (by kernel_rfl) (by kernel_rfl) (by intro _ _ _ h; exact h) (Or.inl ⟨by rfl, ?_⟩) (by assumption) ?_
    rotate_left
    · (intro w hSw; (try dsimp only at hSw); obtain ⟨hS0, hS1, hS2, hS3⟩ := hSw; go_simp <;> with_reducible rfl)
    try simp only [Act.put, List.setIfInBounds_toArray, List.set_cons_zero, List.set_cons_succ]
    refine wpAnyH_take (i := 1) (v := ?_) (by simp only [List.getElem?_toArray, List.getElem?_cons_succ, List.getElem?_cons_zero]; rfl) (by kernel_rfl) (by kernel_rfl) (by kernel_rfl) (by intro _ _ _ h; exact h) (Or.inl ⟨by rfl, ?_⟩) (by assumption) ?_
    rotate_left
    · (intro w hSw; (try dsimp only at hSw); obtain ⟨hS0, hS1, hS2, hS3⟩ := hSw; go_simp <;> with_reducible rfl)
    try simp only [Act.put, List.setIfInBounds_toArray, List.set_cons_zero, List.set_cons_succ]
    refine wpAnyH_take (i := 2) (v := ?_) (by simp only [List.getElem?_toArray, List.getElem?_cons_succ, List.getElem?_cons_zero]; rfl) (by kernel_rfl) (by kernel_rfl) (by kernel_rfl) (by intro _ _ _ h; exact h) (Or.inl ⟨by rfl, ?_⟩) (by assumption) ?_
    rotate_left
    · (intro w hSw; (try dsimp only at hSw); obtain ⟨hS0, hS1, hS2, hS3⟩ := hSw; go_simp <;> with_reducible rfl)
    try simp only [Act.put, List.setIfInBounds_toArray, List.set_cons_zero, List.set_cons_succ]
    refine wpAnyH_take (i := 3) (v := ?_) (by simp only [List.getElem?_toArray, List.getElem?_cons_succ, List.getElem?_cons_zero]; rfl) (by kernel_rfl) (by kernel_rfl) (by kernel_rfl) (by intro _ _ _ h; exact h) (Or.inl ⟨by rfl, ?_⟩) (by assumption) ?_
    rotate_left
    · (intro w hSw; (try dsimp only at hSw); obtain ⟨hS0, hS1, hS2, hS3⟩ := hSw; go_simp <;> with_reducible rfl)
    try simp only [Act.put, List.setIfInBounds_toArray, List.set_cons_zero, List.set_cons_succ]
    refine wpAnyH_take (i := 4) (v := ?_) (by simp only [List.getElem?_toArray, List.getElem?_cons_succ, List.getElem?_cons_zero]; rfl) (by kernel_rfl) (by kernel_rfl) (by kernel_rfl) (by intro _ _ _ h; exact h) (Or.inl ⟨by rfl, ?_⟩) (by assumption) ?_
    rotate_left
    · (intro w hSw; (try dsimp only at hSw); obtain ⟨hS0, hS1, hS2, hS3⟩ := hSw; go_simp <;> with_reducible rfl)
    try simp only [Act.put, List.setIfInBounds_toArray, List.set_cons_zero, List.set_cons_succ]
    refine wpAnyH_take (i := 5) (v := ?_) (by simp only [List.getElem?_toArray, List.getElem?_cons_succ, List.getElem?_cons_zero]; rfl) (by kernel_rfl) (by kernel_rfl) (by kernel_rfl) (by intro _ _ _ h; exact h) (Or.inl ⟨by rfl, ?_⟩) (by assumption) ?_
    rotate_left
    · (intro w hSw; (try dsimp only at hSw); obtain ⟨hS0, hS1, hS2, hS3⟩ := hSw; go_simp <;> with_reducible rfl)
    try simp only [Act.put, List.setIfInBounds_toArray, List.set_cons_zero, List.set_cons_succ]
    refine wpAnyH_ready (rs := [6]) (by kernel_rfl) (by simp) ?_
    refine AllReadyH.cons (by simp only [List.getElem?_toArray, List.getElem?_cons_succ, List.getElem?_cons_zero]; rfl) (fun KK hK => ?_) AllReadyH.nil
    go_simp
    have HWX : Hid _ := (writeX (aa := some ⟨l, 0, none⟩) (n := 512) (c := 520) (fd := fillF c) (H8.out.pX j _ Sj HH.out.2.1 HH.out.2.2.1).1 HB.out (by
      obtain ⟨cs, ty, q1, q2, q3⟩ := HL.out.by'.row
      have hl : By w8 l 512 (fillF c) := ⟨cs, ty, q1, by omega, fun k hk => by rw [q3 k (by omega)]; unfold lentF; rw [if_pos hk]⟩
      exact hl.lk (by omega) (by unfold maxLen; omega) ⟨HL.out.by'.lt, by rw [HL.out.ro]; omega⟩) (by have := HH.out.2.2.2.2.2.2; omega))
    refine Calls.mono HWX.out ?_
    clear HWX
    rintro e w9 ⟨rfl, s9, f9⟩
    have m9 := Mv.ofFK f9
    have H9 : Hid (Wd W0 wb (ext ρ8 w8.heap.size (10 + 2 * j)) ps (Ss.set j (Sj.wS b 512 (fillF c))) Ss S L H hf w9) := H8.out.chX HH.out.2.1 f9 s9 (HH.out.2.2.2.2.2.1.wS b 512 (fillF_b c))
    have HM9 : Hid (Mv (fun r => r = 6) ρ (ext ρ8 w8.heap.size (10 + 2 * j)) W w9) := HM8.out.trans (m9.mono (fun r hr => by omega))
    have HK9 : Hid ((ext ρ8 w8.heap.size (10 + 2 * j)) ob = 6 ∧ (ext ρ8 w8.heap.size (10 + 2 * j)) pb = 6 ∧ ob < w9.heap.size ∧ pb < w9.heap.size) := m9.two HK8.out (by omega)
    replace kp0 := m9.cell (by rw [HK8.out.2.1]; omega) kp0
    replace kp1 := m9.cell (by rw [HK8.out.2.1]; omega) kp1
    replace ko2 := m9.cell (by rw [HK8.out.1]; omega) ko2
    replace ko4 := m9.cell (by rw [HK8.out.1]; omega) ko4
    replace LD : Hid _ := LD.out.mv m9 (by omega)
    replace LT : Hid _ := LT.out.mv m9 (by omega)
    replace HL : Hid _ := HL.out.mv m9 (by omega)
    generalize ext ρ8 w8.heap.size (10 + 2 * j) = ρ9 at H9 HM9 HK9 LD LT HL
    clear H8 HM8 HK8 s9 f9 m9
    refine hK.out _ _ ⟨kp0, kp1, ko2, ko4⟩ (fun hHeld => ?_)
    clear hK KK
    try simp only [Act.put, List.setIfInBounds_toArray, List.set_cons_zero, List.set_cons_succ]
    refine wpAnyH_take (i := 7) (v := ?_) (by simp only [List.getElem?_toArray, List.getElem?_cons_succ, List.getElem?_cons_zero]; rfl) (by kernel_rfl) (by kernel_rfl) (by kernel_rfl) (by intro _ _ _ h; exact h) (Or.inl ⟨by rfl, ?_⟩) (by assumption) ?_
    rotate_left
    · (intro w hSw; (try dsimp only at hSw); obtain ⟨hS0, hS1, hS2, hS3⟩ := hSw; go_simp <;> with_reducible rfl)
    try simp only [Act.put, List.setIfInBounds_toArray, List.set_cons_zero, List.set_cons_succ]
    refine wpAnyH_done (by kernel_rfl) ?_ _
    clear hHeld
    go_wp2_with fail
    have HWY : Hid _ := (writeY (fd := fillF c) (H9.out.pY j _ Sj HH.out.2.1 HH.out.2.2.1).1 HB.out (LD.out.by'.lk LD.out.c1 LD.out.c2 ⟨LD.out.by'.lt, by rw [LD.out.ro]; omega⟩) (fillF_b c) (by have := HH.out.2.2.2.2.2.2; omega))
    refine Calls.mono HWY.out ?_
    clear HWY
    rintro e w10 ⟨rfl, s10, f10⟩
    have m10 := Mv.ofFK f10
    have H10 : Hid (Wd W0 wb (ext ρ9 w9.heap.size (11 + 2 * j)) ps (Ss.set j (Sj.wS b 512 (fillF c))) (Ss.set j (Sj.wS b 512 (fillF c))) S L H hf w10) := H9.out.chY HH.out.2.1 f10 s10 (HH.out.2.2.2.2.2.1.wS b 512 (fillF_b c))
    have HM10 : Hid (Mv (fun r => r = 6) ρ (ext ρ9 w9.heap.size (11 + 2 * j)) W w10) := HM9.out.trans (m10.mono (fun r hr => by omega))
    have HK10 : Hid ((ext ρ9 w9.heap.size (11 + 2 * j)) ob = 6 ∧ (ext ρ9 w9.heap.size (11 + 2 * j)) pb = 6 ∧ ob < w10.heap.size ∧ pb < w10.heap.size) := m10.two HK9.out (by omega)
    replace kp0 := m10.cell (by rw [HK9.out.2.1]; omega) kp0
    replace kp1 := m10.cell (by rw [HK9.out.2.1]; omega) kp1
    replace ko2 := m10.cell (by rw [HK9.out.1]; omega) ko2
    replace ko4 := m10.cell (by rw [HK9.out.1]; omega) ko4
    replace LD : Hid _ := LD.out.mv m10 (by omega)
    replace LT : Hid _ := LT.out.mv m10 (by omega)
    replace HL : Hid _ := HL.out.mv m10 (by omega)
    generalize ext ρ9 w9.heap.size (11 + 2 * j) = ρ10 at H10 HM10 HK10 LD LT HL
    clear H9 HM9 HK9 s10 f10 m10
    have HS1 : Hid ((Ss.set j (Sj.wS b 512 (fillF c)))[j]? = some (Sj.wS b 512 (fillF c)) ∧ (Sj.wS b 512 (fillF c)).Gd ∧ (Sj.wS b 512 (fillF c)).pend.length ≤ N + 1) := ⟨List.getElem?_set_self (List.getElem?_eq_some_iff.1 HH.out.2.2.1).1, HH.out.2.2.2.2.2.1.wS b 512 (fillF_b c), by have := Sto.wS_len Sj b 512 (fillF c); have := HH.out.2.2.2.2.2.2; omega⟩
    generalize Sj.wE b 512 = E1 at *
    have hE1 : (E1 == E1) = true := beq_self_eq_true _
    generalize hSk : Sj.wS b 512 (fillF c) = Sk at H10 HS1
    clear hSk
    have HCp : Hid (∀ ty, (Builtin.copy_ #[25, 25] ty #[.slice (some ⟨l, 0, none⟩) 520 520, .slice (some ⟨tg, 0, none⟩) 512 tc]).run Try.prog w10 = .ok (goInt (512 : Nat)) (w10.setCells l 0 (byL (fillF C2) 512))) := fun ty => copy_run HL.out.by' (by omega) (by decide) (fun j hj => by rw [Addr.add_lit, Nat.zero_add]; exact LT.out.by'.cell j hj) 520 tc ty
    have f11 := fr_setCells l (byL (fillF C2) 512) 0 w10
    have q11 : By (w10.setCells l 0 (byL (fillF C2) 512)) l 520 (lentF 512 (fillF C2)) := (HL.out.by'.setCells 0 512 (fillF C2) (by omega)).congr (fun k hk => by
      unfold putF lentF
      by_cases h5 : k < 512
      · rw [if_pos ⟨Nat.zero_le _, by omega⟩, if_pos h5, Nat.sub_zero]
      · rw [if_neg (by omega), if_neg h5, if_neg h5])
    obtain ⟨w11, hw11⟩ : ∃ x, x = w10.setCells l 0 (byL (fillF C2) 512) := ⟨_, rfl⟩
    rw [← hw11] at f11 q11 HCp
    generalize hSs1 : Ss.set j Sk = Ss1 at H10 HS1
    have HLn : Hid (Ss1 = Ss.set j Sk) := hSs1.symm
    clear hSs1
    have m11 := Mv.ofFr f11 HL.out.ro 5
    have H11 : Hid (Wd W0 wb (ext ρ10 w10.heap.size 5) ps Ss1 Ss1 S L H hf w11) := H10.out.mv m11 (by omega) (fun r hr => by omega)
    have HM11 : Hid (Mv (fun r => r = 6) ρ (ext ρ10 w10.heap.size 5) W w11) := HM10.out.trans (m11.mono (fun r hr => by omega))
    have HK11 : Hid ((ext ρ10 w10.heap.size 5) ob = 6 ∧ (ext ρ10 w10.heap.size 5) pb = 6 ∧ ob < w11.heap.size ∧ pb < w11.heap.size) := m11.two HK10.out (by omega)
    replace LD : Hid _ := LD.out.mv m11 (by omega)
    replace LT : Hid _ := LT.out.mv m11 (by omega)
    have HLq : Hid (Yst 5 (ext ρ10 w10.heap.size 5) w11 l 520 520 (lentF 512 (fillF C2))) := ⟨q11, by rw [ext_lt HL.out.by'.lt]; exact HL.out.ro, Nat.le_refl _, by unfold maxLen; omega⟩
    replace kp0 := m11.cell (by rw [HK10.out.2.1]; omega) kp0
    replace kp1 := m11.cell (by rw [HK10.out.2.1]; omega) kp1
    replace ko4 := m11.cell (by rw [HK10.out.1]; omega) ko4
    clear HL
    have HL : Hid _ := HLq.out
    clear HLq q11
    generalize (ext ρ10 w10.heap.size 5) = ρ11 at H11 HM11 HK11 LD LT HL
    clear H10 HM10 HK10 f11 m11 ko2 hw11
    go_upto_region 44 with (refine wpList_copy_runI _ rfl _ _ 25 25 rfl _ _ rfl rfl (HCp.out _) ?_)
    clear HCp
    go_upto_region 44 with fail
    refine wp_region_held_drew (S := fun w => (w.cell? ⟨pb, 0, none⟩ = some (.pointer (some ⟨p1, 0, none⟩))) ∧ (w.cell? ⟨pb, 1, none⟩ = some (.pointer (some ⟨p2, 0, none⟩))) ∧ (w.cell? ⟨ob, 4, none⟩ = some (.int .i64 d))) (by kernel_rfl) ⟨cell_up ((Up.refl w11).drew) kp0, cell_up ((Up.refl w11).drew) kp1, cell_up ((Up.refl w11).drew) ko4⟩ (fun hHeld => ?_)
    have u12 : Up w11 w11.drew := (Up.refl w11).drew
    generalize hwd12 : World.drew w11 = w12 at u12 hHeld ⊢
    clear hwd12
    have H12 : Hid (Wd W0 wb (ext ρ11 w11.heap.size 5) ps Ss1 Ss1 S L H hf w12) := H11.out.upR u12 5
    have HM12 : Hid (Mv (fun r => r = 6) ρ (ext ρ11 w11.heap.size 5) W w12) := HM11.out.trans (Mv.ofUp ρ11 u12 5)
    have HK12 : Hid ((ext ρ11 w11.heap.size 5) ob = 6 ∧ (ext ρ11 w11.heap.size 5) pb = 6 ∧ ob < w12.heap.size ∧ pb < w12.heap.size) := (Mv.ofUp (R := fun _ => True) ρ11 u12 5).two HK11.out trivial
    replace kp0 := cell_up u12 kp0
    replace kp1 := cell_up u12 kp1
    replace ko4 := cell_up u12 ko4
    replace LD : Hid _ := LD.out.mv (R := fun _ => True) (Mv.ofUp ρ11 u12 5) trivial
    replace LT : Hid _ := LT.out.mv (R := fun _ => True) (Mv.ofUp ρ11 u12 5) trivial
    replace HL : Hid _ := HL.out.mv (R := fun _ => True) (Mv.ofUp ρ11 u12 5) trivial
    generalize ext ρ11 w11.heap.size 5 = ρ12 at H12 HM12 HK12 LD LT HL
    clear H11 HM11 HK11 u12
    refine wpAnyH_take (i := 0) (v := ?_) (by simp only [List.getElem?_toArray, List.getElem?_cons_zero]; rfl) (by kernel_rfl) (by kernel_rfl) (by kernel_rfl) (by intro _ _ _ h; exact h) (Or.inl ⟨by rfl, ?_⟩) (by assumption) ?_
    rotate_left
    · (intro w hSw; (try dsimp only at hSw); obtain ⟨hS0, hS1, hS2⟩ := hSw; go_simp <;> with_reducible rfl)
    try simp only [Act.put, List.setIfInBounds_toArray, List.set_cons_zero, List.set_cons_succ]
    refine wpAnyH_take (i := 1) (v := ?_) (by simp only [List.getElem?_toArray, List.getElem?_cons_succ, List.getElem?_cons_zero]; rfl) (by kernel_rfl) (by kernel_rfl) (by kernel_rfl) (by intro _ _ _ h; exact h) (Or.inl ⟨by rfl, ?_⟩) (by assumption) ?_
    rotate_left
    · (intro w hSw; (try dsimp only at hSw); obtain ⟨hS0, hS1, hS2⟩ := hSw; go_simp <;> with_reducible rfl)
    try simp only [Act.put, List.setIfInBounds_toArray, List.set_cons_zero, List.set_cons_succ]
    refine wpAnyH_take (i := 2) (v := ?_) (by simp only [List.getElem?_toArray, List.getElem?_cons_succ, List.getElem?_cons_zero]; rfl) (by kernel_rfl) (by kernel_rfl) (by kernel_rfl) (by intro _ _ _ h; exact h) (Or.inl ⟨by rfl, ?_⟩) (by assumption) ?_
    rotate_left
    · (intro w hSw; (try dsimp only at hSw); obtain ⟨hS0, hS1, hS2⟩ := hSw; go_simp <;> with_reducible rfl)
    try simp only [Act.put, List.setIfInBounds_toArray, List.set_cons_zero, List.set_cons_succ]
    refine wpAnyH_take (i := 3) (v := ?_) (by simp only [List.getElem?_toArray, List.getElem?_cons_succ, List.getElem?_cons_zero]; rfl) (by kernel_rfl) (by kernel_rfl) (by kernel_rfl) (by intro _ _ _ h; exact h) (Or.inl ⟨by rfl, ?_⟩) (by assumption) ?_
    rotate_left
    · (intro w hSw; (try dsimp only at hSw); obtain ⟨hS0, hS1, hS2⟩ := hSw; go_simp <;> with_reducible rfl)
    try simp only [Act.put, List.setIfInBounds_toArray, List.set_cons_zero, List.set_cons_succ]
    refine wpAnyH_take (i := 4) (v := ?_) (by simp only [List.getElem?_toArray, List.getElem?_cons_succ, List.getElem?_cons_zero]; rfl) (by kernel_rfl) (by kernel_rfl) (by kernel_rfl) (by intro _ _ _ h; exact h) (Or.inl ⟨by rfl, ?_⟩) (by assumption) ?_
    rotate_left
    · (intro w hSw; (try dsimp only at hSw); obtain ⟨hS0, hS1, hS2⟩ := hSw; go_simp <;> with_reducible rfl)
    try simp only [Act.put, List.setIfInBounds_toArray, List.set_cons_zero, List.set_cons_succ]
    refine wpAnyH_take (i := 5) (v := ?_) (by simp only [List.getElem?_toArray, List.getElem?_cons_succ, List.getElem?_cons_zero]; rfl) (by kernel_rfl) (by kernel_rfl) (by kernel_rfl) (by intro _ _ _ h; exact h) (Or.inl ⟨by rfl, ?_⟩) (by assumption) ?_
    rotate_left
    · (intro w hSw; (try dsimp only at hSw); obtain ⟨hS0, hS1, hS2⟩ := hSw; go_simp <;> with_reducible rfl)
    try simp only [Act.put, List.setIfInBounds_toArray, List.set_cons_zero, List.set_cons_succ]
    refine wpAnyH_ready (rs := [6]) (by kernel_rfl) (by simp) ?_
    refine AllReadyH.cons (by simp only [List.getElem?_toArray, List.getElem?_cons_succ, List.getElem?_cons_zero]; rfl) (fun KK hK => ?_) AllReadyH.nil
    go_simp
    have HWX : Hid _ := (writeX (aa := some ⟨l, 0, none⟩) (n := 512) (c := 520) (fd := fillF C2) (H12.out.pX j _ Sk HH.out.2.1 HS1.out.1).1 HDd.out (by
      obtain ⟨cs, ty, q1, q2, q3⟩ := HL.out.by'.row
      have hl : By w12 l 512 (fillF C2) := ⟨cs, ty, q1, by omega, fun k hk => by rw [q3 k (by omega)]; unfold lentF; rw [if_pos hk]⟩
      exact hl.lk (by omega) (by unfold maxLen; omega) ⟨HL.out.by'.lt, by rw [HL.out.ro]; omega⟩) (by have := HS1.out.2.2; have := HH.out.2.2.2.2.2.2; omega))
    refine Calls.mono HWX.out ?_
    clear HWX
    rintro e w13 ⟨rfl, s13, f13⟩
    have m13 := Mv.ofFK f13
    have H13 : Hid (Wd W0 wb (ext ρ12 w12.heap.size (10 + 2 * j)) ps (Ss1.set j (Sk.wS d 512 (fillF C2))) Ss1 S L H hf w13) := H12.out.chX HH.out.2.1 f13 s13 (HS1.out.2.1.wS d 512 (fillF_b C2))
    have HM13 : Hid (Mv (fun r => r = 6) ρ (ext ρ12 w12.heap.size (10 + 2 * j)) W w13) := HM12.out.trans (m13.mono (fun r hr => by omega))
    have HK13 : Hid ((ext ρ12 w12.heap.size (10 + 2 * j)) ob = 6 ∧ (ext ρ12 w12.heap.size (10 + 2 * j)) pb = 6 ∧ ob < w13.heap.size ∧ pb < w13.heap.size) := m13.two HK12.out (by omega)
    replace kp0 := m13.cell (by rw [HK12.out.2.1]; omega) kp0
    replace kp1 := m13.cell (by rw [HK12.out.2.1]; omega) kp1
    replace ko4 := m13.cell (by rw [HK12.out.1]; omega) ko4
    replace LD : Hid _ := LD.out.mv m13 (by omega)
    replace LT : Hid _ := LT.out.mv m13 (by omega)
    replace HL : Hid _ := HL.out.mv m13 (by omega)
    generalize ext ρ12 w12.heap.size (10 + 2 * j) = ρ13 at H13 HM13 HK13 LD LT HL
    clear H12 HM12 HK12 s13 f13 m13
    refine hK.out _ _ ⟨kp0, kp1, ko4⟩ (fun hHeld => ?_)
    clear hK KK
    try simp only [Act.put, List.setIfInBounds_toArray, List.set_cons_zero, List.set_cons_succ]
    refine wpAnyH_take (i := 7) (v := ?_) (by simp only [List.getElem?_toArray, List.getElem?_cons_succ, List.getElem?_cons_zero]; rfl) (by kernel_rfl) (by kernel_rfl) (by kernel_rfl) (by intro _ _ _ h; exact h) (Or.inl ⟨by rfl, ?_⟩) (by assumption) ?_
    rotate_left
    · (intro w hSw; (try dsimp only at hSw); obtain ⟨hS0, hS1, hS2⟩ := hSw; go_simp <;> with_reducible rfl)
    try simp only [Act.put, List.setIfInBounds_toArray, List.set_cons_zero, List.set_cons_succ]
    refine wpAnyH_done (by kernel_rfl) ?_ _
    clear hHeld
    go_wp2_with fail
    have HWY : Hid _ := (writeY (fd := fillF C2) (H13.out.pY j _ Sk HH.out.2.1 HS1.out.1).1 HDd.out (LT.out.by'.lk LT.out.c1 LT.out.c2 ⟨LT.out.by'.lt, by rw [LT.out.ro]; omega⟩) (fillF_b C2) (by have := HS1.out.2.2; have := HH.out.2.2.2.2.2.2; omega))
    refine Calls.mono HWY.out ?_
    clear HWY
    rintro e w14 ⟨rfl, s14, f14⟩
    have m14 := Mv.ofFK f14
    have H14 : Hid (Wd W0 wb (ext ρ13 w13.heap.size (11 + 2 * j)) ps (Ss1.set j (Sk.wS d 512 (fillF C2))) (Ss1.set j (Sk.wS d 512 (fillF C2))) S L H hf w14) := H13.out.chY HH.out.2.1 f14 s14 (HS1.out.2.1.wS d 512 (fillF_b C2))
    have HM14 : Hid (Mv (fun r => r = 6) ρ (ext ρ13 w13.heap.size (11 + 2 * j)) W w14) := HM13.out.trans (m14.mono (fun r hr => by omega))
    have HK14 : Hid ((ext ρ13 w13.heap.size (11 + 2 * j)) ob = 6 ∧ (ext ρ13 w13.heap.size (11 + 2 * j)) pb = 6 ∧ ob < w14.heap.size ∧ pb < w14.heap.size) := m14.two HK13.out (by omega)
    replace kp0 := m14.cell (by rw [HK13.out.2.1]; omega) kp0
    replace kp1 := m14.cell (by rw [HK13.out.2.1]; omega) kp1
    replace ko4 := m14.cell (by rw [HK13.out.1]; omega) ko4
    replace LD : Hid _ := LD.out.mv m14 (by omega)
    replace LT : Hid _ := LT.out.mv m14 (by omega)
    replace HL : Hid _ := HL.out.mv m14 (by omega)
    generalize ext ρ13 w13.heap.size (11 + 2 * j) = ρ14 at H14 HM14 HK14 LD LT HL
    clear H13 HM13 HK13 s14 f14 m14
    generalize Sk.wE d 512 = E2
    have hE2 : (E2 == E2) = true := beq_self_eq_true _
    clear kp0 kp1 ko4
    go_wp2_with fail
    refine Calls.mono (backB_any (LT.out.by'.byts LT.out.c1 LT.out.c2 (fillF_b C2)) (by omega) HL.out.by') ?_
    rintro e w15 ⟨rfl, f15⟩
    have m15 := Mv.ofFr f15 HL.out.ro 5
    have H15 : Hid (Wd W0 wb (ext ρ14 w14.heap.size 5) ps (Ss1.set j (Sk.wS d 512 (fillF C2))) (Ss1.set j (Sk.wS d 512 (fillF C2))) S L H hf w15) := H14.out.mv m15 (by omega) (fun r hr => by omega)
    have HM15 : Hid (Mv (fun r => r = 6) ρ (ext ρ14 w14.heap.size 5) W w15) := HM14.out.trans (m15.mono (fun r hr => by omega))
    have HK15 : Hid ((ext ρ14 w14.heap.size 5) ob = 6 ∧ (ext ρ14 w14.heap.size 5) pb = 6 ∧ ob < w15.heap.size ∧ pb < w15.heap.size) := m15.two HK14.out (by omega)
    generalize ext ρ14 w14.heap.size 5 = ρ15 at H15 HM15 HK15 
    clear H14 HM14 HK14 f15 m15 LD LT HL
    go_wp2_with fail
    go_ret
    exact ⟨by first | rfl | (simp; done), ρ15, ⟨_, _, _, _, _, _, H15.out, by have := HH.out.2.2.2.1; omega, fun s hs => by
      rcases List.mem_or_eq_of_mem_set hs with e | e
      · rw [HLn.out] at e
        rcases List.mem_or_eq_of_mem_set e with e2 | e2
        · have := HH.out.2.2.2.2.1 s e2; omega
        · rw [e2]; have := HS1.out.2.2; omega
      · rw [e]; have := Sto.wS_len Sk d 512 (fillF C2); have := HS1.out.2.2; omega⟩, HM15.out⟩
end Go.Proofs.Ytekffilokdmfgaa
