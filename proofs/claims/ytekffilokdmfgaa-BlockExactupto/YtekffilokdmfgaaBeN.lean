/- Block: a step of the script: Write. -/
import Derived.Test.YtekffilokdmfgaaBeJ
namespace Go.Proofs.Ytekffilokdmfgaa
open Go.RowKit
set_option linter.unusedVariables false
set_option linter.unusedSimpArgs false
variable {w w1 w2 w3 w4 w5 w6 w7 W W0 : World} {ρ ρ1 : Nat → Nat} {wb H n N : Nat} {ps : List (Nat × Nat)} {Ss : List Sto} {S : Nat → Prop} {L : Bd} {hf f : Nat → Int} {ls : Value} {pp b c d : Int}
set_option maxRecDepth 100000 in
set_option maxHeartbeats 8000000 in
theorem stepWrite0 (h : Wd W0 wb ρ ps Ss Ss S L H hf W) (hN : L.es.length ≤ N) (hP : ∀ s ∈ Ss, s.pend.length ≤ N) (hN2 : N ≤ 16000000) (hn0 : ps ≠ []) (hpp : I64 pp) (hb : I64 b) (hc : I64 c) (hd0 : (d != 0) = false) :
    Calls Try.prog 4 #[.pointer (some ⟨wb, 0, none⟩), .agg #[.int .i64 4, .int .i64 pp, .int .i64 b, .int .i64 c, .int .i64 d, ls]] W (StepAns W0 wb (N + 8) ρ W) := by
  obtain ⟨np, hnp⟩ : ∃ np, np = ps.length := ⟨_, rfl⟩
  have hn1 : 0 < np := by rw [hnp]; exact List.length_pos_iff.2 hn0
  have hl4 : np ≤ 4 := by rw [hnp]; exact h.l4
  obtain ⟨j, hj, hPk⟩ := pick_natL pp np hpp hn1 (by omega)
  obtain ⟨⟨p1, p2⟩, hp⟩ : ∃ p, ps[j]? = some p := ⟨_, List.getElem?_eq_getElem (by omega)⟩
  obtain ⟨Sj, hS⟩ : ∃ Sj, Ss[j]? = some Sj := ⟨_, List.getElem?_eq_getElem (by rw [h.xl]; omega)⟩
  obtain ⟨gl, lc, hgl, hlc, hrg⟩ : ∃ gl lc, L.x0 = .slice (some ⟨gl, 0, none⟩) np lc ∧ (np ≤ lc ∧ lc ≤ 9223372036854775807) ∧ W.rangeAt gl (j * 2) [.pointer (some ⟨p1, 0, none⟩), .pointer (some ⟨p2, 0, none⟩)] := by
    rcases own_cases h.pr with ⟨_, hn, _⟩ | ⟨gl, cap, hv2, hc1, hc2, _⟩
    · omega
    · have ho := h.pr
      rw [hv2] at ho
      have hpt := ptrs_at ps j _ hp
      have q1 := own_cell ho (j * 2) (by omega)
      have q2 := own_cell ho (j * 2 + 1) (by omega)
      rw [Nat.zero_add] at q1 q2
      exact ⟨gl, cap, by rw [hv2, hnp], ⟨by omega, by unfold maxLen at hc2; omega⟩, range2 (by rw [q1]; exact hpt.1) (by rw [q2]; exact hpt.2)⟩
  obtain ⟨l1, l2⟩ := hlc
  have HPk : Hid (∀ w, Calls Try.prog 9 #[.int .i64 pp, .int .i64 (np : Int)] w fun e w' => e = .returned (.int .i64 (j : Int)) ∧ w' = w) := hPk
  have HLV : Hid (∀ w, Up W w → w.cell? ⟨wb, 0, none⟩ = some (.slice (some ⟨gl, 0, none⟩) np lc) ∧ w.rangeAt gl (j * 2) [.pointer (some ⟨p1, 0, none⟩), .pointer (some ⟨p2, 0, none⟩)]) := fun w u => ⟨cell_up u (by rw [← hgl]; exact h.c0), fun k v hv => cell_up u (hrg k v hv)⟩
  have b0 : ((np : Int) == 0) = false := beq_eq_false_iff_ne.2 (by omega)
  have d0 : (j : Int) < (np : Int) := by omega
  have HWb : Hid (wb < W.heap.size) := h.pl
  have HH : Hid (Wd W0 wb ρ ps Ss Ss S L H hf W ∧ ps[j]? = some (p1, p2) ∧ Ss[j]? = some Sj ∧ L.es.length ≤ N ∧ (∀ s ∈ Ss, s.pend.length ≤ N) ∧ Sj.Gd ∧ Sj.pend.length ≤ N ∧ N ≤ 16000000) := ⟨h, hp, hS, hN, hP, (h.pX j _ Sj hp hS).2, hP Sj (List.mem_of_getElem? hS), hN2⟩
  clear h hN hP hp hS hn0 hpp hPk hrg hgl hnp hj hN2
  have HB : Hid (I64 b) := hb
  have HC : Hid (I64 c) := hc
  clear hb hc
  go_enter Try.func4, Try.ntmps4
  have hWbl : wb < W.heap.size := HWb.out
  have hWb2 : ¬ wb = W.heap.size := by omega
  have kw0 := (HLV.out W (Up.refl W)).1
  go_wp2_with fail
  have u1 : Up W (W.alloc (Obj.cells (opC 4 pp b c d ls) 31)) := (Up.refl W).alloc _
  have k1 : (W.alloc (Obj.cells (opC 4 pp b c d ls) 31)).heap[W.heap.size]? = some (.cells (opC 4 pp b c d ls) 31 (0, 0)) := heap_alloc_new W _
  have hob9 : W.heap.size < (W.alloc (Obj.cells (opC 4 pp b c d ls) 31)).heap.size := by simp
  clear kw0 hWb2 hWbl
  obtain ⟨ob, hob⟩ : ∃ ob, ob = W.heap.size := ⟨_, rfl⟩
  rw [← hob] at k1 hob9 ⊢
  generalize World.alloc W _ = W1 at u1 k1 hob9 ⊢
  have hob2 : W.heap.size ≤ ob := by omega
  clear hob
  have HO1 : Hid (∀ w, Up W1 w → w.cell? ⟨ob, 1, none⟩ = some (.int .i64 pp) ∧ w.cell? ⟨ob, 2, none⟩ = some (.int .i64 b) ∧ w.cell? ⟨ob, 3, none⟩ = some (.int .i64 c) ∧ w.cell? ⟨ob, 4, none⟩ = some (.int .i64 d) ∧ w.cell? ⟨ob, 5, none⟩ = some ls ∧ w.cell? ⟨ob, 0, none⟩ = some (.int .i64 4)) := fun w u => ⟨cell_up u (heap_cell k1 rfl), cell_up u (heap_cell k1 rfl), cell_up u (heap_cell k1 rfl), cell_up u (heap_cell k1 rfl), cell_up u (heap_cell k1 rfl), cell_up u (heap_cell k1 rfl)⟩
  have HSs : Hid (∀ w, Up W1 w → w.cell? ⟨wb, 0, none⟩ = some (.slice (some ⟨gl, 0, none⟩) np lc) ∧ w.cell? ⟨ob, 1, none⟩ = some (.int .i64 pp) ∧ w.rangeAt gl (j * 2) [.pointer (some ⟨p1, 0, none⟩), .pointer (some ⟨p2, 0, none⟩)]) := fun w u => ⟨(HLV.out w (u1.trans u)).1, (HO1.out w u).1, (HLV.out w (u1.trans u)).2⟩
  have HU1 : Hid (Up W W1 ∧ W.heap.size ≤ ob ∧ ob < W1.heap.size) := ⟨u1, hob2, hob9⟩
  clear u1 k1 hob9 hob2
  refine wp_region_held_drew (S := fun w => w.cell? ⟨wb, 0, none⟩ = some (.slice (some ⟨gl, 0, none⟩) np lc) ∧ w.cell? ⟨ob, 1, none⟩ = some (.int .i64 pp) ∧ w.rangeAt gl (j * 2) [.pointer (some ⟨p1, 0, none⟩), .pointer (some ⟨p2, 0, none⟩)]) (by kernel_rfl) (HSs.out _ (Up.refl W1).drew) (fun hHeld => ?_)
  have ud : Up W1 W1.drew := (Up.refl W1).drew
  generalize World.drew W1 = wd at ud hHeld ⊢
  refine wpAnyH_take (i := 0) (v := ?_) (by simp only [List.getElem?_toArray, List.getElem?_cons_zero]; rfl) (by kernel_rfl) (by kernel_rfl) (by kernel_rfl) (by intro _ _ _ h; exact h) (Or.inl ⟨by rfl, ?_⟩) (by assumption) ?_
  rotate_left
  · (intro w hSw; (try dsimp only at hSw); go_simp <;> with_reducible rfl)
  try simp only [Act.put, List.setIfInBounds_toArray, List.set_cons_zero, List.set_cons_succ]
  refine wpAnyH_take (i := 1) (v := ?_) (by simp only [List.getElem?_toArray, List.getElem?_cons_succ, List.getElem?_cons_zero]; rfl) (by kernel_rfl) (by kernel_rfl) (by kernel_rfl) (by intro _ _ _ h; exact h) (Or.inl ⟨by rfl, ?_⟩) (by assumption) ?_
  rotate_left
  · (intro w hSw; (try dsimp only at hSw); go_simp <;> with_reducible rfl)
  try simp only [Act.put, List.setIfInBounds_toArray, List.set_cons_zero, List.set_cons_succ]
  refine wpAnyH_take (i := 2) (v := ?_) (by simp only [List.getElem?_toArray, List.getElem?_cons_succ, List.getElem?_cons_zero]; rfl) (by kernel_rfl) (by kernel_rfl) (by kernel_rfl) (by intro _ _ _ h; exact h) (Or.inl ⟨by rfl, ?_⟩) (by assumption) ?_
  rotate_left
  · (intro w hSw; (try dsimp only at hSw); go_simp <;> with_reducible rfl)
  try simp only [Act.put, List.setIfInBounds_toArray, List.set_cons_zero, List.set_cons_succ]
  refine wpAnyH_take (i := 3) (v := ?_) (by simp only [List.getElem?_toArray, List.getElem?_cons_succ, List.getElem?_cons_zero]; rfl) (by kernel_rfl) (by kernel_rfl) (by kernel_rfl) (by intro _ _ _ h; exact h) (Or.inl ⟨by rfl, ?_⟩) (by assumption) ?_
  rotate_left
  · (intro w hSw; (try dsimp only at hSw); go_simp <;> with_reducible rfl)
  try simp only [Act.put, List.setIfInBounds_toArray, List.set_cons_zero, List.set_cons_succ]
  refine wpAnyH_take (i := 4) (v := ?_) (by simp only [List.getElem?_toArray, List.getElem?_cons_succ, List.getElem?_cons_zero]; rfl) (by kernel_rfl) (by kernel_rfl) (by kernel_rfl) (by intro _ _ _ h; exact h) (Or.inl ⟨by rfl, ?_⟩) (by assumption) ?_
  rotate_left
  · (intro w hSw; (try dsimp only at hSw); go_simp <;> with_reducible rfl)
  try simp only [Act.put, List.setIfInBounds_toArray, List.set_cons_zero, List.set_cons_succ]
  refine wpAnyH_take (i := 5) (v := ?_) (by simp only [List.getElem?_toArray, List.getElem?_cons_succ, List.getElem?_cons_zero]; rfl) (by kernel_rfl) (by kernel_rfl) (by kernel_rfl) (by intro _ _ _ h; exact h) (Or.inl ⟨by rfl, ?_⟩) (by assumption) ?_
  rotate_left
  · (intro w hSw; (try dsimp only at hSw); go_simp <;> with_reducible rfl)
  try simp only [Act.put, List.setIfInBounds_toArray, List.set_cons_zero, List.set_cons_succ]
  refine wpAnyH_take (i := 6) (v := ?_) (by simp only [List.getElem?_toArray, List.getElem?_cons_succ, List.getElem?_cons_zero]; rfl) (by kernel_rfl) (by kernel_rfl) (by kernel_rfl) (by intro _ _ _ h; exact h) (Or.inl ⟨by rfl, ?_⟩) (by assumption) ?_
  rotate_left
  · (intro w hSw; (try dsimp only at hSw); go_simp <;> with_reducible rfl)
  try simp only [Act.put, List.setIfInBounds_toArray, List.set_cons_zero, List.set_cons_succ]
  refine wpAnyH_take (i := 7) (v := ?_) (by simp only [List.getElem?_toArray, List.getElem?_cons_succ, List.getElem?_cons_zero]; rfl) (by kernel_rfl) (by kernel_rfl) (by kernel_rfl) (by intro _ _ _ h; exact h) (Or.inl ⟨by rfl, ?_⟩) (by assumption) ?_
  rotate_left
  · (intro w hSw; (try dsimp only at hSw); go_simp <;> with_reducible rfl)
  try simp only [Act.put, List.setIfInBounds_toArray, List.set_cons_zero, List.set_cons_succ]
  refine wpAnyH_take (i := 8) (v := ?_) (by simp only [List.getElem?_toArray, List.getElem?_cons_succ, List.getElem?_cons_zero]; rfl) (by kernel_rfl) (by kernel_rfl) (by kernel_rfl) (by intro _ _ _ h; exact h) (Or.inl ⟨by rfl, ?_⟩) (by assumption) ?_
  rotate_left
  · (intro w hSw; (try dsimp only at hSw); go_simp <;> with_reducible rfl)
  try simp only [Act.put, List.setIfInBounds_toArray, List.set_cons_zero, List.set_cons_succ]
  refine wpAnyH_take (i := 9) (v := ?_) (by simp only [List.getElem?_toArray, List.getElem?_cons_succ, List.getElem?_cons_zero]; rfl) (by kernel_rfl) (by kernel_rfl) (by kernel_rfl) (by intro _ _ _ h; exact h) (Or.inl ⟨by rfl, ?_⟩) (by assumption) ?_
  rotate_left
  · (intro w hSw; (try dsimp only at hSw); go_simp <;> with_reducible rfl)
  try simp only [Act.put, List.setIfInBounds_toArray, List.set_cons_zero, List.set_cons_succ]
  refine wpAnyH_take (i := 10) (v := ?_) (by simp only [List.getElem?_toArray, List.getElem?_cons_succ, List.getElem?_cons_zero]; rfl) (by kernel_rfl) (by kernel_rfl) (by kernel_rfl) (by intro _ _ _ h; exact h) (Or.inl ⟨by rfl, ?_⟩) (by assumption) ?_
  rotate_left
  · (intro w hSw; (try dsimp only at hSw); go_simp <;> with_reducible rfl)
  try simp only [Act.put, List.setIfInBounds_toArray, List.set_cons_zero, List.set_cons_succ]
  refine wpAnyH_ready (rs := [11, 14]) (by kernel_rfl) (by simp) ?_
  refine AllReadyH.cons (by simp only [List.getElem?_toArray, List.getElem?_cons_succ, List.getElem?_cons_zero]; rfl) (fun KK hK => ?_) (AllReadyH.cons (by simp only [List.getElem?_toArray, List.getElem?_cons_succ, List.getElem?_cons_zero]; rfl) (fun KK hK => ?_) AllReadyH.nil)
  · skip
    go_simp
    refine (HPk.out _).mono ?_
    rintro e w' ⟨rfl, hw⟩
    obtain rfl := hw.symm
    clear hw
    refine hK.out _ _ (HSs.out _ ud) (fun hHeld => ?_)
    clear hK KK
    try simp only [Act.put, List.setIfInBounds_toArray, List.set_cons_zero, List.set_cons_succ]
    refine wpAnyH_take (i := 12) (v := ?_) (by simp only [List.getElem?_toArray, List.getElem?_cons_succ, List.getElem?_cons_zero]; rfl) (by kernel_rfl) (by kernel_rfl) (by kernel_rfl) (by intro _ _ _ h; exact h) (Or.inl ⟨by rfl, ?_⟩) (by assumption) ?_
    rotate_left
    · (intro w hSw; (try dsimp only at hSw); go_simp <;> with_reducible rfl)
    try simp only [Act.put, List.setIfInBounds_toArray, List.set_cons_zero, List.set_cons_succ]
    refine wpAnyH_take (i := 13) (v := .agg [.pointer (some ⟨p1, 0, none⟩), .pointer (some ⟨p2, 0, none⟩)].toArray) (by simp only [List.getElem?_toArray, List.getElem?_cons_succ, List.getElem?_cons_zero]; rfl) (by kernel_rfl) (by kernel_rfl) (by kernel_rfl) (by intro _ _ _ h; exact h) (yieldsIf_load_mid (by rfl) 47 _ rfl gl (j * 2) rfl [.pointer (some ⟨p1, 0, none⟩), .pointer (some ⟨p2, 0, none⟩)] _ (fun w hw => hw.2.2) Try.underlying47 rfl (by kernel_rfl)) (by assumption) ?_
    simp only [Act.put, List.setIfInBounds_toArray, List.set_cons_zero, List.set_cons_succ]
    refine wpAnyH_ready (rs := [14]) (by kernel_rfl) (by simp) ?_
    refine AllReadyH.cons (by simp only [List.getElem?_toArray, List.getElem?_cons_succ, List.getElem?_cons_zero]; rfl) (fun KK hK => ?_) AllReadyH.nil
    go_simp
    have ub : Up W1 (wd.alloc (Obj.cells #[.pointer none, .pointer none] 47)) := ud.alloc _
    have kb9 : (wd.alloc (Obj.cells #[.pointer none, .pointer none] 47)).heap[wd.heap.size]? = some (.cells #[.pointer none, .pointer none] 47 (0, 0)) := heap_alloc_new wd _
    refine hK.out _ _ (HSs.out _ ub) (fun hHeld => ?_)
    clear hK KK
    try simp only [Act.put, List.setIfInBounds_toArray, List.set_cons_zero, List.set_cons_succ]
    have HNB9 : W1.heap.size ≤ wd.heap.size := ud.size
    refine wpAnyH_ready (rs := [15]) (by kernel_rfl) (by simp) ?_
    refine AllReadyH.cons (by simp only [List.getElem?_toArray, List.getElem?_cons_succ, List.getElem?_cons_zero]; rfl) (fun KK hK => ?_) AllReadyH.nil
    rw [if_pos (by rfl)]
    refine wp_store_mid 47 _ _ rfl (wd.heap.size) 0 #[.pointer (some ⟨p1, 0, none⟩), .pointer (some ⟨p2, 0, none⟩)] rfl rfl (there2 kb9) (by kernel_rfl) (by simp [Value.oneCell']) ?_
    have uz : Up W1 ((wd.alloc (Obj.cells #[.pointer none, .pointer none] 47)).setCells (wd.heap.size) 0 [.pointer (some ⟨p1, 0, none⟩), .pointer (some ⟨p2, 0, none⟩)]) := Fr.up (ub) HNB9 (fr_setCells _ _ 0 _)
    have kz : ((wd.alloc (Obj.cells #[.pointer none, .pointer none] 47)).setCells (wd.heap.size) 0 [.pointer (some ⟨p1, 0, none⟩), .pointer (some ⟨p2, 0, none⟩)]).heap[wd.heap.size]? = some (.cells #[.pointer (some ⟨p1, 0, none⟩), .pointer (some ⟨p2, 0, none⟩)] 47 (0, 0)) := heap_setCells_same _ _ _ 0 _ (wd.alloc (Obj.cells #[.pointer none, .pointer none] 47)) kb9
    refine hK.out _ _ (HSs.out _ uz) (fun hHeld => ?_)
    clear hK KK
    try simp only [Act.put, List.setIfInBounds_toArray, List.set_cons_zero, List.set_cons_succ]
    refine wpAnyH_done (by kernel_rfl) ?_ _
    obtain ⟨pb, hpb⟩ : ∃ pb, pb = wd.heap.size := ⟨_, rfl⟩
    rw [← hpb] at kz uz HNB9 ⊢
    clear hHeld hpb
    generalize World.setCells _ pb 0 _ = w4 at uz kz ⊢
    have u4 : Up W w4 := HU1.out.1.trans uz
    obtain ⟨ko1, ko2, ko3, ko4, ko5, ko0⟩ := HO1.out w4 uz
    have kp0 := heap_cell kz (o := 0) (v := .pointer (some ⟨p1, 0, none⟩)) rfl
    have kp1 := heap_cell kz (o := 1) (v := .pointer (some ⟨p2, 0, none⟩)) rfl
    have H4 : Hid (Wd W0 wb (ext ρ W.heap.size 6) ps Ss Ss S L H hf w4) := HH.out.1.upR u4 6
    have HM4 : Hid (Mv (fun r => r = 6) ρ (ext ρ W.heap.size 6) W w4) := Mv.ofUp ρ u4 6
    have HK4 : Hid (ext ρ W.heap.size 6 ob = 6 ∧ ext ρ W.heap.size 6 pb = 6 ∧ ob < w4.heap.size ∧ pb < w4.heap.size) := ⟨ext_ge HU1.out.2.1, ext_ge (Nat.le_trans HU1.out.1.size HNB9), World.block_lt_of_cell? _ _ ko2, World.block_lt_of_cell? _ _ kp0⟩
    generalize ext ρ W.heap.size 6 = ρ4 at H4 HM4 HK4
    clear u4 uz kz HNB9 ko1 ko5
    go_wp2_with fail
    refine Calls.mono (filled_any (v := c) (more := 0) (m := 512) HC.out (by omega) (by omega)) ?_
    rintro e w5 ⟨dg, dc, rfl, q1, q2, q3, q4, u5⟩
    have LD : Hid (Yst 9 (ext ρ4 w4.heap.size 9) w5 dg 512 dc (fillF c)) := ⟨q2, ext_ge q1, q3, q4⟩
    have H5 : Hid (Wd W0 wb (ext ρ4 w4.heap.size 9) ps Ss Ss S L H hf w5) := H4.out.upR u5 9
    have HM5 : Hid (Mv (fun r => r = 6) ρ (ext ρ4 w4.heap.size 9) W w5) := HM4.out.trans (Mv.ofUp ρ4 u5 9)
    have HK5 : Hid ((ext ρ4 w4.heap.size 9) ob = 6 ∧ (ext ρ4 w4.heap.size 9) pb = 6 ∧ ob < w5.heap.size ∧ pb < w5.heap.size) := (Mv.ofUp (R := fun _ => True) ρ4 u5 9).two HK4.out trivial
    replace kp0 := cell_up u5 kp0
    replace kp1 := cell_up u5 kp1
    replace ko2 := cell_up u5 ko2
    replace ko3 := cell_up u5 ko3
    replace ko4 := cell_up u5 ko4
    generalize ext ρ4 w4.heap.size 9 = ρ5 at H5 HM5 HK5 LD
    clear H4 HM4 HK4 u5 q1 q2 q3 q4 ko0
    have hdc := LD.out.c1
    have hdm : dc ≤ 9223372036854775807 := by have := LD.out.c2; unfold maxLen at this; omega
    go_wp2_with fail
    refine Calls.mono (lentB_any (LD.out.by'.byts LD.out.c1 LD.out.c2 (fillF_b c)) (by omega)) ?_
    rintro e w6 ⟨l, rfl, q1, q2, u6⟩
    have HL : Hid (Yst 5 (ext ρ5 w5.heap.size 5) w6 l (512 + 8) (512 + 8) (lentF 512 (fillF c))) := ⟨q2, ext_ge q1, Nat.le_refl _, by unfold maxLen; omega⟩
    have H6 : Hid (Wd W0 wb (ext ρ5 w5.heap.size 5) ps Ss Ss S L H hf w6) := H5.out.upR u6 5
    have HM6 : Hid (Mv (fun r => r = 6) ρ (ext ρ5 w5.heap.size 5) W w6) := HM5.out.trans (Mv.ofUp ρ5 u6 5)
    have HK6 : Hid ((ext ρ5 w5.heap.size 5) ob = 6 ∧ (ext ρ5 w5.heap.size 5) pb = 6 ∧ ob < w6.heap.size ∧ pb < w6.heap.size) := (Mv.ofUp (R := fun _ => True) ρ5 u6 5).two HK5.out trivial
    replace kp0 := cell_up u6 kp0
    replace kp1 := cell_up u6 kp1
    replace ko2 := cell_up u6 ko2
    replace LD : Hid _ := LD.out.mv (R := fun _ => True) (Mv.ofUp ρ5 u6 5) trivial
    generalize ext ρ5 w5.heap.size 5 = ρ6 at H6 HM6 HK6 LD HL
    clear H5 HM5 HK5 u6 q1 q2 ko3 ko4
    go_upto_region 33 with fail
    refine wp_region_held_drew (S := fun w => (w.cell? ⟨pb, 0, none⟩ = some (.pointer (some ⟨p1, 0, none⟩))) ∧ (w.cell? ⟨pb, 1, none⟩ = some (.pointer (some ⟨p2, 0, none⟩))) ∧ (w.cell? ⟨ob, 2, none⟩ = some (.int .i64 b))) (by kernel_rfl) ⟨cell_up ((Up.refl w6).drew) kp0, cell_up ((Up.refl w6).drew) kp1, cell_up ((Up.refl w6).drew) ko2⟩ (fun hHeld => ?_)
    have u7 : Up w6 w6.drew := (Up.refl w6).drew
    generalize hwd7 : World.drew w6 = w7 at u7 hHeld ⊢
    clear hwd7
    have H7 : Hid (Wd W0 wb (ext ρ6 w6.heap.size 5) ps Ss Ss S L H hf w7) := H6.out.upR u7 5
    have HM7 : Hid (Mv (fun r => r = 6) ρ (ext ρ6 w6.heap.size 5) W w7) := HM6.out.trans (Mv.ofUp ρ6 u7 5)
    have HK7 : Hid ((ext ρ6 w6.heap.size 5) ob = 6 ∧ (ext ρ6 w6.heap.size 5) pb = 6 ∧ ob < w7.heap.size ∧ pb < w7.heap.size) := (Mv.ofUp (R := fun _ => True) ρ6 u7 5).two HK6.out trivial
    replace kp0 := cell_up u7 kp0
    replace kp1 := cell_up u7 kp1
    replace ko2 := cell_up u7 ko2
    replace LD : Hid _ := LD.out.mv (R := fun _ => True) (Mv.ofUp ρ6 u7 5) trivial
    replace HL : Hid _ := HL.out.mv (R := fun _ => True) (Mv.ofUp ρ6 u7 5) trivial
    generalize ext ρ6 w6.heap.size 5 = ρ7 at H7 HM7 HK7 LD HL
    clear H6 HM6 HK6 u7
    refine wpAnyH_take (i := 0) (v := ?_) (by simp only [List.getElem?_toArray, List.getElem?_cons_zero]; rfl) (by kernel_rfl) (by kernel_rfl) (by kernel_rfl) (by intro _ _ _ h; exact h) (Or.inl ⟨by rfl, ?_⟩) (by assumption) ?_
    rotate_left
    · (intro w hSw; (try dsimp only at hSw); obtain ⟨hS0, hS1, hS2⟩ := hSw; go_simp <;> with_reducible rfl)
    try simp only [Act.put, List.setIfInBounds_toArray, List.set_cons_zero, List.set_cons_succ]
    refine wpAnyH_take (i := 1) (v := ?_) (by simp only [List.getElem?_toArray, List.getElem?_cons_succ, List.getElem?_cons_zero]; rfl) (by kernel_rfl) (by kernel_rfl) (by kernel_rfl) (by intro _ _ _ h; exact h) (Or.inl ⟨by rfl, ?_⟩) (by assumption) ?_
    rotate_left
    · (intro w hSw; (try dsimp only at hSw); obtain ⟨hS0, hS1, hS2⟩ := hSw; go_simp <;> with_reducible rfl)
    try simp only [Act.put, List.setIfInBounds_toArray, List.set_cons_zero, List.set_cons_succ]
    refine wpAnyH_take (i := 2) (v := ?_) (by simp only [List.getElem?_toArray, List.getElem?_cons_succ, List.getElem?_cons_zero]; rfl) (by kernel_rfl) (by kernel_rfl) (by kernel_rfl) (by intro _ _ _ h; exact h) (Or.inl ⟨by rfl, ?_⟩) (by assumption) ?_
    rotate_left
    · (intro w hSw; (try dsimp only at hSw); obtain ⟨hS0, hS1, hS2⟩ := hSw; go_simp <;> with_reducible rfl)
    try simp only [Act.put, List.setIfInBounds_toArray, List.set_cons_zero, List.set_cons_succ]
    refine wpAnyH_take (i := 3) (v := ?_) (by simp only [List.getElem?_toArray, List.getElem?_cons_succ, List.getElem?_cons_zero]; rfl) (by kernel_rfl) (by kernel_rfl) (by kernel_rfl) (by intro _ _ _ h; exact h) (Or.inl ⟨by rfl, ?_⟩) (by assumption) ?_
    rotate_left
    · (intro w hSw; (try dsimp only at hSw); obtain ⟨hS0, hS1, hS2⟩ := hSw; go_simp <;> with_reducible rfl)
    try simp only [Act.put, List.setIfInBounds_toArray, List.set_cons_zero, List.set_cons_succ]
    refine wpAnyH_take (i := 4) (v := ?_) (by simp only [List.getElem?_toArray, List.getElem?_cons_succ, List.getElem?_cons_zero]; rfl) (by kernel_rfl) (by kernel_rfl) (by kernel_rfl) (by intro _ _ _ h; exact h) (Or.inl ⟨by rfl, ?_⟩) (by assumption) ?_
    rotate_left
    · (intro w hSw; (try dsimp only at hSw); obtain ⟨hS0, hS1, hS2⟩ := hSw; go_simp <;> with_reducible rfl)
    try simp only [Act.put, List.setIfInBounds_toArray, List.set_cons_zero, List.set_cons_succ]
    refine wpAnyH_take (i := 5) (v := ?_) (by simp only [List.getElem?_toArray, List.getElem?_cons_succ, List.getElem?_cons_zero]; rfl) (by kernel_rfl) (by kernel_rfl) (by kernel_rfl) (by intro _ _ _ h; exact h) (Or.inl ⟨by rfl, ?_⟩) (by assumption) ?_
    rotate_left
    · (intro w hSw; (try dsimp only at hSw); obtain ⟨hS0, hS1, hS2⟩ := hSw; go_simp <;> with_reducible rfl)
    try simp only [Act.put, List.setIfInBounds_toArray, List.set_cons_zero, List.set_cons_succ]
    refine wpAnyH_take (i := 6) (v := ?_) (by simp only [List.getElem?_toArray, List.getElem?_cons_succ, List.getElem?_cons_zero]; rfl) (by kernel_rfl) (by kernel_rfl) (by kernel_rfl) (by intro _ _ _ h; exact h) (Or.inl ⟨by rfl, ?_⟩) (by assumption) ?_
    rotate_left
    · (intro w hSw; (try dsimp only at hSw); obtain ⟨hS0, hS1, hS2⟩ := hSw; go_simp <;> with_reducible rfl)
    try simp only [Act.put, List.setIfInBounds_toArray, List.set_cons_zero, List.set_cons_succ]
    refine wpAnyH_take (i := 7) (v := ?_) (by simp only [List.getElem?_toArray, List.getElem?_cons_succ, List.getElem?_cons_zero]; rfl) (by kernel_rfl) (by kernel_rfl) (by kernel_rfl) (by intro _ _ _ h; exact h) (Or.inl ⟨by rfl, ?_⟩) (by assumption) ?_
    rotate_left
    · (intro w hSw; (try dsimp only at hSw); obtain ⟨hS0, hS1, hS2⟩ := hSw; go_simp <;> with_reducible rfl)
    try simp only [Act.put, List.setIfInBounds_toArray, List.set_cons_zero, List.set_cons_succ]
    refine wpAnyH_ready (rs := [8]) (by kernel_rfl) (by simp) ?_
    refine AllReadyH.cons (by simp only [List.getElem?_toArray, List.getElem?_cons_succ, List.getElem?_cons_zero]; rfl) (fun KK hK => ?_) AllReadyH.nil
    go_simp
    have HWX : Hid _ := (writeX (aa := some ⟨l, 0, none⟩) (n := 512) (c := 520) (fd := fillF c) (H7.out.pX j _ Sj HH.out.2.1 HH.out.2.2.1).1 HB.out (by
      obtain ⟨cs, ty, q1, q2, q3⟩ := HL.out.by'.row
      have hl : By w7 l 512 (fillF c) := ⟨cs, ty, q1, by omega, fun k hk => by rw [q3 k (by omega)]; unfold lentF; rw [if_pos hk]⟩
      exact hl.lk (by omega) (by unfold maxLen; omega) ⟨HL.out.by'.lt, by rw [HL.out.ro]; omega⟩) (by have := HH.out.2.2.2.2.2.2; omega))
    refine Calls.mono HWX.out ?_
    clear HWX
    rintro e w8 ⟨rfl, s8, f8⟩
    have m8 := Mv.ofFK f8
    have H8 : Hid (Wd W0 wb (ext ρ7 w7.heap.size (10 + 2 * j)) ps (Ss.set j (Sj.wS b 512 (fillF c))) Ss S L H hf w8) := H7.out.chX HH.out.2.1 f8 s8 (HH.out.2.2.2.2.2.1.wS b 512 (fillF_b c))
    have HM8 : Hid (Mv (fun r => r = 6) ρ (ext ρ7 w7.heap.size (10 + 2 * j)) W w8) := HM7.out.trans (m8.mono (fun r hr => by omega))
    have HK8 : Hid ((ext ρ7 w7.heap.size (10 + 2 * j)) ob = 6 ∧ (ext ρ7 w7.heap.size (10 + 2 * j)) pb = 6 ∧ ob < w8.heap.size ∧ pb < w8.heap.size) := m8.two HK7.out (by omega)
    replace kp0 := m8.cell (by rw [HK7.out.2.1]; omega) kp0
    replace kp1 := m8.cell (by rw [HK7.out.2.1]; omega) kp1
    replace ko2 := m8.cell (by rw [HK7.out.1]; omega) ko2
    replace LD : Hid _ := LD.out.mv m8 (by omega)
    replace HL : Hid _ := HL.out.mv m8 (by omega)
    generalize ext ρ7 w7.heap.size (10 + 2 * j) = ρ8 at H8 HM8 HK8 LD HL
    clear H7 HM7 HK7 s8 f8 m8
    refine hK.out _ _ ⟨kp0, kp1, ko2⟩ (fun hHeld => ?_)
    clear hK KK
    try simp only [Act.put, List.setIfInBounds_toArray, List.set_cons_zero, List.set_cons_succ]
    refine wpAnyH_take (i := 9) (v := ?_) (by simp only [List.getElem?_toArray, List.getElem?_cons_succ, List.getElem?_cons_zero]; rfl) (by kernel_rfl) (by kernel_rfl) (by kernel_rfl) (by intro _ _ _ h; exact h) (Or.inl ⟨by rfl, ?_⟩) (by assumption) ?_
    rotate_left
    · (intro w hSw; (try dsimp only at hSw); obtain ⟨hS0, hS1, hS2⟩ := hSw; go_simp <;> with_reducible rfl)
    try simp only [Act.put, List.setIfInBounds_toArray, List.set_cons_zero, List.set_cons_succ]
    refine wpAnyH_done (by kernel_rfl) ?_ _
    clear hHeld kp0
    go_wp2_with fail
    have HWY : Hid _ := (writeY (fd := fillF c) (H8.out.pY j _ Sj HH.out.2.1 HH.out.2.2.1).1 HB.out (LD.out.by'.lk LD.out.c1 LD.out.c2 ⟨LD.out.by'.lt, by rw [LD.out.ro]; omega⟩) (fillF_b c) (by have := HH.out.2.2.2.2.2.2; omega))
    refine Calls.mono HWY.out ?_
    clear HWY
    rintro e w9 ⟨rfl, s9, f9⟩
    have m9 := Mv.ofFK f9
    have H9 : Hid (Wd W0 wb (ext ρ8 w8.heap.size (11 + 2 * j)) ps (Ss.set j (Sj.wS b 512 (fillF c))) (Ss.set j (Sj.wS b 512 (fillF c))) S L H hf w9) := H8.out.chY HH.out.2.1 f9 s9 (HH.out.2.2.2.2.2.1.wS b 512 (fillF_b c))
    have HM9 : Hid (Mv (fun r => r = 6) ρ (ext ρ8 w8.heap.size (11 + 2 * j)) W w9) := HM8.out.trans (m9.mono (fun r hr => by omega))
    have HK9 : Hid ((ext ρ8 w8.heap.size (11 + 2 * j)) ob = 6 ∧ (ext ρ8 w8.heap.size (11 + 2 * j)) pb = 6 ∧ ob < w9.heap.size ∧ pb < w9.heap.size) := m9.two HK8.out (by omega)
    replace LD : Hid _ := LD.out.mv m9 (by omega)
    replace HL : Hid _ := HL.out.mv m9 (by omega)
    generalize ext ρ8 w8.heap.size (11 + 2 * j) = ρ9 at H9 HM9 HK9 LD HL
    clear H8 HM8 HK8 s9 f9 m9 kp1 ko2
    go_wp2_with fail
    refine Calls.mono (backB_any (LD.out.by'.byts LD.out.c1 LD.out.c2 (fillF_b c)) (by omega) HL.out.by') ?_
    rintro e w10 ⟨rfl, f10⟩
    have m10 := Mv.ofFr f10 HL.out.ro 5
    have H10 : Hid (Wd W0 wb (ext ρ9 w9.heap.size 5) ps (Ss.set j (Sj.wS b 512 (fillF c))) (Ss.set j (Sj.wS b 512 (fillF c))) S L H hf w10) := H9.out.mv m10 (by omega) (fun r hr => by omega)
    have HM10 : Hid (Mv (fun r => r = 6) ρ (ext ρ9 w9.heap.size 5) W w10) := HM9.out.trans (m10.mono (fun r hr => by omega))
    have HK10 : Hid ((ext ρ9 w9.heap.size 5) ob = 6 ∧ (ext ρ9 w9.heap.size 5) pb = 6 ∧ ob < w10.heap.size ∧ pb < w10.heap.size) := m10.two HK9.out (by omega)
    generalize ext ρ9 w9.heap.size 5 = ρ10 at H10 HM10 HK10 
    clear H9 HM9 HK9 f10 m10 LD HL
    generalize Sj.wE b 512 = EE
    have hEE : (EE == EE) = true := beq_self_eq_true _
    go_wp2_with fail
    go_ret
    exact ⟨by first | rfl | (simp; done), ρ10, ⟨_, _, _, _, _, _, H10.out, by have := HH.out.2.2.2.1; omega, set_bound HH.out.2.2.2.2.1 (by have := Sto.wS_len Sj b 512 (fillF c); have := HH.out.2.2.2.2.2.2; omega)⟩, HM10.out⟩
  · skip
    go_simp
    have ub : Up W1 (wd.alloc (Obj.cells #[.pointer none, .pointer none] 47)) := ud.alloc _
    have kb9 : (wd.alloc (Obj.cells #[.pointer none, .pointer none] 47)).heap[wd.heap.size]? = some (.cells #[.pointer none, .pointer none] 47 (0, 0)) := heap_alloc_new wd _
    refine hK.out _ _ (HSs.out _ ub) (fun hHeld => ?_)
    clear hK KK
    try simp only [Act.put, List.setIfInBounds_toArray, List.set_cons_zero, List.set_cons_succ]
    have HNB9 : W1.heap.size ≤ wd.heap.size := ud.size
    refine wpAnyH_ready (rs := [11]) (by kernel_rfl) (by simp) ?_
    refine AllReadyH.cons (by simp only [List.getElem?_toArray, List.getElem?_cons_succ, List.getElem?_cons_zero]; rfl) (fun KK hK => ?_) AllReadyH.nil
    go_simp
    refine (HPk.out _).mono ?_
    rintro e w' ⟨rfl, hw⟩
    obtain rfl := hw.symm
    clear hw
    refine hK.out _ _ (HSs.out _ ub) (fun hHeld => ?_)
    clear hK KK
    try simp only [Act.put, List.setIfInBounds_toArray, List.set_cons_zero, List.set_cons_succ]
    refine wpAnyH_take (i := 12) (v := ?_) (by simp only [List.getElem?_toArray, List.getElem?_cons_succ, List.getElem?_cons_zero]; rfl) (by kernel_rfl) (by kernel_rfl) (by kernel_rfl) (by intro _ _ _ h; exact h) (Or.inl ⟨by rfl, ?_⟩) (by assumption) ?_
    rotate_left
    · (intro w hSw; (try dsimp only at hSw); go_simp <;> with_reducible rfl)
    try simp only [Act.put, List.setIfInBounds_toArray, List.set_cons_zero, List.set_cons_succ]
    refine wpAnyH_take (i := 13) (v := .agg [.pointer (some ⟨p1, 0, none⟩), .pointer (some ⟨p2, 0, none⟩)].toArray) (by simp only [List.getElem?_toArray, List.getElem?_cons_succ, List.getElem?_cons_zero]; rfl) (by kernel_rfl) (by kernel_rfl) (by kernel_rfl) (by intro _ _ _ h; exact h) (yieldsIf_load_mid (by rfl) 47 _ rfl gl (j * 2) rfl [.pointer (some ⟨p1, 0, none⟩), .pointer (some ⟨p2, 0, none⟩)] _ (fun w hw => hw.2.2) Try.underlying47 rfl (by kernel_rfl)) (by assumption) ?_
    simp only [Act.put, List.setIfInBounds_toArray, List.set_cons_zero, List.set_cons_succ]
    refine wpAnyH_ready (rs := [15]) (by kernel_rfl) (by simp) ?_
    refine AllReadyH.cons (by simp only [List.getElem?_toArray, List.getElem?_cons_succ, List.getElem?_cons_zero]; rfl) (fun KK hK => ?_) AllReadyH.nil
    rw [if_pos (by rfl)]
    refine wp_store_mid 47 _ _ rfl (wd.heap.size) 0 #[.pointer (some ⟨p1, 0, none⟩), .pointer (some ⟨p2, 0, none⟩)] rfl rfl (there2 kb9) (by kernel_rfl) (by simp [Value.oneCell']) ?_
    have uz : Up W1 ((wd.alloc (Obj.cells #[.pointer none, .pointer none] 47)).setCells (wd.heap.size) 0 [.pointer (some ⟨p1, 0, none⟩), .pointer (some ⟨p2, 0, none⟩)]) := Fr.up (ub) HNB9 (fr_setCells _ _ 0 _)
    have kz : ((wd.alloc (Obj.cells #[.pointer none, .pointer none] 47)).setCells (wd.heap.size) 0 [.pointer (some ⟨p1, 0, none⟩), .pointer (some ⟨p2, 0, none⟩)]).heap[wd.heap.size]? = some (.cells #[.pointer (some ⟨p1, 0, none⟩), .pointer (some ⟨p2, 0, none⟩)] 47 (0, 0)) := heap_setCells_same _ _ _ 0 _ (wd.alloc (Obj.cells #[.pointer none, .pointer none] 47)) kb9
    refine hK.out _ _ (HSs.out _ uz) (fun hHeld => ?_)
    clear hK KK
    try simp only [Act.put, List.setIfInBounds_toArray, List.set_cons_zero, List.set_cons_succ]
    refine wpAnyH_done (by kernel_rfl) ?_ _
    obtain ⟨pb, hpb⟩ : ∃ pb, pb = wd.heap.size := ⟨_, rfl⟩
    rw [← hpb] at kz uz HNB9 ⊢
    clear hHeld hpb
    generalize World.setCells _ pb 0 _ = w4 at uz kz ⊢
    have u4 : Up W w4 := HU1.out.1.trans uz
    obtain ⟨ko1, ko2, ko3, ko4, ko5, ko0⟩ := HO1.out w4 uz
    have kp0 := heap_cell kz (o := 0) (v := .pointer (some ⟨p1, 0, none⟩)) rfl
    have kp1 := heap_cell kz (o := 1) (v := .pointer (some ⟨p2, 0, none⟩)) rfl
    have H4 : Hid (Wd W0 wb (ext ρ W.heap.size 6) ps Ss Ss S L H hf w4) := HH.out.1.upR u4 6
    have HM4 : Hid (Mv (fun r => r = 6) ρ (ext ρ W.heap.size 6) W w4) := Mv.ofUp ρ u4 6
    have HK4 : Hid (ext ρ W.heap.size 6 ob = 6 ∧ ext ρ W.heap.size 6 pb = 6 ∧ ob < w4.heap.size ∧ pb < w4.heap.size) := ⟨ext_ge HU1.out.2.1, ext_ge (Nat.le_trans HU1.out.1.size HNB9), World.block_lt_of_cell? _ _ ko2, World.block_lt_of_cell? _ _ kp0⟩
    generalize ext ρ W.heap.size 6 = ρ4 at H4 HM4 HK4
    clear u4 uz kz HNB9 ko1 ko5
    go_wp2_with fail
    refine Calls.mono (filled_any (v := c) (more := 0) (m := 512) HC.out (by omega) (by omega)) ?_
    rintro e w5 ⟨dg, dc, rfl, q1, q2, q3, q4, u5⟩
    have LD : Hid (Yst 9 (ext ρ4 w4.heap.size 9) w5 dg 512 dc (fillF c)) := ⟨q2, ext_ge q1, q3, q4⟩
    have H5 : Hid (Wd W0 wb (ext ρ4 w4.heap.size 9) ps Ss Ss S L H hf w5) := H4.out.upR u5 9
    have HM5 : Hid (Mv (fun r => r = 6) ρ (ext ρ4 w4.heap.size 9) W w5) := HM4.out.trans (Mv.ofUp ρ4 u5 9)
    have HK5 : Hid ((ext ρ4 w4.heap.size 9) ob = 6 ∧ (ext ρ4 w4.heap.size 9) pb = 6 ∧ ob < w5.heap.size ∧ pb < w5.heap.size) := (Mv.ofUp (R := fun _ => True) ρ4 u5 9).two HK4.out trivial
    replace kp0 := cell_up u5 kp0
    replace kp1 := cell_up u5 kp1
    replace ko2 := cell_up u5 ko2
    replace ko3 := cell_up u5 ko3
    replace ko4 := cell_up u5 ko4
    generalize ext ρ4 w4.heap.size 9 = ρ5 at H5 HM5 HK5 LD
    clear H4 HM4 HK4 u5 q1 q2 q3 q4 ko0
    have hdc := LD.out.c1
    have hdm : dc ≤ 9223372036854775807 := by have := LD.out.c2; unfold maxLen at this; omega
    go_wp2_with fail
    refine Calls.mono (lentB_any (LD.out.by'.byts LD.out.c1 LD.out.c2 (fillF_b c)) (by omega)) ?_
    rintro e w6 ⟨l, rfl, q1, q2, u6⟩
    have HL : Hid (Yst 5 (ext ρ5 w5.heap.size 5) w6 l (512 + 8) (512 + 8) (lentF 512 (fillF c))) := ⟨q2, ext_ge q1, Nat.le_refl _, by unfold maxLen; omega⟩
    have H6 : Hid (Wd W0 wb (ext ρ5 w5.heap.size 5) ps Ss Ss S L H hf w6) := H5.out.upR u6 5
    have HM6 : Hid (Mv (fun r => r = 6) ρ (ext ρ5 w5.heap.size 5) W w6) := HM5.out.trans (Mv.ofUp ρ5 u6 5)
    have HK6 : Hid ((ext ρ5 w5.heap.size 5) ob = 6 ∧ (ext ρ5 w5.heap.size 5) pb = 6 ∧ ob < w6.heap.size ∧ pb < w6.heap.size) := (Mv.ofUp (R := fun _ => True) ρ5 u6 5).two HK5.out trivial
    replace kp0 := cell_up u6 kp0
    replace kp1 := cell_up u6 kp1
    replace ko2 := cell_up u6 ko2
    replace LD : Hid _ := LD.out.mv (R := fun _ => True) (Mv.ofUp ρ5 u6 5) trivial
    generalize ext ρ5 w5.heap.size 5 = ρ6 at H6 HM6 HK6 LD HL
    clear H5 HM5 HK5 u6 q1 q2 ko3 ko4
    go_upto_region 33 with fail
    refine wp_region_held_drew (S := fun w => (w.cell? ⟨pb, 0, none⟩ = some (.pointer (some ⟨p1, 0, none⟩))) ∧ (w.cell? ⟨pb, 1, none⟩ = some (.pointer (some ⟨p2, 0, none⟩))) ∧ (w.cell? ⟨ob, 2, none⟩ = some (.int .i64 b))) (by kernel_rfl) ⟨cell_up ((Up.refl w6).drew) kp0, cell_up ((Up.refl w6).drew) kp1, cell_up ((Up.refl w6).drew) ko2⟩ (fun hHeld => ?_)
    have u7 : Up w6 w6.drew := (Up.refl w6).drew
    generalize hwd7 : World.drew w6 = w7 at u7 hHeld ⊢
    clear hwd7
    have H7 : Hid (Wd W0 wb (ext ρ6 w6.heap.size 5) ps Ss Ss S L H hf w7) := H6.out.upR u7 5
    have HM7 : Hid (Mv (fun r => r = 6) ρ (ext ρ6 w6.heap.size 5) W w7) := HM6.out.trans (Mv.ofUp ρ6 u7 5)
    have HK7 : Hid ((ext ρ6 w6.heap.size 5) ob = 6 ∧ (ext ρ6 w6.heap.size 5) pb = 6 ∧ ob < w7.heap.size ∧ pb < w7.heap.size) := (Mv.ofUp (R := fun _ => True) ρ6 u7 5).two HK6.out trivial
    replace kp0 := cell_up u7 kp0
    replace kp1 := cell_up u7 kp1
    replace ko2 := cell_up u7 ko2
    replace LD : Hid _ := LD.out.mv (R := fun _ => True) (Mv.ofUp ρ6 u7 5) trivial
    replace HL : Hid _ := HL.out.mv (R := fun _ => True) (Mv.ofUp ρ6 u7 5) trivial
    generalize ext ρ6 w6.heap.size 5 = ρ7 at H7 HM7 HK7 LD HL
    clear H6 HM6 HK6 u7
    refine wpAnyH_take (i := 0) (v := ?_) (by simp only [List.getElem?_toArray, List.getElem?_cons_zero]; rfl) (by kernel_rfl) (by kernel_rfl) (by kernel_rfl) (by intro _ _ _ h; exact h) (Or.inl ⟨by rfl, ?_⟩) (by assumption) ?_
    rotate_left
    · (intro w hSw; (try dsimp only at hSw); obtain ⟨hS0, hS1, hS2⟩ := hSw; go_simp <;> with_reducible rfl)
    try simp only [Act.put, List.setIfInBounds_toArray, List.set_cons_zero, List.set_cons_succ]
    refine wpAnyH_take (i := 1) (v := ?_) (by simp only [List.getElem?_toArray, List.getElem?_cons_succ, List.getElem?_cons_zero]; rfl) (by kernel_rfl) (by kernel_rfl) (by kernel_rfl) (by intro _ _ _ h; exact h) (Or.inl ⟨by rfl, ?_⟩) (by assumption) ?_
    rotate_left
    · (intro w hSw; (try dsimp only at hSw); obtain ⟨hS0, hS1, hS2⟩ := hSw; go_simp <;> with_reducible rfl)
    try simp only [Act.put, List.setIfInBounds_toArray, List.set_cons_zero, List.set_cons_succ]
    refine wpAnyH_take (i := 2) (v := ?_) (by simp only [List.getElem?_toArray, List.getElem?_cons_succ, List.getElem?_cons_zero]; rfl) (by kernel_rfl) (by kernel_rfl) (by kernel_rfl) (by intro _ _ _ h; exact h) (Or.inl ⟨by rfl, ?_⟩) (by assumption) ?_
    rotate_left
    · (intro w hSw; (try dsimp only at hSw); obtain ⟨hS0, hS1, hS2⟩ := hSw; go_simp <;> with_reducible rfl)
    try simp only [Act.put, List.setIfInBounds_toArray, List.set_cons_zero, List.set_cons_succ]
    refine wpAnyH_take (i := 3) (v := ?_) (by simp only [List.getElem?_toArray, List.getElem?_cons_succ, List.getElem?_cons_zero]; rfl) (by kernel_rfl) (by kernel_rfl) (by kernel_rfl) (by intro _ _ _ h; exact h) (Or.inl ⟨by rfl, ?_⟩) (by assumption) ?_
    rotate_left
    · (intro w hSw; (try dsimp only at hSw); obtain ⟨hS0, hS1, hS2⟩ := hSw; go_simp <;> with_reducible rfl)
    try simp only [Act.put, List.setIfInBounds_toArray, List.set_cons_zero, List.set_cons_succ]
    refine wpAnyH_take (i := 4) (v := ?_) (by simp only [List.getElem?_toArray, List.getElem?_cons_succ, List.getElem?_cons_zero]; rfl) (by kernel_rfl) (by kernel_rfl) (by kernel_rfl) (by intro _ _ _ h; exact h) (Or.inl ⟨by rfl, ?_⟩) (by assumption) ?_
    rotate_left
    · (intro w hSw; (try dsimp only at hSw); obtain ⟨hS0, hS1, hS2⟩ := hSw; go_simp <;> with_reducible rfl)
    try simp only [Act.put, List.setIfInBounds_toArray, List.set_cons_zero, List.set_cons_succ]
    refine wpAnyH_take (i := 5) (v := ?_) (by simp only [List.getElem?_toArray, List.getElem?_cons_succ, List.getElem?_cons_zero]; rfl) (by kernel_rfl) (by kernel_rfl) (by kernel_rfl) (by intro _ _ _ h; exact h) (Or.inl ⟨by rfl, ?_⟩) (by assumption) ?_
    rotate_left
    · (intro w hSw; (try dsimp only at hSw); obtain ⟨hS0, hS1, hS2⟩ := hSw; go_simp <;> with_reducible rfl)
    try simp only [Act.put, List.setIfInBounds_toArray, List.set_cons_zero, List.set_cons_succ]
    refine wpAnyH_take (i := 6) (v := ?_) (by simp only [List.getElem?_toArray, List.getElem?_cons_succ, List.getElem?_cons_zero]; rfl) (by kernel_rfl) (by kernel_rfl) (by kernel_rfl) (by intro _ _ _ h; exact h) (Or.inl ⟨by rfl, ?_⟩) (by assumption) ?_
    rotate_left
    · (intro w hSw; (try dsimp only at hSw); obtain ⟨hS0, hS1, hS2⟩ := hSw; go_simp <;> with_reducible rfl)
    try simp only [Act.put, List.setIfInBounds_toArray, List.set_cons_zero, List.set_cons_succ]
    refine wpAnyH_take (i := 7) (v := ?_) (by simp only [List.getElem?_toArray, List.getElem?_cons_succ, List.getElem?_cons_zero]; rfl) (by kernel_rfl) (by kernel_rfl) (by kernel_rfl) (by intro _ _ _ h; exact h) (Or.inl ⟨by rfl, ?_⟩) (by assumption) ?_
    rotate_left
    · (intro w hSw; (try dsimp only at hSw); obtain ⟨hS0, hS1, hS2⟩ := hSw; go_simp <;> with_reducible rfl)
    try simp only [Act.put, List.setIfInBounds_toArray, List.set_cons_zero, List.set_cons_succ]
    refine wpAnyH_ready (rs := [8]) (by kernel_rfl) (by simp) ?_
    refine AllReadyH.cons (by simp only [List.getElem?_toArray, List.getElem?_cons_succ, List.getElem?_cons_zero]; rfl) (fun KK hK => ?_) AllReadyH.nil
    go_simp
    have HWX : Hid _ := (writeX (aa := some ⟨l, 0, none⟩) (n := 512) (c := 520) (fd := fillF c) (H7.out.pX j _ Sj HH.out.2.1 HH.out.2.2.1).1 HB.out (by
      obtain ⟨cs, ty, q1, q2, q3⟩ := HL.out.by'.row
      have hl : By w7 l 512 (fillF c) := ⟨cs, ty, q1, by omega, fun k hk => by rw [q3 k (by omega)]; unfold lentF; rw [if_pos hk]⟩
      exact hl.lk (by omega) (by unfold maxLen; omega) ⟨HL.out.by'.lt, by rw [HL.out.ro]; omega⟩) (by have := HH.out.2.2.2.2.2.2; omega))
    refine Calls.mono HWX.out ?_
    clear HWX
    rintro e w8 ⟨rfl, s8, f8⟩
    have m8 := Mv.ofFK f8
    have H8 : Hid (Wd W0 wb (ext ρ7 w7.heap.size (10 + 2 * j)) ps (Ss.set j (Sj.wS b 512 (fillF c))) Ss S L H hf w8) := H7.out.chX HH.out.2.1 f8 s8 (HH.out.2.2.2.2.2.1.wS b 512 (fillF_b c))
    have HM8 : Hid (Mv (fun r => r = 6) ρ (ext ρ7 w7.heap.size (10 + 2 * j)) W w8) := HM7.out.trans (m8.mono (fun r hr => by omega))
    have HK8 : Hid ((ext ρ7 w7.heap.size (10 + 2 * j)) ob = 6 ∧ (ext ρ7 w7.heap.size (10 + 2 * j)) pb = 6 ∧ ob < w8.heap.size ∧ pb < w8.heap.size) := m8.two HK7.out (by omega)
    replace kp0 := m8.cell (by rw [HK7.out.2.1]; omega) kp0
    replace kp1 := m8.cell (by rw [HK7.out.2.1]; omega) kp1
    replace ko2 := m8.cell (by rw [HK7.out.1]; omega) ko2
    replace LD : Hid _ := LD.out.mv m8 (by omega)
    replace HL : Hid _ := HL.out.mv m8 (by omega)
    generalize ext ρ7 w7.heap.size (10 + 2 * j) = ρ8 at H8 HM8 HK8 LD HL
    clear H7 HM7 HK7 s8 f8 m8
    refine hK.out _ _ ⟨kp0, kp1, ko2⟩ (fun hHeld => ?_)
    clear hK KK
    try simp only [Act.put, List.setIfInBounds_toArray, List.set_cons_zero, List.set_cons_succ]
    refine wpAnyH_take (i := 9) (v := ?_) (by simp only [List.getElem?_toArray, List.getElem?_cons_succ, List.getElem?_cons_zero]; rfl) (by kernel_rfl) (by kernel_rfl) (by kernel_rfl) (by intro _ _ _ h; exact h) (Or.inl ⟨by rfl, ?_⟩) (by assumption) ?_
    rotate_left
    · (intro w hSw; (try dsimp only at hSw); obtain ⟨hS0, hS1, hS2⟩ := hSw; go_simp <;> with_reducible rfl)
    try simp only [Act.put, List.setIfInBounds_toArray, List.set_cons_zero, List.set_cons_succ]
    refine wpAnyH_done (by kernel_rfl) ?_ _
    clear hHeld kp0
    go_wp2_with fail
    have HWY : Hid _ := (writeY (fd := fillF c) (H8.out.pY j _ Sj HH.out.2.1 HH.out.2.2.1).1 HB.out (LD.out.by'.lk LD.out.c1 LD.out.c2 ⟨LD.out.by'.lt, by rw [LD.out.ro]; omega⟩) (fillF_b c) (by have := HH.out.2.2.2.2.2.2; omega))
    refine Calls.mono HWY.out ?_
    clear HWY
    rintro e w9 ⟨rfl, s9, f9⟩
    have m9 := Mv.ofFK f9
    have H9 : Hid (Wd W0 wb (ext ρ8 w8.heap.size (11 + 2 * j)) ps (Ss.set j (Sj.wS b 512 (fillF c))) (Ss.set j (Sj.wS b 512 (fillF c))) S L H hf w9) := H8.out.chY HH.out.2.1 f9 s9 (HH.out.2.2.2.2.2.1.wS b 512 (fillF_b c))
    have HM9 : Hid (Mv (fun r => r = 6) ρ (ext ρ8 w8.heap.size (11 + 2 * j)) W w9) := HM8.out.trans (m9.mono (fun r hr => by omega))
    have HK9 : Hid ((ext ρ8 w8.heap.size (11 + 2 * j)) ob = 6 ∧ (ext ρ8 w8.heap.size (11 + 2 * j)) pb = 6 ∧ ob < w9.heap.size ∧ pb < w9.heap.size) := m9.two HK8.out (by omega)
    replace LD : Hid _ := LD.out.mv m9 (by omega)
    replace HL : Hid _ := HL.out.mv m9 (by omega)
    generalize ext ρ8 w8.heap.size (11 + 2 * j) = ρ9 at H9 HM9 HK9 LD HL
    clear H8 HM8 HK8 s9 f9 m9 kp1 ko2
    go_wp2_with fail
    refine Calls.mono (backB_any (LD.out.by'.byts LD.out.c1 LD.out.c2 (fillF_b c)) (by omega) HL.out.by') ?_
    rintro e w10 ⟨rfl, f10⟩
    have m10 := Mv.ofFr f10 HL.out.ro 5
    have H10 : Hid (Wd W0 wb (ext ρ9 w9.heap.size 5) ps (Ss.set j (Sj.wS b 512 (fillF c))) (Ss.set j (Sj.wS b 512 (fillF c))) S L H hf w10) := H9.out.mv m10 (by omega) (fun r hr => by omega)
    have HM10 : Hid (Mv (fun r => r = 6) ρ (ext ρ9 w9.heap.size 5) W w10) := HM9.out.trans (m10.mono (fun r hr => by omega))
    have HK10 : Hid ((ext ρ9 w9.heap.size 5) ob = 6 ∧ (ext ρ9 w9.heap.size 5) pb = 6 ∧ ob < w10.heap.size ∧ pb < w10.heap.size) := m10.two HK9.out (by omega)
    generalize ext ρ9 w9.heap.size 5 = ρ10 at H10 HM10 HK10 
    clear H9 HM9 HK9 f10 m10 LD HL
    generalize Sj.wE b 512 = EE
    have hEE : (EE == EE) = true := beq_self_eq_true _
    go_wp2_with fail
    go_ret
    exact ⟨by first | rfl | (simp; done), ρ10, ⟨_, _, _, _, _, _, H10.out, by have := HH.out.2.2.2.1; omega, set_bound HH.out.2.2.2.2.1 (by have := Sto.wS_len Sj b 512 (fillF c); have := HH.out.2.2.2.2.2.2; omega)⟩, HM10.out⟩
end Go.Proofs.Ytekffilokdmfgaa
