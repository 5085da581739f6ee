/- Block: a step of the script: Sync and Limit. -/
import Derived.Test.YtekffilokdmfgaaBeJ
namespace Go.Proofs.Ytekffilokdmfgaa
open Go.RowKit
set_option linter.unusedVariables false
set_option linter.unusedSimpArgs false
variable {w w1 w2 w3 w4 w5 w6 w7 W W0 : World} {ρ ρ1 : Nat → Nat} {wb H n N : Nat} {ps : List (Nat × Nat)} {Ss : List Sto} {S : Nat → Prop} {L : Bd} {hf f : Nat → Int} {ls : Value} {pp b c d : Int}
set_option maxRecDepth 100000 in
set_option maxHeartbeats 8000000 in
theorem stepSync (h : Wd W0 wb ρ ps Ss Ss S L H hf W) (hN : L.es.length ≤ N) (hP : ∀ s ∈ Ss, s.pend.length ≤ N) (hN2 : N ≤ 16000000) (hn0 : ps ≠ []) (hpp : I64 pp) :
    Calls Try.prog 4 #[.pointer (some ⟨wb, 0, none⟩), .agg #[.int .i64 5, .int .i64 pp, .int .i64 b, .int .i64 c, .int .i64 d, ls]] W (StepAns W0 wb (N + 8) ρ W) := by
  obtain ⟨np, hnp⟩ : ∃ np, np = ps.length := ⟨_, rfl⟩
  have hn1 : 0 < np := by rw [hnp]; exact List.length_pos_iff.2 hn0
  have hl4 : np ≤ 4 := by rw [hnp]; exact h.l4
  obtain ⟨j, hj, hPk⟩ := pick_natL pp np hpp hn1 (by omega)
  obtain ⟨⟨p1, p2⟩, hp⟩ : ∃ p, ps[j]? = some p := ⟨_, List.getElem?_eq_getElem (by omega)⟩
  obtain ⟨Sj, hS⟩ : ∃ Sj, Ss[j]? = some Sj := ⟨_, List.getElem?_eq_getElem (by rw [h.xl]; omega)⟩
  obtain ⟨gl, lc, hgl, hlc, hrg⟩ : ∃ gl lc, L.x0 = .slice (some ⟨gl, 0, none⟩) np lc ∧ (np ≤ lc ∧ lc ≤ 9223372036854775807) ∧ W.rangeAt gl (j * 2) [.pointer (some ⟨p1, 0, none⟩), .pointer (some ⟨p2, 0, none⟩)] := by
    rcases own_cases h.pr with ⟨_, hn, _⟩ | ⟨gl, cap, hv2, hc1, hc2, _⟩
    · omega
    · have ho := h.pr
      rw [hv2] at ho
      have hpt := ptrs_at ps j _ hp
      have q1 := own_cell ho (j * 2) (by omega)
      have q2 := own_cell ho (j * 2 + 1) (by omega)
      rw [Nat.zero_add] at q1 q2
      exact ⟨gl, cap, by rw [hv2, hnp], ⟨by omega, by unfold maxLen at hc2; omega⟩, range2 (by rw [q1]; exact hpt.1) (by rw [q2]; exact hpt.2)⟩
  obtain ⟨l1, l2⟩ := hlc
  have HPk : Hid (∀ w, Calls Try.prog 9 #[.int .i64 pp, .int .i64 (np : Int)] w fun e w' => e = .returned (.int .i64 (j : Int)) ∧ w' = w) := hPk
  have HLV : Hid (∀ w, Up W w → w.cell? ⟨wb, 0, none⟩ = some (.slice (some ⟨gl, 0, none⟩) np lc) ∧ w.rangeAt gl (j * 2) [.pointer (some ⟨p1, 0, none⟩), .pointer (some ⟨p2, 0, none⟩)]) := fun w u => ⟨cell_up u (by rw [← hgl]; exact h.c0), fun k v hv => cell_up u (hrg k v hv)⟩
  have b0 : ((np : Int) == 0) = false := beq_eq_false_iff_ne.2 (by omega)
  have d0 : (j : Int) < (np : Int) := by omega
  have HWb : Hid (wb < W.heap.size) := h.pl
  have HH : Hid (Wd W0 wb ρ ps Ss Ss S L H hf W ∧ ps[j]? = some (p1, p2) ∧ Ss[j]? = some Sj ∧ L.es.length ≤ N ∧ (∀ s ∈ Ss, s.pend.length ≤ N) ∧ Sj.Gd ∧ Sj.pend.length ≤ N ∧ N ≤ 16000000) := ⟨h, hp, hS, hN, hP, (h.pX j _ Sj hp hS).2, hP Sj (List.mem_of_getElem? hS), hN2⟩
  clear h hN hP hp hS hn0 hpp hPk hrg hgl hnp hj hN2
  go_enter Try.func4, Try.ntmps4
  have hWbl : wb < W.heap.size := HWb.out
  have hWb2 : ¬ wb = W.heap.size := by omega
  have kw0 := (HLV.out W (Up.refl W)).1
  go_wp2_with fail
  have u1 : Up W (W.alloc (Obj.cells (opC 5 pp b c d ls) 31)) := (Up.refl W).alloc _
  have k1 : (W.alloc (Obj.cells (opC 5 pp b c d ls) 31)).heap[W.heap.size]? = some (.cells (opC 5 pp b c d ls) 31 (0, 0)) := heap_alloc_new W _
  have hob9 : W.heap.size < (W.alloc (Obj.cells (opC 5 pp b c d ls) 31)).heap.size := by simp
  clear kw0 hWb2 hWbl
  obtain ⟨ob, hob⟩ : ∃ ob, ob = W.heap.size := ⟨_, rfl⟩
  rw [← hob] at k1 hob9 ⊢
  generalize World.alloc W _ = W1 at u1 k1 hob9 ⊢
  have hob2 : W.heap.size ≤ ob := by omega
  clear hob
  have HO1 : Hid (∀ w, Up W1 w → w.cell? ⟨ob, 1, none⟩ = some (.int .i64 pp) ∧ w.cell? ⟨ob, 2, none⟩ = some (.int .i64 b) ∧ w.cell? ⟨ob, 3, none⟩ = some (.int .i64 c) ∧ w.cell? ⟨ob, 4, none⟩ = some (.int .i64 d) ∧ w.cell? ⟨ob, 5, none⟩ = some ls ∧ w.cell? ⟨ob, 0, none⟩ = some (.int .i64 5)) := fun w u => ⟨cell_up u (heap_cell k1 rfl), cell_up u (heap_cell k1 rfl), cell_up u (heap_cell k1 rfl), cell_up u (heap_cell k1 rfl), cell_up u (heap_cell k1 rfl), cell_up u (heap_cell k1 rfl)⟩
  have HSs : Hid (∀ w, Up W1 w → w.cell? ⟨wb, 0, none⟩ = some (.slice (some ⟨gl, 0, none⟩) np lc) ∧ w.cell? ⟨ob, 1, none⟩ = some (.int .i64 pp) ∧ w.rangeAt gl (j * 2) [.pointer (some ⟨p1, 0, none⟩), .pointer (some ⟨p2, 0, none⟩)]) := fun w u => ⟨(HLV.out w (u1.trans u)).1, (HO1.out w u).1, (HLV.out w (u1.trans u)).2⟩
  have HU1 : Hid (Up W W1 ∧ W.heap.size ≤ ob ∧ ob < W1.heap.size) := ⟨u1, hob2, hob9⟩
  clear u1 k1 hob9 hob2
  refine wp_region_held_drew (S := fun w => w.cell? ⟨wb, 0, none⟩ = some (.slice (some ⟨gl, 0, none⟩) np lc) ∧ w.cell? ⟨ob, 1, none⟩ = some (.int .i64 pp) ∧ w.rangeAt gl (j * 2) [.pointer (some ⟨p1, 0, none⟩), .pointer (some ⟨p2, 0, none⟩)]) (by kernel_rfl) (HSs.out _ (Up.refl W1).drew) (fun hHeld => ?_)
  have ud : Up W1 W1.drew := (Up.refl W1).drew
  generalize World.drew W1 = wd at ud hHeld ⊢
  refine wpAnyH_take (i := 0) (v := ?_) (by simp only [List.getElem?_toArray, List.getElem?_cons_zero]; rfl) (by kernel_rfl) (by kernel_rfl) (by kernel_rfl) (by intro _ _ _ h; exact h) (Or.inl ⟨by rfl, ?_⟩) (by assumption) ?_
  rotate_left
  · (intro w hSw; (try dsimp only at hSw); go_simp <;> with_reducible rfl)
  try simp only [Act.put, List.setIfInBounds_toArray, List.set_cons_zero, List.set_cons_succ]
  refine wpAnyH_take (i := 1) (v := ?_) (by simp only [List.getElem?_toArray, List.getElem?_cons_succ, List.getElem?_cons_zero]; rfl) (by kernel_rfl) (by kernel_rfl) (by kernel_rfl) (by intro _ _ _ h; exact h) (Or.inl ⟨by rfl, ?_⟩) (by assumption) ?_
  rotate_left
  · (intro w hSw; (try dsimp only at hSw); go_simp <;> with_reducible rfl)
  try simp only [Act.put, List.setIfInBounds_toArray, List.set_cons_zero, List.set_cons_succ]
  refine wpAnyH_take (i := 2) (v := ?_) (by simp only [List.getElem?_toArray, List.getElem?_cons_succ, List.getElem?_cons_zero]; rfl) (by kernel_rfl) (by kernel_rfl) (by kernel_rfl) (by intro _ _ _ h; exact h) (Or.inl ⟨by rfl, ?_⟩) (by assumption) ?_
  rotate_left
  · (intro w hSw; (try dsimp only at hSw); go_simp <;> with_reducible rfl)
  try simp only [Act.put, List.setIfInBounds_toArray, List.set_cons_zero, List.set_cons_succ]
  refine wpAnyH_take (i := 3) (v := ?_) (by simp only [List.getElem?_toArray, List.getElem?_cons_succ, List.getElem?_cons_zero]; rfl) (by kernel_rfl) (by kernel_rfl) (by kernel_rfl) (by intro _ _ _ h; exact h) (Or.inl ⟨by rfl, ?_⟩) (by assumption) ?_
  rotate_left
  · (intro w hSw; (try dsimp only at hSw); go_simp <;> with_reducible rfl)
  try simp only [Act.put, List.setIfInBounds_toArray, List.set_cons_zero, List.set_cons_succ]
  refine wpAnyH_take (i := 4) (v := ?_) (by simp only [List.getElem?_toArray, List.getElem?_cons_succ, List.getElem?_cons_zero]; rfl) (by kernel_rfl) (by kernel_rfl) (by kernel_rfl) (by intro _ _ _ h; exact h) (Or.inl ⟨by rfl, ?_⟩) (by assumption) ?_
  rotate_left
  · (intro w hSw; (try dsimp only at hSw); go_simp <;> with_reducible rfl)
  try simp only [Act.put, List.setIfInBounds_toArray, List.set_cons_zero, List.set_cons_succ]
  refine wpAnyH_take (i := 5) (v := ?_) (by simp only [List.getElem?_toArray, List.getElem?_cons_succ, List.getElem?_cons_zero]; rfl) (by kernel_rfl) (by kernel_rfl) (by kernel_rfl) (by intro _ _ _ h; exact h) (Or.inl ⟨by rfl, ?_⟩) (by assumption) ?_
  rotate_left
  · (intro w hSw; (try dsimp only at hSw); go_simp <;> with_reducible rfl)
  try simp only [Act.put, List.setIfInBounds_toArray, List.set_cons_zero, List.set_cons_succ]
  refine wpAnyH_take (i := 6) (v := ?_) (by simp only [List.getElem?_toArray, List.getElem?_cons_succ, List.getElem?_cons_zero]; rfl) (by kernel_rfl) (by kernel_rfl) (by kernel_rfl) (by intro _ _ _ h; exact h) (Or.inl ⟨by rfl, ?_⟩) (by assumption) ?_
  rotate_left
  · (intro w hSw; (try dsimp only at hSw); go_simp <;> with_reducible rfl)
  try simp only [Act.put, List.setIfInBounds_toArray, List.set_cons_zero, List.set_cons_succ]
  refine wpAnyH_take (i := 7) (v := ?_) (by simp only [List.getElem?_toArray, List.getElem?_cons_succ, List.getElem?_cons_zero]; rfl) (by kernel_rfl) (by kernel_rfl) (by kernel_rfl) (by intro _ _ _ h; exact h) (Or.inl ⟨by rfl, ?_⟩) (by assumption) ?_
  rotate_left
  · (intro w hSw; (try dsimp only at hSw); go_simp <;> with_reducible rfl)
  try simp only [Act.put, List.setIfInBounds_toArray, List.set_cons_zero, List.set_cons_succ]
  refine wpAnyH_take (i := 8) (v := ?_) (by simp only [List.getElem?_toArray, List.getElem?_cons_succ, List.getElem?_cons_zero]; rfl) (by kernel_rfl) (by kernel_rfl) (by kernel_rfl) (by intro _ _ _ h; exact h) (Or.inl ⟨by rfl, ?_⟩) (by assumption) ?_
  rotate_left
  · (intro w hSw; (try dsimp only at hSw); go_simp <;> with_reducible rfl)
  try simp only [Act.put, List.setIfInBounds_toArray, List.set_cons_zero, List.set_cons_succ]
  refine wpAnyH_take (i := 9) (v := ?_) (by simp only [List.getElem?_toArray, List.getElem?_cons_succ, List.getElem?_cons_zero]; rfl) (by kernel_rfl) (by kernel_rfl) (by kernel_rfl) (by intro _ _ _ h; exact h) (Or.inl ⟨by rfl, ?_⟩) (by assumption) ?_
  rotate_left
  · (intro w hSw; (try dsimp only at hSw); go_simp <;> with_reducible rfl)
  try simp only [Act.put, List.setIfInBounds_toArray, List.set_cons_zero, List.set_cons_succ]
  refine wpAnyH_take (i := 10) (v := ?_) (by simp only [List.getElem?_toArray, List.getElem?_cons_succ, List.getElem?_cons_zero]; rfl) (by kernel_rfl) (by kernel_rfl) (by kernel_rfl) (by intro _ _ _ h; exact h) (Or.inl ⟨by rfl, ?_⟩) (by assumption) ?_
  rotate_left
  · (intro w hSw; (try dsimp only at hSw); go_simp <;> with_reducible rfl)
  try simp only [Act.put, List.setIfInBounds_toArray, List.set_cons_zero, List.set_cons_succ]
  refine wpAnyH_ready (rs := [11, 14]) (by kernel_rfl) (by simp) ?_
  refine AllReadyH.cons (by simp only [List.getElem?_toArray, List.getElem?_cons_succ, List.getElem?_cons_zero]; rfl) (fun KK hK => ?_) (AllReadyH.cons (by simp only [List.getElem?_toArray, List.getElem?_cons_succ, List.getElem?_cons_zero]; rfl) (fun KK hK => ?_) AllReadyH.nil)
  · skip
    go_simp
    refine (HPk.out _).mono ?_
    rintro e w' ⟨rfl, hw⟩
    obtain rfl := hw.symm
    clear hw
    refine hK.out _ _ (HSs.out _ ud) (fun hHeld => ?_)
    clear hK KK
    try simp only [Act.put, List.setIfInBounds_toArray, List.set_cons_zero, List.set_cons_succ]
    refine wpAnyH_take (i := 12) (v := ?_) (by simp only [List.getElem?_toArray, List.getElem?_cons_succ, List.getElem?_cons_zero]; rfl) (by kernel_rfl) (by kernel_rfl) (by kernel_rfl) (by intro _ _ _ h; exact h) (Or.inl ⟨by rfl, ?_⟩) (by assumption) ?_
    rotate_left
    · (intro w hSw; (try dsimp only at hSw); go_simp <;> with_reducible rfl)
    try simp only [Act.put, List.setIfInBounds_toArray, List.set_cons_zero, List.set_cons_succ]
    refine wpAnyH_take (i := 13) (v := .agg [.pointer (some ⟨p1, 0, none⟩), .pointer (some ⟨p2, 0, none⟩)].toArray) (by simp only [List.getElem?_toArray, List.getElem?_cons_succ, List.getElem?_cons_zero]; rfl) (by kernel_rfl) (by kernel_rfl) (by kernel_rfl) (by intro _ _ _ h; exact h) (yieldsIf_load_mid (by rfl) 47 _ rfl gl (j * 2) rfl [.pointer (some ⟨p1, 0, none⟩), .pointer (some ⟨p2, 0, none⟩)] _ (fun w hw => hw.2.2) Try.underlying47 rfl (by kernel_rfl)) (by assumption) ?_
    simp only [Act.put, List.setIfInBounds_toArray, List.set_cons_zero, List.set_cons_succ]
    refine wpAnyH_ready (rs := [14]) (by kernel_rfl) (by simp) ?_
    refine AllReadyH.cons (by simp only [List.getElem?_toArray, List.getElem?_cons_succ, List.getElem?_cons_zero]; rfl) (fun KK hK => ?_) AllReadyH.nil
    go_simp
    have ub : Up W1 (wd.alloc (Obj.cells #[.pointer none, .pointer none] 47)) := ud.alloc _
    have kb9 : (wd.alloc (Obj.cells #[.pointer none, .pointer none] 47)).heap[wd.heap.size]? = some (.cells #[.pointer none, .pointer none] 47 (0, 0)) := heap_alloc_new wd _
    refine hK.out _ _ (HSs.out _ ub) (fun hHeld => ?_)
    clear hK KK
    try simp only [Act.put, List.setIfInBounds_toArray, List.set_cons_zero, List.set_cons_succ]
    have HNB9 : W1.heap.size ≤ wd.heap.size := ud.size
    refine wpAnyH_ready (rs := [15]) (by kernel_rfl) (by simp) ?_
    refine AllReadyH.cons (by simp only [List.getElem?_toArray, List.getElem?_cons_succ, List.getElem?_cons_zero]; rfl) (fun KK hK => ?_) AllReadyH.nil
    rw [if_pos (by rfl)]
    refine wp_store_mid 47 _ _ rfl (wd.heap.size) 0 #[.pointer (some ⟨p1, 0, none⟩), .pointer (some ⟨p2, 0, none⟩)] rfl rfl (there2 kb9) (by kernel_rfl) (by simp [Value.oneCell']) ?_
    have uz : Up W1 ((wd.alloc (Obj.cells #[.pointer none, .pointer none] 47)).setCells (wd.heap.size) 0 [.pointer (some ⟨p1, 0, none⟩), .pointer (some ⟨p2, 0, none⟩)]) := Fr.up (ub) HNB9 (fr_setCells _ _ 0 _)
    have kz : ((wd.alloc (Obj.cells #[.pointer none, .pointer none] 47)).setCells (wd.heap.size) 0 [.pointer (some ⟨p1, 0, none⟩), .pointer (some ⟨p2, 0, none⟩)]).heap[wd.heap.size]? = some (.cells #[.pointer (some ⟨p1, 0, none⟩), .pointer (some ⟨p2, 0, none⟩)] 47 (0, 0)) := heap_setCells_same _ _ _ 0 _ (wd.alloc (Obj.cells #[.pointer none, .pointer none] 47)) kb9
    refine hK.out _ _ (HSs.out _ uz) (fun hHeld => ?_)
    clear hK KK
    try simp only [Act.put, List.setIfInBounds_toArray, List.set_cons_zero, List.set_cons_succ]
    refine wpAnyH_done (by kernel_rfl) ?_ _
    obtain ⟨pb, hpb⟩ : ∃ pb, pb = wd.heap.size := ⟨_, rfl⟩
    rw [← hpb] at kz uz HNB9 ⊢
    clear hHeld hpb
    generalize World.setCells _ pb 0 _ = w4 at uz kz ⊢
    have u4 : Up W w4 := HU1.out.1.trans uz
    obtain ⟨ko1, ko2, ko3, ko4, ko5, ko0⟩ := HO1.out w4 uz
    have kp0 := heap_cell kz (o := 0) (v := .pointer (some ⟨p1, 0, none⟩)) rfl
    have kp1 := heap_cell kz (o := 1) (v := .pointer (some ⟨p2, 0, none⟩)) rfl
    have H4 : Hid (Wd W0 wb (ext ρ W.heap.size 6) ps Ss Ss S L H hf w4) := HH.out.1.upR u4 6
    have HM4 : Hid (Mv (fun r => r = 6) ρ (ext ρ W.heap.size 6) W w4) := Mv.ofUp ρ u4 6
    have HK4 : Hid (ext ρ W.heap.size 6 ob = 6 ∧ ext ρ W.heap.size 6 pb = 6 ∧ ob < w4.heap.size ∧ pb < w4.heap.size) := ⟨ext_ge HU1.out.2.1, ext_ge (Nat.le_trans HU1.out.1.size HNB9), World.block_lt_of_cell? _ _ ko2, World.block_lt_of_cell? _ _ kp0⟩
    generalize ext ρ W.heap.size 6 = ρ4 at H4 HM4 HK4
    clear u4 uz kz HNB9 ko1 ko2 ko3 ko4 ko5
    go_wp2_with fail
    refine Calls.mono (sync_any (H4.out.pX j _ Sj HH.out.2.1 HH.out.2.2.1).1 (by have := HH.out.2.2.2.2.2.2; omega)) ?_
    rintro e w5 ⟨rfl, s5, f5⟩
    have m5 := Mv.ofFK f5
    have H5 : Hid (Wd W0 wb (ext ρ4 w4.heap.size (10 + 2 * j)) ps (Ss.set j Sj.synced) Ss S L H hf w5) := H4.out.chX HH.out.2.1 f5 s5 HH.out.2.2.2.2.2.1.synced
    have HM5 : Hid (Mv (fun r => r = 6) ρ (ext ρ4 w4.heap.size (10 + 2 * j)) W w5) := HM4.out.trans (m5.mono (fun r hr => by omega))
    have HK5 : Hid ((ext ρ4 w4.heap.size (10 + 2 * j)) ob = 6 ∧ (ext ρ4 w4.heap.size (10 + 2 * j)) pb = 6 ∧ ob < w5.heap.size ∧ pb < w5.heap.size) := m5.two HK4.out (by omega)
    replace kp1 := m5.cell (by rw [HK4.out.2.1]; omega) kp1
    generalize ext ρ4 w4.heap.size (10 + 2 * j) = ρ5 at H5 HM5 HK5 
    clear H4 HM4 HK4 s5 f5 m5 kp0 ko0
    go_wp2_with fail
    refine Calls.mono (syncR_any (H5.out.pY j _ Sj HH.out.2.1 HH.out.2.2.1).1 HH.out.2.2.2.2.2.1.s8 (by have := HH.out.2.2.2.2.2.2; omega)) ?_
    rintro e w6 ⟨rfl, s6, f6⟩
    have m6 := Mv.ofFK f6
    have H6 : Hid (Wd W0 wb (ext ρ5 w5.heap.size (11 + 2 * j)) ps (Ss.set j Sj.synced) (Ss.set j Sj.synced) S L H hf w6) := H5.out.chY HH.out.2.1 f6 s6 HH.out.2.2.2.2.2.1.synced
    have HM6 : Hid (Mv (fun r => r = 6) ρ (ext ρ5 w5.heap.size (11 + 2 * j)) W w6) := HM5.out.trans (m6.mono (fun r hr => by omega))
    have HK6 : Hid ((ext ρ5 w5.heap.size (11 + 2 * j)) ob = 6 ∧ (ext ρ5 w5.heap.size (11 + 2 * j)) pb = 6 ∧ ob < w6.heap.size ∧ pb < w6.heap.size) := m6.two HK5.out (by omega)
    generalize ext ρ5 w5.heap.size (11 + 2 * j) = ρ6 at H6 HM6 HK6 
    clear H5 HM5 HK5 s6 f6 m6 kp1
    go_wp2_with fail
    go_ret
    exact ⟨by first | rfl | (simp; done), ρ6, ⟨_, _, _, _, _, _, H6.out, by have := HH.out.2.2.2.1; omega, set_bound HH.out.2.2.2.2.1 (by show 0 ≤ N + 8; omega)⟩, HM6.out⟩
  · skip
    go_simp
    have ub : Up W1 (wd.alloc (Obj.cells #[.pointer none, .pointer none] 47)) := ud.alloc _
    have kb9 : (wd.alloc (Obj.cells #[.pointer none, .pointer none] 47)).heap[wd.heap.size]? = some (.cells #[.pointer none, .pointer none] 47 (0, 0)) := heap_alloc_new wd _
    refine hK.out _ _ (HSs.out _ ub) (fun hHeld => ?_)
    clear hK KK
    try simp only [Act.put, List.setIfInBounds_toArray, List.set_cons_zero, List.set_cons_succ]
    have HNB9 : W1.heap.size ≤ wd.heap.size := ud.size
    refine wpAnyH_ready (rs := [11]) (by kernel_rfl) (by simp) ?_
    refine AllReadyH.cons (by simp only [List.getElem?_toArray, List.getElem?_cons_succ, List.getElem?_cons_zero]; rfl) (fun KK hK => ?_) AllReadyH.nil
    go_simp
    refine (HPk.out _).mono ?_
    rintro e w' ⟨rfl, hw⟩
    obtain rfl := hw.symm
    clear hw
    refine hK.out _ _ (HSs.out _ ub) (fun hHeld => ?_)
    clear hK KK
    try simp only [Act.put, List.setIfInBounds_toArray, List.set_cons_zero, List.set_cons_succ]
    refine wpAnyH_take (i := 12) (v := ?_) (by simp only [List.getElem?_toArray, List.getElem?_cons_succ, List.getElem?_cons_zero]; rfl) (by kernel_rfl) (by kernel_rfl) (by kernel_rfl) (by intro _ _ _ h; exact h) (Or.inl ⟨by rfl, ?_⟩) (by assumption) ?_
    rotate_left
    · (intro w hSw; (try dsimp only at hSw); go_simp <;> with_reducible rfl)
    try simp only [Act.put, List.setIfInBounds_toArray, List.set_cons_zero, List.set_cons_succ]
    refine wpAnyH_take (i := 13) (v := .agg [.pointer (some ⟨p1, 0, none⟩), .pointer (some ⟨p2, 0, none⟩)].toArray) (by simp only [List.getElem?_toArray, List.getElem?_cons_succ, List.getElem?_cons_zero]; rfl) (by kernel_rfl) (by kernel_rfl) (by kernel_rfl) (by intro _ _ _ h; exact h) (yieldsIf_load_mid (by rfl) 47 _ rfl gl (j * 2) rfl [.pointer (some ⟨p1, 0, none⟩), .pointer (some ⟨p2, 0, none⟩)] _ (fun w hw => hw.2.2) Try.underlying47 rfl (by kernel_rfl)) (by assumption) ?_
    simp only [Act.put, List.setIfInBounds_toArray, List.set_cons_zero, List.set_cons_succ]
    refine wpAnyH_ready (rs := [15]) (by kernel_rfl) (by simp) ?_
    refine AllReadyH.cons (by simp only [List.getElem?_toArray, List.getElem?_cons_succ, List.getElem?_cons_zero]; rfl) (fun KK hK => ?_) AllReadyH.nil
    rw [if_pos (by rfl)]
    refine wp_store_mid 47 _ _ rfl (wd.heap.size) 0 #[.pointer (some ⟨p1, 0, none⟩), .pointer (some ⟨p2, 0, none⟩)] rfl rfl (there2 kb9) (by kernel_rfl) (by simp [Value.oneCell']) ?_
    have uz : Up W1 ((wd.alloc (Obj.cells #[.pointer none, .pointer none] 47)).setCells (wd.heap.size) 0 [.pointer (some ⟨p1, 0, none⟩), .pointer (some ⟨p2, 0, none⟩)]) := Fr.up (ub) HNB9 (fr_setCells _ _ 0 _)
    have kz : ((wd.alloc (Obj.cells #[.pointer none, .pointer none] 47)).setCells (wd.heap.size) 0 [.pointer (some ⟨p1, 0, none⟩), .pointer (some ⟨p2, 0, none⟩)]).heap[wd.heap.size]? = some (.cells #[.pointer (some ⟨p1, 0, none⟩), .pointer (some ⟨p2, 0, none⟩)] 47 (0, 0)) := heap_setCells_same _ _ _ 0 _ (wd.alloc (Obj.cells #[.pointer none, .pointer none] 47)) kb9
    refine hK.out _ _ (HSs.out _ uz) (fun hHeld => ?_)
    clear hK KK
    try simp only [Act.put, List.setIfInBounds_toArray, List.set_cons_zero, List.set_cons_succ]
    refine wpAnyH_done (by kernel_rfl) ?_ _
    obtain ⟨pb, hpb⟩ : ∃ pb, pb = wd.heap.size := ⟨_, rfl⟩
    rw [← hpb] at kz uz HNB9 ⊢
    clear hHeld hpb
    generalize World.setCells _ pb 0 _ = w4 at uz kz ⊢
    have u4 : Up W w4 := HU1.out.1.trans uz
    obtain ⟨ko1, ko2, ko3, ko4, ko5, ko0⟩ := HO1.out w4 uz
    have kp0 := heap_cell kz (o := 0) (v := .pointer (some ⟨p1, 0, none⟩)) rfl
    have kp1 := heap_cell kz (o := 1) (v := .pointer (some ⟨p2, 0, none⟩)) rfl
    have H4 : Hid (Wd W0 wb (ext ρ W.heap.size 6) ps Ss Ss S L H hf w4) := HH.out.1.upR u4 6
    have HM4 : Hid (Mv (fun r => r = 6) ρ (ext ρ W.heap.size 6) W w4) := Mv.ofUp ρ u4 6
    have HK4 : Hid (ext ρ W.heap.size 6 ob = 6 ∧ ext ρ W.heap.size 6 pb = 6 ∧ ob < w4.heap.size ∧ pb < w4.heap.size) := ⟨ext_ge HU1.out.2.1, ext_ge (Nat.le_trans HU1.out.1.size HNB9), World.block_lt_of_cell? _ _ ko2, World.block_lt_of_cell? _ _ kp0⟩
    generalize ext ρ W.heap.size 6 = ρ4 at H4 HM4 HK4
    clear u4 uz kz HNB9 ko1 ko2 ko3 ko4 ko5
    go_wp2_with fail
    refine Calls.mono (sync_any (H4.out.pX j _ Sj HH.out.2.1 HH.out.2.2.1).1 (by have := HH.out.2.2.2.2.2.2; omega)) ?_
    rintro e w5 ⟨rfl, s5, f5⟩
    have m5 := Mv.ofFK f5
    have H5 : Hid (Wd W0 wb (ext ρ4 w4.heap.size (10 + 2 * j)) ps (Ss.set j Sj.synced) Ss S L H hf w5) := H4.out.chX HH.out.2.1 f5 s5 HH.out.2.2.2.2.2.1.synced
    have HM5 : Hid (Mv (fun r => r = 6) ρ (ext ρ4 w4.heap.size (10 + 2 * j)) W w5) := HM4.out.trans (m5.mono (fun r hr => by omega))
    have HK5 : Hid ((ext ρ4 w4.heap.size (10 + 2 * j)) ob = 6 ∧ (ext ρ4 w4.heap.size (10 + 2 * j)) pb = 6 ∧ ob < w5.heap.size ∧ pb < w5.heap.size) := m5.two HK4.out (by omega)
    replace kp1 := m5.cell (by rw [HK4.out.2.1]; omega) kp1
    generalize ext ρ4 w4.heap.size (10 + 2 * j) = ρ5 at H5 HM5 HK5 
    clear H4 HM4 HK4 s5 f5 m5 kp0 ko0
    go_wp2_with fail
    refine Calls.mono (syncR_any (H5.out.pY j _ Sj HH.out.2.1 HH.out.2.2.1).1 HH.out.2.2.2.2.2.1.s8 (by have := HH.out.2.2.2.2.2.2; omega)) ?_
    rintro e w6 ⟨rfl, s6, f6⟩
    have m6 := Mv.ofFK f6
    have H6 : Hid (Wd W0 wb (ext ρ5 w5.heap.size (11 + 2 * j)) ps (Ss.set j Sj.synced) (Ss.set j Sj.synced) S L H hf w6) := H5.out.chY HH.out.2.1 f6 s6 HH.out.2.2.2.2.2.1.synced
    have HM6 : Hid (Mv (fun r => r = 6) ρ (ext ρ5 w5.heap.size (11 + 2 * j)) W w6) := HM5.out.trans (m6.mono (fun r hr => by omega))
    have HK6 : Hid ((ext ρ5 w5.heap.size (11 + 2 * j)) ob = 6 ∧ (ext ρ5 w5.heap.size (11 + 2 * j)) pb = 6 ∧ ob < w6.heap.size ∧ pb < w6.heap.size) := m6.two HK5.out (by omega)
    generalize ext ρ5 w5.heap.size (11 + 2 * j) = ρ6 at H6 HM6 HK6 
    clear H5 HM5 HK5 s6 f6 m6 kp1
    go_wp2_with fail
    go_ret
    exact ⟨by first | rfl | (simp; done), ρ6, ⟨_, _, _, _, _, _, H6.out, by have := HH.out.2.2.2.1; omega, set_bound HH.out.2.2.2.2.1 (by show 0 ≤ N + 8; omega)⟩, HM6.out⟩
set_option maxRecDepth 100000 in
set_option maxHeartbeats 8000000 in
theorem stepLimit (h : Wd W0 wb ρ ps Ss Ss S L H hf W) (hN : L.es.length ≤ N) (hP : ∀ s ∈ Ss, s.pend.length ≤ N) (hN2 : N ≤ 16000000) (hn0 : ps ≠ []) (hpp : I64 pp) (hb : I64 b) :
    Calls Try.prog 4 #[.pointer (some ⟨wb, 0, none⟩), .agg #[.int .i64 6, .int .i64 pp, .int .i64 b, .int .i64 c, .int .i64 d, ls]] W (StepAns W0 wb (N + 8) ρ W) := by
  obtain ⟨np, hnp⟩ : ∃ np, np = ps.length := ⟨_, rfl⟩
  have hn1 : 0 < np := by rw [hnp]; exact List.length_pos_iff.2 hn0
  have hl4 : np ≤ 4 := by rw [hnp]; exact h.l4
  obtain ⟨j, hj, hPk⟩ := pick_natL pp np hpp hn1 (by omega)
  obtain ⟨⟨p1, p2⟩, hp⟩ : ∃ p, ps[j]? = some p := ⟨_, List.getElem?_eq_getElem (by omega)⟩
  obtain ⟨Sj, hS⟩ : ∃ Sj, Ss[j]? = some Sj := ⟨_, List.getElem?_eq_getElem (by rw [h.xl]; omega)⟩
  obtain ⟨gl, lc, hgl, hlc, hrg⟩ : ∃ gl lc, L.x0 = .slice (some ⟨gl, 0, none⟩) np lc ∧ (np ≤ lc ∧ lc ≤ 9223372036854775807) ∧ W.rangeAt gl (j * 2) [.pointer (some ⟨p1, 0, none⟩), .pointer (some ⟨p2, 0, none⟩)] := by
    rcases own_cases h.pr with ⟨_, hn, _⟩ | ⟨gl, cap, hv2, hc1, hc2, _⟩
    · omega
    · have ho := h.pr
      rw [hv2] at ho
      have hpt := ptrs_at ps j _ hp
      have q1 := own_cell ho (j * 2) (by omega)
      have q2 := own_cell ho (j * 2 + 1) (by omega)
      rw [Nat.zero_add] at q1 q2
      exact ⟨gl, cap, by rw [hv2, hnp], ⟨by omega, by unfold maxLen at hc2; omega⟩, range2 (by rw [q1]; exact hpt.1) (by rw [q2]; exact hpt.2)⟩
  obtain ⟨l1, l2⟩ := hlc
  have HPk : Hid (∀ w, Calls Try.prog 9 #[.int .i64 pp, .int .i64 (np : Int)] w fun e w' => e = .returned (.int .i64 (j : Int)) ∧ w' = w) := hPk
  have HLV : Hid (∀ w, Up W w → w.cell? ⟨wb, 0, none⟩ = some (.slice (some ⟨gl, 0, none⟩) np lc) ∧ w.rangeAt gl (j * 2) [.pointer (some ⟨p1, 0, none⟩), .pointer (some ⟨p2, 0, none⟩)]) := fun w u => ⟨cell_up u (by rw [← hgl]; exact h.c0), fun k v hv => cell_up u (hrg k v hv)⟩
  have b0 : ((np : Int) == 0) = false := beq_eq_false_iff_ne.2 (by omega)
  have d0 : (j : Int) < (np : Int) := by omega
  have HWb : Hid (wb < W.heap.size) := h.pl
  have HH : Hid (Wd W0 wb ρ ps Ss Ss S L H hf W ∧ ps[j]? = some (p1, p2) ∧ Ss[j]? = some Sj ∧ L.es.length ≤ N ∧ (∀ s ∈ Ss, s.pend.length ≤ N) ∧ Sj.Gd ∧ Sj.pend.length ≤ N ∧ N ≤ 16000000) := ⟨h, hp, hS, hN, hP, (h.pX j _ Sj hp hS).2, hP Sj (List.mem_of_getElem? hS), hN2⟩
  clear h hN hP hp hS hn0 hpp hPk hrg hgl hnp hj hN2
  have HB : Hid (I64 b) := hb
  clear hb
  go_enter Try.func4, Try.ntmps4
  have hWbl : wb < W.heap.size := HWb.out
  have hWb2 : ¬ wb = W.heap.size := by omega
  have kw0 := (HLV.out W (Up.refl W)).1
  go_wp2_with fail
  have u1 : Up W (W.alloc (Obj.cells (opC 6 pp b c d ls) 31)) := (Up.refl W).alloc _
  have k1 : (W.alloc (Obj.cells (opC 6 pp b c d ls) 31)).heap[W.heap.size]? = some (.cells (opC 6 pp b c d ls) 31 (0, 0)) := heap_alloc_new W _
  have hob9 : W.heap.size < (W.alloc (Obj.cells (opC 6 pp b c d ls) 31)).heap.size := by simp
  clear kw0 hWb2 hWbl
  obtain ⟨ob, hob⟩ : ∃ ob, ob = W.heap.size := ⟨_, rfl⟩
  rw [← hob] at k1 hob9 ⊢
  generalize World.alloc W _ = W1 at u1 k1 hob9 ⊢
  have hob2 : W.heap.size ≤ ob := by omega
  clear hob
  have HO1 : Hid (∀ w, Up W1 w → w.cell? ⟨ob, 1, none⟩ = some (.int .i64 pp) ∧ w.cell? ⟨ob, 2, none⟩ = some (.int .i64 b) ∧ w.cell? ⟨ob, 3, none⟩ = some (.int .i64 c) ∧ w.cell? ⟨ob, 4, none⟩ = some (.int .i64 d) ∧ w.cell? ⟨ob, 5, none⟩ = some ls ∧ w.cell? ⟨ob, 0, none⟩ = some (.int .i64 6)) := fun w u => ⟨cell_up u (heap_cell k1 rfl), cell_up u (heap_cell k1 rfl), cell_up u (heap_cell k1 rfl), cell_up u (heap_cell k1 rfl), cell_up u (heap_cell k1 rfl), cell_up u (heap_cell k1 rfl)⟩
  have HSs : Hid (∀ w, Up W1 w → w.cell? ⟨wb, 0, none⟩ = some (.slice (some ⟨gl, 0, none⟩) np lc) ∧ w.cell? ⟨ob, 1, none⟩ = some (.int .i64 pp) ∧ w.rangeAt gl (j * 2) [.pointer (some ⟨p1, 0, none⟩), .pointer (some ⟨p2, 0, none⟩)]) := fun w u => ⟨(HLV.out w (u1.trans u)).1, (HO1.out w u).1, (HLV.out w (u1.trans u)).2⟩
  have HU1 : Hid (Up W W1 ∧ W.heap.size ≤ ob ∧ ob < W1.heap.size) := ⟨u1, hob2, hob9⟩
  clear u1 k1 hob9 hob2
  refine wp_region_held_drew (S := fun w => w.cell? ⟨wb, 0, none⟩ = some (.slice (some ⟨gl, 0, none⟩) np lc) ∧ w.cell? ⟨ob, 1, none⟩ = some (.int .i64 pp) ∧ w.rangeAt gl (j * 2) [.pointer (some ⟨p1, 0, none⟩), .pointer (some ⟨p2, 0, none⟩)]) (by kernel_rfl) (HSs.out _ (Up.refl W1).drew) (fun hHeld => ?_)
  have ud : Up W1 W1.drew := (Up.refl W1).drew
  generalize World.drew W1 = wd at ud hHeld ⊢
  refine wpAnyH_take (i := 0) (v := ?_) (by simp only [List.getElem?_toArray, List.getElem?_cons_zero]; rfl) (by kernel_rfl) (by kernel_rfl) (by kernel_rfl) (by intro _ _ _ h; exact h) (Or.inl ⟨by rfl, ?_⟩) (by assumption) ?_
  rotate_left
  · (intro w hSw; (try dsimp only at hSw); go_simp <;> with_reducible rfl)
  try simp only [Act.put, List.setIfInBounds_toArray, List.set_cons_zero, List.set_cons_succ]
  refine wpAnyH_take (i := 1) (v := ?_) (by simp only [List.getElem?_toArray, List.getElem?_cons_succ, List.getElem?_cons_zero]; rfl) (by kernel_rfl) (by kernel_rfl) (by kernel_rfl) (by intro _ _ _ h; exact h) (Or.inl ⟨by rfl, ?_⟩) (by assumption) ?_
  rotate_left
  · (intro w hSw; (try dsimp only at hSw); go_simp <;> with_reducible rfl)
  try simp only [Act.put, List.setIfInBounds_toArray, List.set_cons_zero, List.set_cons_succ]
  refine wpAnyH_take (i := 2) (v := ?_) (by simp only [List.getElem?_toArray, List.getElem?_cons_succ, List.getElem?_cons_zero]; rfl) (by kernel_rfl) (by kernel_rfl) (by kernel_rfl) (by intro _ _ _ h; exact h) (Or.inl ⟨by rfl, ?_⟩) (by assumption) ?_
  rotate_left
  · (intro w hSw; (try dsimp only at hSw); go_simp <;> with_reducible rfl)
  try simp only [Act.put, List.setIfInBounds_toArray, List.set_cons_zero, List.set_cons_succ]
  refine wpAnyH_take (i := 3) (v := ?_) (by simp only [List.getElem?_toArray, List.getElem?_cons_succ, List.getElem?_cons_zero]; rfl) (by kernel_rfl) (by kernel_rfl) (by kernel_rfl) (by intro _ _ _ h; exact h) (Or.inl ⟨by rfl, ?_⟩) (by assumption) ?_
  rotate_left
  · (intro w hSw; (try dsimp only at hSw); go_simp <;> with_reducible rfl)
  try simp only [Act.put, List.setIfInBounds_toArray, List.set_cons_zero, List.set_cons_succ]
  refine wpAnyH_take (i := 4) (v := ?_) (by simp only [List.getElem?_toArray, List.getElem?_cons_succ, List.getElem?_cons_zero]; rfl) (by kernel_rfl) (by kernel_rfl) (by kernel_rfl) (by intro _ _ _ h; exact h) (Or.inl ⟨by rfl, ?_⟩) (by assumption) ?_
  rotate_left
  · (intro w hSw; (try dsimp only at hSw); go_simp <;> with_reducible rfl)
  try simp only [Act.put, List.setIfInBounds_toArray, List.set_cons_zero, List.set_cons_succ]
  refine wpAnyH_take (i := 5) (v := ?_) (by simp only [List.getElem?_toArray, List.getElem?_cons_succ, List.getElem?_cons_zero]; rfl) (by kernel_rfl) (by kernel_rfl) (by kernel_rfl) (by intro _ _ _ h; exact h) (Or.inl ⟨by rfl, ?_⟩) (by assumption) ?_
  rotate_left
  · (intro w hSw; (try dsimp only at hSw); go_simp <;> with_reducible rfl)
  try simp only [Act.put, List.setIfInBounds_toArray, List.set_cons_zero, List.set_cons_succ]
  refine wpAnyH_take (i := 6) (v := ?_) (by simp only [List.getElem?_toArray, List.getElem?_cons_succ, List.getElem?_cons_zero]; rfl) (by kernel_rfl) (by kernel_rfl) (by kernel_rfl) (by intro _ _ _ h; exact h) (Or.inl ⟨by rfl, ?_⟩) (by assumption) ?_
  rotate_left
  · (intro w hSw; (try dsimp only at hSw); go_simp <;> with_reducible rfl)
  try simp only [Act.put, List.setIfInBounds_toArray, List.set_cons_zero, List.set_cons_succ]
  refine wpAnyH_take (i := 7) (v := ?_) (by simp only [List.getElem?_toArray, List.getElem?_cons_succ, List.getElem?_cons_zero]; rfl) (by kernel_rfl) (by kernel_rfl) (by kernel_rfl) (by intro _ _ _ h; exact h) (Or.inl ⟨by rfl, ?_⟩) (by assumption) ?_
  rotate_left
  · (intro w hSw; (try dsimp only at hSw); go_simp <;> with_reducible rfl)
  try simp only [Act.put, List.setIfInBounds_toArray, List.set_cons_zero, List.set_cons_succ]
  refine wpAnyH_take (i := 8) (v := ?_) (by simp only [List.getElem?_toArray, List.getElem?_cons_succ, List.getElem?_cons_zero]; rfl) (by kernel_rfl) (by kernel_rfl) (by kernel_rfl) (by intro _ _ _ h; exact h) (Or.inl ⟨by rfl, ?_⟩) (by assumption) ?_
  rotate_left
  · (intro w hSw; (try dsimp only at hSw); go_simp <;> with_reducible rfl)
  try simp only [Act.put, List.setIfInBounds_toArray, List.set_cons_zero, List.set_cons_succ]
  refine wpAnyH_take (i := 9) (v := ?_) (by simp only [List.getElem?_toArray, List.getElem?_cons_succ, List.getElem?_cons_zero]; rfl) (by kernel_rfl) (by kernel_rfl) (by kernel_rfl) (by intro _ _ _ h; exact h) (Or.inl ⟨by rfl, ?_⟩) (by assumption) ?_
  rotate_left
  · (intro w hSw; (try dsimp only at hSw); go_simp <;> with_reducible rfl)
  try simp only [Act.put, List.setIfInBounds_toArray, List.set_cons_zero, List.set_cons_succ]
  refine wpAnyH_take (i := 10) (v := ?_) (by simp only [List.getElem?_toArray, List.getElem?_cons_succ, List.getElem?_cons_zero]; rfl) (by kernel_rfl) (by kernel_rfl) (by kernel_rfl) (by intro _ _ _ h; exact h) (Or.inl ⟨by rfl, ?_⟩) (by assumption) ?_
  rotate_left
  · (intro w hSw; (try dsimp only at hSw); go_simp <;> with_reducible rfl)
  try simp only [Act.put, List.setIfInBounds_toArray, List.set_cons_zero, List.set_cons_succ]
  refine wpAnyH_ready (rs := [11, 14]) (by kernel_rfl) (by simp) ?_
  refine AllReadyH.cons (by simp only [List.getElem?_toArray, List.getElem?_cons_succ, List.getElem?_cons_zero]; rfl) (fun KK hK => ?_) (AllReadyH.cons (by simp only [List.getElem?_toArray, List.getElem?_cons_succ, List.getElem?_cons_zero]; rfl) (fun KK hK => ?_) AllReadyH.nil)
  · skip
    go_simp
    refine (HPk.out _).mono ?_
    rintro e w' ⟨rfl, hw⟩
    obtain rfl := hw.symm
    clear hw
    refine hK.out _ _ (HSs.out _ ud) (fun hHeld => ?_)
    clear hK KK
    try simp only [Act.put, List.setIfInBounds_toArray, List.set_cons_zero, List.set_cons_succ]
    refine wpAnyH_take (i := 12) (v := ?_) (by simp only [List.getElem?_toArray, List.getElem?_cons_succ, List.getElem?_cons_zero]; rfl) (by kernel_rfl) (by kernel_rfl) (by kernel_rfl) (by intro _ _ _ h; exact h) (Or.inl ⟨by rfl, ?_⟩) (by assumption) ?_
    rotate_left
    · (intro w hSw; (try dsimp only at hSw); go_simp <;> with_reducible rfl)
    try simp only [Act.put, List.setIfInBounds_toArray, List.set_cons_zero, List.set_cons_succ]
    refine wpAnyH_take (i := 13) (v := .agg [.pointer (some ⟨p1, 0, none⟩), .pointer (some ⟨p2, 0, none⟩)].toArray) (by simp only [List.getElem?_toArray, List.getElem?_cons_succ, List.getElem?_cons_zero]; rfl) (by kernel_rfl) (by kernel_rfl) (by kernel_rfl) (by intro _ _ _ h; exact h) (yieldsIf_load_mid (by rfl) 47 _ rfl gl (j * 2) rfl [.pointer (some ⟨p1, 0, none⟩), .pointer (some ⟨p2, 0, none⟩)] _ (fun w hw => hw.2.2) Try.underlying47 rfl (by kernel_rfl)) (by assumption) ?_
    simp only [Act.put, List.setIfInBounds_toArray, List.set_cons_zero, List.set_cons_succ]
    refine wpAnyH_ready (rs := [14]) (by kernel_rfl) (by simp) ?_
    refine AllReadyH.cons (by simp only [List.getElem?_toArray, List.getElem?_cons_succ, List.getElem?_cons_zero]; rfl) (fun KK hK => ?_) AllReadyH.nil
    go_simp
    have ub : Up W1 (wd.alloc (Obj.cells #[.pointer none, .pointer none] 47)) := ud.alloc _
    have kb9 : (wd.alloc (Obj.cells #[.pointer none, .pointer none] 47)).heap[wd.heap.size]? = some (.cells #[.pointer none, .pointer none] 47 (0, 0)) := heap_alloc_new wd _
    refine hK.out _ _ (HSs.out _ ub) (fun hHeld => ?_)
    clear hK KK
    try simp only [Act.put, List.setIfInBounds_toArray, List.set_cons_zero, List.set_cons_succ]
    have HNB9 : W1.heap.size ≤ wd.heap.size := ud.size
    refine wpAnyH_ready (rs := [15]) (by kernel_rfl) (by simp) ?_
    refine AllReadyH.cons (by simp only [List.getElem?_toArray, List.getElem?_cons_succ, List.getElem?_cons_zero]; rfl) (fun KK hK => ?_) AllReadyH.nil
    rw [if_pos (by rfl)]
    refine wp_store_mid 47 _ _ rfl (wd.heap.size) 0 #[.pointer (some ⟨p1, 0, none⟩), .pointer (some ⟨p2, 0, none⟩)] rfl rfl (there2 kb9) (by kernel_rfl) (by simp [Value.oneCell']) ?_
    have uz : Up W1 ((wd.alloc (Obj.cells #[.pointer none, .pointer none] 47)).setCells (wd.heap.size) 0 [.pointer (some ⟨p1, 0, none⟩), .pointer (some ⟨p2, 0, none⟩)]) := Fr.up (ub) HNB9 (fr_setCells _ _ 0 _)
    have kz : ((wd.alloc (Obj.cells #[.pointer none, .pointer none] 47)).setCells (wd.heap.size) 0 [.pointer (some ⟨p1, 0, none⟩), .pointer (some ⟨p2, 0, none⟩)]).heap[wd.heap.size]? = some (.cells #[.pointer (some ⟨p1, 0, none⟩), .pointer (some ⟨p2, 0, none⟩)] 47 (0, 0)) := heap_setCells_same _ _ _ 0 _ (wd.alloc (Obj.cells #[.pointer none, .pointer none] 47)) kb9
    refine hK.out _ _ (HSs.out _ uz) (fun hHeld => ?_)
    clear hK KK
    try simp only [Act.put, List.setIfInBounds_toArray, List.set_cons_zero, List.set_cons_succ]
    refine wpAnyH_done (by kernel_rfl) ?_ _
    obtain ⟨pb, hpb⟩ : ∃ pb, pb = wd.heap.size := ⟨_, rfl⟩
    rw [← hpb] at kz uz HNB9 ⊢
    clear hHeld hpb
    generalize World.setCells _ pb 0 _ = w4 at uz kz ⊢
    have u4 : Up W w4 := HU1.out.1.trans uz
    obtain ⟨ko1, ko2, ko3, ko4, ko5, ko0⟩ := HO1.out w4 uz
    have kp0 := heap_cell kz (o := 0) (v := .pointer (some ⟨p1, 0, none⟩)) rfl
    have kp1 := heap_cell kz (o := 1) (v := .pointer (some ⟨p2, 0, none⟩)) rfl
    have H4 : Hid (Wd W0 wb (ext ρ W.heap.size 6) ps Ss Ss S L H hf w4) := HH.out.1.upR u4 6
    have HM4 : Hid (Mv (fun r => r = 6) ρ (ext ρ W.heap.size 6) W w4) := Mv.ofUp ρ u4 6
    have HK4 : Hid (ext ρ W.heap.size 6 ob = 6 ∧ ext ρ W.heap.size 6 pb = 6 ∧ ob < w4.heap.size ∧ pb < w4.heap.size) := ⟨ext_ge HU1.out.2.1, ext_ge (Nat.le_trans HU1.out.1.size HNB9), World.block_lt_of_cell? _ _ ko2, World.block_lt_of_cell? _ _ kp0⟩
    generalize ext ρ W.heap.size 6 = ρ4 at H4 HM4 HK4
    clear u4 uz kz HNB9 ko1 ko3 ko4 ko5
    go_wp2_with fail
    refine Calls.mono (limit_any (H4.out.pX j _ Sj HH.out.2.1 HH.out.2.2.1).1 HB.out) ?_
    rintro e w5 ⟨rfl, s5, f5⟩
    have m5 := Mv.ofFK f5
    have H5 : Hid (Wd W0 wb (ext ρ4 w4.heap.size (10 + 2 * j)) ps (Ss.set j (Sj.limit b)) Ss S L H hf w5) := H4.out.chX HH.out.2.1 f5 s5 (HH.out.2.2.2.2.2.1.limit b)
    have HM5 : Hid (Mv (fun r => r = 6) ρ (ext ρ4 w4.heap.size (10 + 2 * j)) W w5) := HM4.out.trans (m5.mono (fun r hr => by omega))
    have HK5 : Hid ((ext ρ4 w4.heap.size (10 + 2 * j)) ob = 6 ∧ (ext ρ4 w4.heap.size (10 + 2 * j)) pb = 6 ∧ ob < w5.heap.size ∧ pb < w5.heap.size) := m5.two HK4.out (by omega)
    replace kp1 := m5.cell (by rw [HK4.out.2.1]; omega) kp1
    replace ko2 := m5.cell (by rw [HK4.out.1]; omega) ko2
    generalize ext ρ4 w4.heap.size (10 + 2 * j) = ρ5 at H5 HM5 HK5 
    clear H4 HM4 HK4 s5 f5 m5 kp0 ko0
    go_wp2_with fail
    refine Calls.mono (limitR_any (H5.out.pY j _ Sj HH.out.2.1 HH.out.2.2.1).1 HB.out) ?_
    rintro e w6 ⟨rfl, s6, f6⟩
    have m6 := Mv.ofFK f6
    have H6 : Hid (Wd W0 wb (ext ρ5 w5.heap.size (11 + 2 * j)) ps (Ss.set j (Sj.limit b)) (Ss.set j (Sj.limit b)) S L H hf w6) := H5.out.chY HH.out.2.1 f6 s6 (HH.out.2.2.2.2.2.1.limit b)
    have HM6 : Hid (Mv (fun r => r = 6) ρ (ext ρ5 w5.heap.size (11 + 2 * j)) W w6) := HM5.out.trans (m6.mono (fun r hr => by omega))
    have HK6 : Hid ((ext ρ5 w5.heap.size (11 + 2 * j)) ob = 6 ∧ (ext ρ5 w5.heap.size (11 + 2 * j)) pb = 6 ∧ ob < w6.heap.size ∧ pb < w6.heap.size) := m6.two HK5.out (by omega)
    generalize ext ρ5 w5.heap.size (11 + 2 * j) = ρ6 at H6 HM6 HK6 
    clear H5 HM5 HK5 s6 f6 m6 kp1 ko2
    go_wp2_with fail
    go_ret
    exact ⟨by first | rfl | (simp; done), ρ6, ⟨_, _, _, _, _, _, H6.out, by have := HH.out.2.2.2.1; omega, set_bound HH.out.2.2.2.2.1 (by show Sj.pend.length ≤ N + 8; have := HH.out.2.2.2.2.2.2; omega)⟩, HM6.out⟩
  · skip
    go_simp
    have ub : Up W1 (wd.alloc (Obj.cells #[.pointer none, .pointer none] 47)) := ud.alloc _
    have kb9 : (wd.alloc (Obj.cells #[.pointer none, .pointer none] 47)).heap[wd.heap.size]? = some (.cells #[.pointer none, .pointer none] 47 (0, 0)) := heap_alloc_new wd _
    refine hK.out _ _ (HSs.out _ ub) (fun hHeld => ?_)
    clear hK KK
    try simp only [Act.put, List.setIfInBounds_toArray, List.set_cons_zero, List.set_cons_succ]
    have HNB9 : W1.heap.size ≤ wd.heap.size := ud.size
    refine wpAnyH_ready (rs := [11]) (by kernel_rfl) (by simp) ?_
    refine AllReadyH.cons (by simp only [List.getElem?_toArray, List.getElem?_cons_succ, List.getElem?_cons_zero]; rfl) (fun KK hK => ?_) AllReadyH.nil
    go_simp
    refine (HPk.out _).mono ?_
    rintro e w' ⟨rfl, hw⟩
    obtain rfl := hw.symm
    clear hw
    refine hK.out _ _ (HSs.out _ ub) (fun hHeld => ?_)
    clear hK KK
    try simp only [Act.put, List.setIfInBounds_toArray, List.set_cons_zero, List.set_cons_succ]
    refine wpAnyH_take (i := 12) (v := ?_) (by simp only [List.getElem?_toArray, List.getElem?_cons_succ, List.getElem?_cons_zero]; rfl) (by kernel_rfl) (by kernel_rfl) (by kernel_rfl) (by intro _ _ _ h; exact h) (Or.inl ⟨by rfl, ?_⟩) (by assumption) ?_
    rotate_left
    · (intro w hSw; (try dsimp only at hSw); go_simp <;> with_reducible rfl)
    try simp only [Act.put, List.setIfInBounds_toArray, List.set_cons_zero, List.set_cons_succ]
    refine wpAnyH_take (i := 13) (v := .agg [.pointer (some ⟨p1, 0, none⟩), .pointer (some ⟨p2, 0, none⟩)].toArray) (by simp only [List.getElem?_toArray, List.getElem?_cons_succ, List.getElem?_cons_zero]; rfl) (by kernel_rfl) (by kernel_rfl) (by kernel_rfl) (by intro _ _ _ h; exact h) (yieldsIf_load_mid (by rfl) 47 _ rfl gl (j * 2) rfl [.pointer (some ⟨p1, 0, none⟩), .pointer (some ⟨p2, 0, none⟩)] _ (fun w hw => hw.2.2) Try.underlying47 rfl (by kernel_rfl)) (by assumption) ?_
    simp only [Act.put, List.setIfInBounds_toArray, List.set_cons_zero, List.set_cons_succ]
    refine wpAnyH_ready (rs := [15]) (by kernel_rfl) (by simp) ?_
    refine AllReadyH.cons (by simp only [List.getElem?_toArray, List.getElem?_cons_succ, List.getElem?_cons_zero]; rfl) (fun KK hK => ?_) AllReadyH.nil
    rw [if_pos (by rfl)]
    refine wp_store_mid 47 _ _ rfl (wd.heap.size) 0 #[.pointer (some ⟨p1, 0, none⟩), .pointer (some ⟨p2, 0, none⟩)] rfl rfl (there2 kb9) (by kernel_rfl) (by simp [Value.oneCell']) ?_
    have uz : Up W1 ((wd.alloc (Obj.cells #[.pointer none, .pointer none] 47)).setCells (wd.heap.size) 0 [.pointer (some ⟨p1, 0, none⟩), .pointer (some ⟨p2, 0, none⟩)]) := Fr.up (ub) HNB9 (fr_setCells _ _ 0 _)
    have kz : ((wd.alloc (Obj.cells #[.pointer none, .pointer none] 47)).setCells (wd.heap.size) 0 [.pointer (some ⟨p1, 0, none⟩), .pointer (some ⟨p2, 0, none⟩)]).heap[wd.heap.size]? = some (.cells #[.pointer (some ⟨p1, 0, none⟩), .pointer (some ⟨p2, 0, none⟩)] 47 (0, 0)) := heap_setCells_same _ _ _ 0 _ (wd.alloc (Obj.cells #[.pointer none, .pointer none] 47)) kb9
    refine hK.out _ _ (HSs.out _ uz) (fun hHeld => ?_)
    clear hK KK
    try simp only [Act.put, List.setIfInBounds_toArray, List.set_cons_zero, List.set_cons_succ]
    refine wpAnyH_done (by kernel_rfl) ?_ _
    obtain ⟨pb, hpb⟩ : ∃ pb, pb = wd.heap.size := ⟨_, rfl⟩
    rw [← hpb] at kz uz HNB9 ⊢
    clear hHeld hpb
    generalize World.setCells _ pb 0 _ = w4 at uz kz ⊢
    have u4 : Up W w4 := HU1.out.1.trans uz
    obtain ⟨ko1, ko2, ko3, ko4, ko5, ko0⟩ := HO1.out w4 uz
    have kp0 := heap_cell kz (o := 0) (v := .pointer (some ⟨p1, 0, none⟩)) rfl
    have kp1 := heap_cell kz (o := 1) (v := .pointer (some ⟨p2, 0, none⟩)) rfl
    have H4 : Hid (Wd W0 wb (ext ρ W.heap.size 6) ps Ss Ss S L H hf w4) := HH.out.1.upR u4 6
    have HM4 : Hid (Mv (fun r => r = 6) ρ (ext ρ W.heap.size 6) W w4) := Mv.ofUp ρ u4 6
    have HK4 : Hid (ext ρ W.heap.size 6 ob = 6 ∧ ext ρ W.heap.size 6 pb = 6 ∧ ob < w4.heap.size ∧ pb < w4.heap.size) := ⟨ext_ge HU1.out.2.1, ext_ge (Nat.le_trans HU1.out.1.size HNB9), World.block_lt_of_cell? _ _ ko2, World.block_lt_of_cell? _ _ kp0⟩
    generalize ext ρ W.heap.size 6 = ρ4 at H4 HM4 HK4
    clear u4 uz kz HNB9 ko1 ko3 ko4 ko5
    go_wp2_with fail
    refine Calls.mono (limit_any (H4.out.pX j _ Sj HH.out.2.1 HH.out.2.2.1).1 HB.out) ?_
    rintro e w5 ⟨rfl, s5, f5⟩
    have m5 := Mv.ofFK f5
    have H5 : Hid (Wd W0 wb (ext ρ4 w4.heap.size (10 + 2 * j)) ps (Ss.set j (Sj.limit b)) Ss S L H hf w5) := H4.out.chX HH.out.2.1 f5 s5 (HH.out.2.2.2.2.2.1.limit b)
    have HM5 : Hid (Mv (fun r => r = 6) ρ (ext ρ4 w4.heap.size (10 + 2 * j)) W w5) := HM4.out.trans (m5.mono (fun r hr => by omega))
    have HK5 : Hid ((ext ρ4 w4.heap.size (10 + 2 * j)) ob = 6 ∧ (ext ρ4 w4.heap.size (10 + 2 * j)) pb = 6 ∧ ob < w5.heap.size ∧ pb < w5.heap.size) := m5.two HK4.out (by omega)
    replace kp1 := m5.cell (by rw [HK4.out.2.1]; omega) kp1
    replace ko2 := m5.cell (by rw [HK4.out.1]; omega) ko2
    generalize ext ρ4 w4.heap.size (10 + 2 * j) = ρ5 at H5 HM5 HK5 
    clear H4 HM4 HK4 s5 f5 m5 kp0 ko0
    go_wp2_with fail
    refine Calls.mono (limitR_any (H5.out.pY j _ Sj HH.out.2.1 HH.out.2.2.1).1 HB.out) ?_
    rintro e w6 ⟨rfl, s6, f6⟩
    have m6 := Mv.ofFK f6
    have H6 : Hid (Wd W0 wb (ext ρ5 w5.heap.size (11 + 2 * j)) ps (Ss.set j (Sj.limit b)) (Ss.set j (Sj.limit b)) S L H hf w6) := H5.out.chY HH.out.2.1 f6 s6 (HH.out.2.2.2.2.2.1.limit b)
    have HM6 : Hid (Mv (fun r => r = 6) ρ (ext ρ5 w5.heap.size (11 + 2 * j)) W w6) := HM5.out.trans (m6.mono (fun r hr => by omega))
    have HK6 : Hid ((ext ρ5 w5.heap.size (11 + 2 * j)) ob = 6 ∧ (ext ρ5 w5.heap.size (11 + 2 * j)) pb = 6 ∧ ob < w6.heap.size ∧ pb < w6.heap.size) := m6.two HK5.out (by omega)
    generalize ext ρ5 w5.heap.size (11 + 2 * j) = ρ6 at H6 HM6 HK6 
    clear H5 HM5 HK5 s6 f6 m6 kp1 ko2
    go_wp2_with fail
    go_ret
    exact ⟨by first | rfl | (simp; done), ρ6, ⟨_, _, _, _, _, _, H6.out, by have := HH.out.2.2.2.1; omega, set_bound HH.out.2.2.2.2.1 (by show Sj.pend.length ≤ N + 8; have := HH.out.2.2.2.2.2.2; omega)⟩, HM6.out⟩
end Go.Proofs.Ytekffilokdmfgaa
