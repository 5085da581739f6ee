/- Block: a step of the script: Crash. -/
import Derived.Test.YtekffilokdmfgaaBeQ
namespace Go.Proofs.Ytekffilokdmfgaa
open Go.RowKit
set_option linter.unusedVariables false
set_option linter.unusedSimpArgs false
variable {ia : Option Addr} {ib io il ic : Nat} {hh : Nat → Int}
variable {w w1 w2 w3 w4 w5 w6 w7 W W0 : World} {ρ ρ1 : Nat → Nat} {wb H n N : Nat} {ps : List (Nat × Nat)} {Ss : List Sto} {S : Nat → Prop} {L : Bd} {hf f : Nat → Int} {ls : Value} {pp b c d : Int}
set_option maxRecDepth 100000 in
set_option maxHeartbeats 8000000 in
theorem stepCrash (h : Wd W0 wb ρ ps Ss Ss S L H hf W) (hN : L.es.length ≤ N) (hP : ∀ s ∈ Ss, s.pend.length ≤ N) (hN2 : N ≤ 16000000) (hn0 : ps ≠ []) (hpp : I64 pp) (hI : Ist ρ W ia ib io il ic hh) (hI0 : ia = none → ic = 0) (hil : il ≤ 1048576) :
    Calls Try.prog 4 #[.pointer (some ⟨wb, 0, none⟩), .agg #[.int .i64 10, .int .i64 pp, .int .i64 b, .int .i64 c, .int .i64 d, .slice ia il ic]] W (StepAns W0 wb (N + 8) ρ W) := by
  obtain ⟨np, hnp⟩ : ∃ np, np = ps.length := ⟨_, rfl⟩
  have hn1 : 0 < np := by rw [hnp]; exact List.length_pos_iff.2 hn0
  have hl4 : np ≤ 4 := by rw [hnp]; exact h.l4
  obtain ⟨j, hj, hPk⟩ := pick_natL pp np hpp hn1 (by omega)
  obtain ⟨⟨p1, p2⟩, hp⟩ : ∃ p, ps[j]? = some p := ⟨_, List.getElem?_eq_getElem (by omega)⟩
  obtain ⟨Sj, hS⟩ : ∃ Sj, Ss[j]? = some Sj := ⟨_, List.getElem?_eq_getElem (by rw [h.xl]; omega)⟩
  obtain ⟨gl, lc, hgl, hlc, hrg⟩ : ∃ gl lc, L.x0 = .slice (some ⟨gl, 0, none⟩) np lc ∧ (np ≤ lc ∧ lc ≤ 9223372036854775807) ∧ W.rangeAt gl (j * 2) [.pointer (some ⟨p1, 0, none⟩), .pointer (some ⟨p2, 0, none⟩)] := by
    rcases own_cases h.pr with ⟨_, hn, _⟩ | ⟨gl, cap, hv2, hc1, hc2, _⟩
    · omega
    · have ho := h.pr
      rw [hv2] at ho
      have hpt := ptrs_at ps j _ hp
      have q1 := own_cell ho (j * 2) (by omega)
      have q2 := own_cell ho (j * 2 + 1) (by omega)
      rw [Nat.zero_add] at q1 q2
      exact ⟨gl, cap, by rw [hv2, hnp], ⟨by omega, by unfold maxLen at hc2; omega⟩, range2 (by rw [q1]; exact hpt.1) (by rw [q2]; exact hpt.2)⟩
  obtain ⟨l1, l2⟩ := hlc
  have HPk : Hid (∀ w, Calls Try.prog 9 #[.int .i64 pp, .int .i64 (np : Int)] w fun e w' => e = .returned (.int .i64 (j : Int)) ∧ w' = w) := hPk
  have HLV : Hid (∀ w, Up W w → w.cell? ⟨wb, 0, none⟩ = some (.slice (some ⟨gl, 0, none⟩) np lc) ∧ w.rangeAt gl (j * 2) [.pointer (some ⟨p1, 0, none⟩), .pointer (some ⟨p2, 0, none⟩)]) := fun w u => ⟨cell_up u (by rw [← hgl]; exact h.c0), fun k v hv => cell_up u (hrg k v hv)⟩
  have b0 : ((np : Int) == 0) = false := beq_eq_false_iff_ne.2 (by omega)
  have d0 : (j : Int) < (np : Int) := by omega
  have HWb : Hid (wb < W.heap.size) := h.pl
  have HH : Hid (Wd W0 wb ρ ps Ss Ss S L H hf W ∧ ps[j]? = some (p1, p2) ∧ Ss[j]? = some Sj ∧ L.es.length ≤ N ∧ (∀ s ∈ Ss, s.pend.length ≤ N) ∧ Sj.Gd ∧ Sj.pend.length ≤ N ∧ N ≤ 16000000) := ⟨h, hp, hS, hN, hP, (h.pX j _ Sj hp hS).2, hP Sj (List.mem_of_getElem? hS), hN2⟩
  clear h hN hP hp hS hn0 hpp hPk hrg hgl hnp hj hN2
  have hgd : Sj.Gd := HH.out.2.2.2.2.2.1
  have h8 : ∀ k, 0 ≤ crashN (pkN il hh) Sj.pend Sj.safe Sj.pend.length k ∧ crashN (pkN il hh) Sj.pend Sj.safe Sj.pend.length k ≤ 255 := fun k => crashN_b hgd.s8 hgd.p8 _ k
  obtain ⟨FX, hFX⟩ : ∃ F : Nat → Int, F = crashN (pkN il hh) Sj.pend Sj.safe Sj.pend.length := ⟨_, rfl⟩
  rw [← hFX] at h8
  have HG8 : Hid (∀ k, 0 ≤ FX k ∧ FX k ≤ 255) := h8
  obtain ⟨RN, hRN0⟩ : ∃ n : Nat, n = 512 * Sj.n := ⟨_, rfl⟩
  have hRN : RN ≤ 2097152 := by
    obtain ⟨A, q⟩ := (HH.out.1.pX j _ Sj HH.out.2.1 HH.out.2.2.1).1
    have := q.n2
    omega
  have HRX : Hid (∀ (K : Nat → Prop) (w : World) (aa : Option Addr) (ab ao cc : Nat), StAt K w p1 Sj → Ints w aa ab ao il cc hh → Calls Try.prog 30 #[.pointer (some ⟨p1, 0, none⟩), .slice aa il cc] w fun e w' => ∃ g c, e = .returned (.slice (some ⟨g, 0, none⟩) RN c) ∧ w'.ownsRow w.heap.size 5 1 (.slice (some ⟨g, 0, none⟩) RN c) RN (byL FX RN) ∧ Up w w') := fun K w aa ab ao cc ⟨A, h⟩ D => by
    rw [hFX, hRN0]
    refine (crashZ h (by have := HH.out.2.2.2.2.2.2; omega) D).mono fun e w' ⟨g, c, q1, q2, q3, q4, q5, q6⟩ => ⟨g, c, q1, q3.own q2 q4 q5, q6⟩
  have HRY : Hid (∀ (K : Nat → Prop) (w : World) (aa : Option Addr) (ab ao cc : Nat), RfAt K w p2 Sj → Ints w aa ab ao il cc hh → Calls Try.prog 31 #[.pointer (some ⟨p2, 0, none⟩), .slice aa il cc] w fun e w' => ∃ g c, e = .returned (.slice (some ⟨g, 0, none⟩) RN c) ∧ w.heap.size ≤ g ∧ By w' g RN FX ∧ RN ≤ c ∧ c ≤ maxLen ∧ Up w w') := fun K w aa ab ao cc ⟨A, h⟩ D => by
    rw [hFX, hRN0]
    exact crashR_any h hgd.s8 (by have := HH.out.2.2.2.2.2.2; omega) D
  have HIW : Hid (Ist ρ W ia ib io il ic hh ∧ (ia = none → ic = 0)) := ⟨hI, hI0⟩
  have hlc : il ≤ ic := hI.ints.lc
  have hcm : ic ≤ 9223372036854775807 := by have := hI.ints.cm; unfold maxLen at this; omega
  clear hFX hgd hRN0 h8 hI hI0
  go_enter Try.func4, Try.ntmps4
  have hWbl : wb < W.heap.size := HWb.out
  have hWb2 : ¬ wb = W.heap.size := by omega
  have kw0 := (HLV.out W (Up.refl W)).1
  go_wp2_with fail
  have u1 : Up W (W.alloc (Obj.cells (opC 10 pp b c d (.slice ia il ic)) 31)) := (Up.refl W).alloc _
  have k1 : (W.alloc (Obj.cells (opC 10 pp b c d (.slice ia il ic)) 31)).heap[W.heap.size]? = some (.cells (opC 10 pp b c d (.slice ia il ic)) 31 (0, 0)) := heap_alloc_new W _
  have hob9 : W.heap.size < (W.alloc (Obj.cells (opC 10 pp b c d (.slice ia il ic)) 31)).heap.size := by simp
  clear kw0 hWb2 hWbl
  obtain ⟨ob, hob⟩ : ∃ ob, ob = W.heap.size := ⟨_, rfl⟩
  rw [← hob] at k1 hob9 ⊢
  generalize World.alloc W _ = W1 at u1 k1 hob9 ⊢
  have hob2 : W.heap.size ≤ ob := by omega
  clear hob
  have HO1 : Hid (∀ w, Up W1 w → w.cell? ⟨ob, 1, none⟩ = some (.int .i64 pp) ∧ w.cell? ⟨ob, 2, none⟩ = some (.int .i64 b) ∧ w.cell? ⟨ob, 3, none⟩ = some (.int .i64 c) ∧ w.cell? ⟨ob, 4, none⟩ = some (.int .i64 d) ∧ w.cell? ⟨ob, 5, none⟩ = some (.slice ia il ic) ∧ w.cell? ⟨ob, 0, none⟩ = some (.int .i64 10)) := fun w u => ⟨cell_up u (heap_cell k1 rfl), cell_up u (heap_cell k1 rfl), cell_up u (heap_cell k1 rfl), cell_up u (heap_cell k1 rfl), cell_up u (heap_cell k1 rfl), cell_up u (heap_cell k1 rfl)⟩
  have HSs : Hid (∀ w, Up W1 w → w.cell? ⟨wb, 0, none⟩ = some (.slice (some ⟨gl, 0, none⟩) np lc) ∧ w.cell? ⟨ob, 1, none⟩ = some (.int .i64 pp) ∧ w.rangeAt gl (j * 2) [.pointer (some ⟨p1, 0, none⟩), .pointer (some ⟨p2, 0, none⟩)]) := fun w u => ⟨(HLV.out w (u1.trans u)).1, (HO1.out w u).1, (HLV.out w (u1.trans u)).2⟩
  have HU1 : Hid (Up W W1 ∧ W.heap.size ≤ ob ∧ ob < W1.heap.size) := ⟨u1, hob2, hob9⟩
  clear u1 k1 hob9 hob2
  refine wp_region_held_drew (S := fun w => w.cell? ⟨wb, 0, none⟩ = some (.slice (some ⟨gl, 0, none⟩) np lc) ∧ w.cell? ⟨ob, 1, none⟩ = some (.int .i64 pp) ∧ w.rangeAt gl (j * 2) [.pointer (some ⟨p1, 0, none⟩), .pointer (some ⟨p2, 0, none⟩)]) (by kernel_rfl) (HSs.out _ (Up.refl W1).drew) (fun hHeld => ?_)
  have ud : Up W1 W1.drew := (Up.refl W1).drew
  generalize World.drew W1 = wd at ud hHeld ⊢
  refine wpAnyH_take (i := 0) (v := ?_) (by simp only [List.getElem?_toArray, List.getElem?_cons_zero]; rfl) (by kernel_rfl) (by kernel_rfl) (by kernel_rfl) (by intro _ _ _ h; exact h) (Or.inl ⟨by rfl, ?_⟩) (by assumption) ?_
  rotate_left
  · (intro w hSw; (try dsimp only at hSw); go_simp <;> with_reducible rfl)
  try simp only [Act.put, List.setIfInBounds_toArray, List.set_cons_zero, List.set_cons_succ]
  refine wpAnyH_take (i := 1) (v := ?_) (by simp only [List.getElem?_toArray, List.getElem?_cons_succ, List.getElem?_cons_zero]; rfl) (by kernel_rfl) (by kernel_rfl) (by kernel_rfl) (by intro _ _ _ h; exact h) (Or.inl ⟨by rfl, ?_⟩) (by assumption) ?_
  rotate_left
  · (intro w hSw; (try dsimp only at hSw); go_simp <;> with_reducible rfl)
  try simp only [Act.put, List.setIfInBounds_toArray, List.set_cons_zero, List.set_cons_succ]
  refine wpAnyH_take (i := 2) (v := ?_) (by simp only [List.getElem?_toArray, List.getElem?_cons_succ, List.getElem?_cons_zero]; rfl) (by kernel_rfl) (by kernel_rfl) (by kernel_rfl) (by intro _ _ _ h; exact h) (Or.inl ⟨by rfl, ?_⟩) (by assumption) ?_
  rotate_left
  · (intro w hSw; (try dsimp only at hSw); go_simp <;> with_reducible rfl)
  try simp only [Act.put, List.setIfInBounds_toArray, List.set_cons_zero, List.set_cons_succ]
  refine wpAnyH_take (i := 3) (v := ?_) (by simp only [List.getElem?_toArray, List.getElem?_cons_succ, List.getElem?_cons_zero]; rfl) (by kernel_rfl) (by kernel_rfl) (by kernel_rfl) (by intro _ _ _ h; exact h) (Or.inl ⟨by rfl, ?_⟩) (by assumption) ?_
  rotate_left
  · (intro w hSw; (try dsimp only at hSw); go_simp <;> with_reducible rfl)
  try simp only [Act.put, List.setIfInBounds_toArray, List.set_cons_zero, List.set_cons_succ]
  refine wpAnyH_take (i := 4) (v := ?_) (by simp only [List.getElem?_toArray, List.getElem?_cons_succ, List.getElem?_cons_zero]; rfl) (by kernel_rfl) (by kernel_rfl) (by kernel_rfl) (by intro _ _ _ h; exact h) (Or.inl ⟨by rfl, ?_⟩) (by assumption) ?_
  rotate_left
  · (intro w hSw; (try dsimp only at hSw); go_simp <;> with_reducible rfl)
  try simp only [Act.put, List.setIfInBounds_toArray, List.set_cons_zero, List.set_cons_succ]
  refine wpAnyH_take (i := 5) (v := ?_) (by simp only [List.getElem?_toArray, List.getElem?_cons_succ, List.getElem?_cons_zero]; rfl) (by kernel_rfl) (by kernel_rfl) (by kernel_rfl) (by intro _ _ _ h; exact h) (Or.inl ⟨by rfl, ?_⟩) (by assumption) ?_
  rotate_left
  · (intro w hSw; (try dsimp only at hSw); go_simp <;> with_reducible rfl)
  try simp only [Act.put, List.setIfInBounds_toArray, List.set_cons_zero, List.set_cons_succ]
  refine wpAnyH_take (i := 6) (v := ?_) (by simp only [List.getElem?_toArray, List.getElem?_cons_succ, List.getElem?_cons_zero]; rfl) (by kernel_rfl) (by kernel_rfl) (by kernel_rfl) (by intro _ _ _ h; exact h) (Or.inl ⟨by rfl, ?_⟩) (by assumption) ?_
  rotate_left
  · (intro w hSw; (try dsimp only at hSw); go_simp <;> with_reducible rfl)
  try simp only [Act.put, List.setIfInBounds_toArray, List.set_cons_zero, List.set_cons_succ]
  refine wpAnyH_take (i := 7) (v := ?_) (by simp only [List.getElem?_toArray, List.getElem?_cons_succ, List.getElem?_cons_zero]; rfl) (by kernel_rfl) (by kernel_rfl) (by kernel_rfl) (by intro _ _ _ h; exact h) (Or.inl ⟨by rfl, ?_⟩) (by assumption) ?_
  rotate_left
  · (intro w hSw; (try dsimp only at hSw); go_simp <;> with_reducible rfl)
  try simp only [Act.put, List.setIfInBounds_toArray, List.set_cons_zero, List.set_cons_succ]
  refine wpAnyH_take (i := 8) (v := ?_) (by simp only [List.getElem?_toArray, List.getElem?_cons_succ, List.getElem?_cons_zero]; rfl) (by kernel_rfl) (by kernel_rfl) (by kernel_rfl) (by intro _ _ _ h; exact h) (Or.inl ⟨by rfl, ?_⟩) (by assumption) ?_
  rotate_left
  · (intro w hSw; (try dsimp only at hSw); go_simp <;> with_reducible rfl)
  try simp only [Act.put, List.setIfInBounds_toArray, List.set_cons_zero, List.set_cons_succ]
  refine wpAnyH_take (i := 9) (v := ?_) (by simp only [List.getElem?_toArray, List.getElem?_cons_succ, List.getElem?_cons_zero]; rfl) (by kernel_rfl) (by kernel_rfl) (by kernel_rfl) (by intro _ _ _ h; exact h) (Or.inl ⟨by rfl, ?_⟩) (by assumption) ?_
  rotate_left
  · (intro w hSw; (try dsimp only at hSw); go_simp <;> with_reducible rfl)
  try simp only [Act.put, List.setIfInBounds_toArray, List.set_cons_zero, List.set_cons_succ]
  refine wpAnyH_take (i := 10) (v := ?_) (by simp only [List.getElem?_toArray, List.getElem?_cons_succ, List.getElem?_cons_zero]; rfl) (by kernel_rfl) (by kernel_rfl) (by kernel_rfl) (by intro _ _ _ h; exact h) (Or.inl ⟨by rfl, ?_⟩) (by assumption) ?_
  rotate_left
  · (intro w hSw; (try dsimp only at hSw); go_simp <;> with_reducible rfl)
  try simp only [Act.put, List.setIfInBounds_toArray, List.set_cons_zero, List.set_cons_succ]
  refine wpAnyH_ready (rs := [11, 14]) (by kernel_rfl) (by simp) ?_
  refine AllReadyH.cons (by simp only [List.getElem?_toArray, List.getElem?_cons_succ, List.getElem?_cons_zero]; rfl) (fun KK hK => ?_) (AllReadyH.cons (by simp only [List.getElem?_toArray, List.getElem?_cons_succ, List.getElem?_cons_zero]; rfl) (fun KK hK => ?_) AllReadyH.nil)
  · skip
    go_simp
    refine (HPk.out _).mono ?_
    rintro e w' ⟨rfl, hw⟩
    obtain rfl := hw.symm
    clear hw
    refine hK.out _ _ (HSs.out _ ud) (fun hHeld => ?_)
    clear hK KK
    try simp only [Act.put, List.setIfInBounds_toArray, List.set_cons_zero, List.set_cons_succ]
    refine wpAnyH_take (i := 12) (v := ?_) (by simp only [List.getElem?_toArray, List.getElem?_cons_succ, List.getElem?_cons_zero]; rfl) (by kernel_rfl) (by kernel_rfl) (by kernel_rfl) (by intro _ _ _ h; exact h) (Or.inl ⟨by rfl, ?_⟩) (by assumption) ?_
    rotate_left
    · (intro w hSw; (try dsimp only at hSw); go_simp <;> with_reducible rfl)
    try simp only [Act.put, List.setIfInBounds_toArray, List.set_cons_zero, List.set_cons_succ]
    refine wpAnyH_take (i := 13) (v := .agg [.pointer (some ⟨p1, 0, none⟩), .pointer (some ⟨p2, 0, none⟩)].toArray) (by simp only [List.getElem?_toArray, List.getElem?_cons_succ, List.getElem?_cons_zero]; rfl) (by kernel_rfl) (by kernel_rfl) (by kernel_rfl) (by intro _ _ _ h; exact h) (yieldsIf_load_mid (by rfl) 47 _ rfl gl (j * 2) rfl [.pointer (some ⟨p1, 0, none⟩), .pointer (some ⟨p2, 0, none⟩)] _ (fun w hw => hw.2.2) Try.underlying47 rfl (by kernel_rfl)) (by assumption) ?_
    simp only [Act.put, List.setIfInBounds_toArray, List.set_cons_zero, List.set_cons_succ]
    refine wpAnyH_ready (rs := [14]) (by kernel_rfl) (by simp) ?_
    refine AllReadyH.cons (by simp only [List.getElem?_toArray, List.getElem?_cons_succ, List.getElem?_cons_zero]; rfl) (fun KK hK => ?_) AllReadyH.nil
    go_simp
    have ub : Up W1 (wd.alloc (Obj.cells #[.pointer none, .pointer none] 47)) := ud.alloc _
    have kb9 : (wd.alloc (Obj.cells #[.pointer none, .pointer none] 47)).heap[wd.heap.size]? = some (.cells #[.pointer none, .pointer none] 47 (0, 0)) := heap_alloc_new wd _
    refine hK.out _ _ (HSs.out _ ub) (fun hHeld => ?_)
    clear hK KK
    try simp only [Act.put, List.setIfInBounds_toArray, List.set_cons_zero, List.set_cons_succ]
    have HNB9 : W1.heap.size ≤ wd.heap.size := ud.size
    refine wpAnyH_ready (rs := [15]) (by kernel_rfl) (by simp) ?_
    refine AllReadyH.cons (by simp only [List.getElem?_toArray, List.getElem?_cons_succ, List.getElem?_cons_zero]; rfl) (fun KK hK => ?_) AllReadyH.nil
    rw [if_pos (by rfl)]
    refine wp_store_mid 47 _ _ rfl (wd.heap.size) 0 #[.pointer (some ⟨p1, 0, none⟩), .pointer (some ⟨p2, 0, none⟩)] rfl rfl (there2 kb9) (by kernel_rfl) (by simp [Value.oneCell']) ?_
    have uz : Up W1 ((wd.alloc (Obj.cells #[.pointer none, .pointer none] 47)).setCells (wd.heap.size) 0 [.pointer (some ⟨p1, 0, none⟩), .pointer (some ⟨p2, 0, none⟩)]) := Fr.up (ub) HNB9 (fr_setCells _ _ 0 _)
    have kz : ((wd.alloc (Obj.cells #[.pointer none, .pointer none] 47)).setCells (wd.heap.size) 0 [.pointer (some ⟨p1, 0, none⟩), .pointer (some ⟨p2, 0, none⟩)]).heap[wd.heap.size]? = some (.cells #[.pointer (some ⟨p1, 0, none⟩), .pointer (some ⟨p2, 0, none⟩)] 47 (0, 0)) := heap_setCells_same _ _ _ 0 _ (wd.alloc (Obj.cells #[.pointer none, .pointer none] 47)) kb9
    refine hK.out _ _ (HSs.out _ uz) (fun hHeld => ?_)
    clear hK KK
    try simp only [Act.put, List.setIfInBounds_toArray, List.set_cons_zero, List.set_cons_succ]
    refine wpAnyH_done (by kernel_rfl) ?_ _
    obtain ⟨pb, hpb⟩ : ∃ pb, pb = wd.heap.size := ⟨_, rfl⟩
    rw [← hpb] at kz uz HNB9 ⊢
    clear hHeld hpb
    generalize World.setCells _ pb 0 _ = w4 at uz kz ⊢
    have u4 : Up W w4 := HU1.out.1.trans uz
    obtain ⟨ko1, ko2, ko3, ko4, ko5, ko0⟩ := HO1.out w4 uz
    have kp0 := heap_cell kz (o := 0) (v := .pointer (some ⟨p1, 0, none⟩)) rfl
    have kp1 := heap_cell kz (o := 1) (v := .pointer (some ⟨p2, 0, none⟩)) rfl
    have H4 : Hid (Wd W0 wb (ext ρ W.heap.size 6) ps Ss Ss S L H hf w4) := HH.out.1.upR u4 6
    have HM4 : Hid (Mv (fun r => r = 6) ρ (ext ρ W.heap.size 6) W w4) := Mv.ofUp ρ u4 6
    have HK4 : Hid (ext ρ W.heap.size 6 ob = 6 ∧ ext ρ W.heap.size 6 pb = 6 ∧ ob < w4.heap.size ∧ pb < w4.heap.size) := ⟨ext_ge HU1.out.2.1, ext_ge (Nat.le_trans HU1.out.1.size HNB9), World.block_lt_of_cell? _ _ ko2, World.block_lt_of_cell? _ _ kp0⟩
    have HI : Hid (Ist (ext ρ W.heap.size 6) w4 ia ib io il ic hh) := HIW.out.1.mv (R := fun _ => True) (Mv.ofUp ρ u4 6) trivial
    have HI0 : Hid (ia = none → ic = 0) := HIW.out.2
    generalize ext ρ W.heap.size 6 = ρ4 at H4 HM4 HK4 HI
    clear HIW u4 uz kz HNB9 ko1 ko2 ko3 ko4
    obtain ⟨pu, w5, r5, o5, u5⟩ := want_runI (w := w4) HI.out.ints HI0.out (by omega)
    have HR5 : Hid _ := r5
    obtain ⟨pg, pc, w6, r6, g6, c6, m6, k6, l6, z6, u6⟩ := more_run (W := w4) o5 u5 (by omega) 771177
    have HR6 : Hid _ := r6
    have HP0 : Hid (Pst (ext ρ4 w4.heap.size 5) w6 pg il pc hh 0) := ⟨fun k _ hk => k6 k hk, l6, ext_ge g6, z6, c6, m6, HI.out.ints.i64⟩
    obtain ⟨va, vn, vc, rfl⟩ := own_slice3 o5
    have ka5 := cell_up ((Up.refl w4).alloc (.cells #[] 3)) ko5
    have H6 : Hid (Wd W0 wb (ext ρ4 w4.heap.size 5) ps Ss Ss S L H hf w6) := H4.out.upR u6 5
    have HM6 : Hid (Mv (fun r => r = 6) ρ (ext ρ4 w4.heap.size 5) W w6) := HM4.out.trans (Mv.ofUp ρ4 u6 5)
    have HK6 : Hid ((ext ρ4 w4.heap.size 5) ob = 6 ∧ (ext ρ4 w4.heap.size 5) pb = 6 ∧ ob < w6.heap.size ∧ pb < w6.heap.size) := (Mv.ofUp (R := fun _ => True) ρ4 u6 5).two HK4.out trivial
    replace kp0 := cell_up u6 kp0
    replace kp1 := cell_up u6 kp1
    replace ko5 := cell_up u6 ko5
    replace HI : Hid _ := HI.out.mv (R := fun _ => True) (Mv.ofUp ρ4 u6 5) trivial
    clear r5 r6 o5 u5 g6 c6 m6 k6 l6 z6
    go_wp2_with (first | (at_builtin; refine Lib.wpList_append_run _ rfl _ _ _ _ rfl _ _ rfl rfl _ _ HR5.out ?_; clear HR5) | (at_builtin; refine Lib.wpList_append_run _ rfl _ _ _ _ rfl _ _ rfl rfl _ _ HR6.out ?_; clear HR6))
    generalize ext ρ4 w4.heap.size 5 = ρ6 at H6 HM6 HK6 HI HP0
    have HP : Hid _ := HP0.out
    clear H4 HM4 HK4 u6 ka5 ko0 HP0 HI0
    have hpc : (il : Int) ≤ (pc : Int) := by have := HP.out.c1; omega
    have hpm : pc ≤ 9223372036854775807 := by have := HP.out.c2; unfold maxLen at this; omega
    have hil1 : (il : Int) < (il : Int) + 1 := by omega
    go_upto_region 74 with fail
    refine wp_region_held_drew (S := fun w => (w.cell? ⟨pb, 0, none⟩ = some (.pointer (some ⟨p1, 0, none⟩))) ∧ (w.cell? ⟨pb, 1, none⟩ = some (.pointer (some ⟨p2, 0, none⟩))) ∧ (w.cell? ⟨ob, 5, none⟩ = some (.slice ia il ic))) (by kernel_rfl) ⟨cell_up ((Up.refl w6).drew) kp0, cell_up ((Up.refl w6).drew) kp1, cell_up ((Up.refl w6).drew) ko5⟩ (fun hHeld => ?_)
    have u7 : Up w6 w6.drew := (Up.refl w6).drew
    generalize hwd7 : World.drew w6 = w7 at u7 hHeld ⊢
    clear hwd7
    have H7 : Hid (Wd W0 wb (ext ρ6 w6.heap.size 5) ps Ss Ss S L H hf w7) := H6.out.upR u7 5
    have HM7 : Hid (Mv (fun r => r = 6) ρ (ext ρ6 w6.heap.size 5) W w7) := HM6.out.trans (Mv.ofUp ρ6 u7 5)
    have HK7 : Hid ((ext ρ6 w6.heap.size 5) ob = 6 ∧ (ext ρ6 w6.heap.size 5) pb = 6 ∧ ob < w7.heap.size ∧ pb < w7.heap.size) := (Mv.ofUp (R := fun _ => True) ρ6 u7 5).two HK6.out trivial
    replace kp0 := cell_up u7 kp0
    replace kp1 := cell_up u7 kp1
    replace ko5 := cell_up u7 ko5
    replace HI : Hid _ := HI.out.mv (R := fun _ => True) (Mv.ofUp ρ6 u7 5) trivial
    replace HP : Hid _ := HP.out.mv (R := fun _ => True) (Mv.ofUp ρ6 u7 5) trivial
    generalize ext ρ6 w6.heap.size 5 = ρ7 at H7 HM7 HK7 HI HP
    clear H6 HM6 HK6 u7
    refine wpAnyH_take (i := 0) (v := ?_) (by simp only [List.getElem?_toArray, List.getElem?_cons_zero]; rfl) (by kernel_rfl) (by kernel_rfl) (by kernel_rfl) (by intro _ _ _ h; exact h) (Or.inl ⟨by rfl, ?_⟩) (by assumption) ?_
    rotate_left
    · (intro w hSw; (try dsimp only at hSw); obtain ⟨hS0, hS1, hS2⟩ := hSw; go_simp <;> with_reducible rfl)
    try simp only [Act.put, List.setIfInBounds_toArray, List.set_cons_zero, List.set_cons_succ]
    refine wpAnyH_take (i := 1) (v := ?_) (by simp only [List.getElem?_toArray, List.getElem?_cons_succ, List.getElem?_cons_zero]; rfl) (by kernel_rfl) (by kernel_rfl) (by kernel_rfl) (by intro _ _ _ h; exact h) (Or.inl ⟨by rfl, ?_⟩) (by assumption) ?_
    rotate_left
    · (intro w hSw; (try dsimp only at hSw); obtain ⟨hS0, hS1, hS2⟩ := hSw; go_simp <;> with_reducible rfl)
    try simp only [Act.put, List.setIfInBounds_toArray, List.set_cons_zero, List.set_cons_succ]
    refine wpAnyH_take (i := 2) (v := ?_) (by simp only [List.getElem?_toArray, List.getElem?_cons_succ, List.getElem?_cons_zero]; rfl) (by kernel_rfl) (by kernel_rfl) (by kernel_rfl) (by intro _ _ _ h; exact h) (Or.inl ⟨by rfl, ?_⟩) (by assumption) ?_
    rotate_left
    · (intro w hSw; (try dsimp only at hSw); obtain ⟨hS0, hS1, hS2⟩ := hSw; go_simp <;> with_reducible rfl)
    try simp only [Act.put, List.setIfInBounds_toArray, List.set_cons_zero, List.set_cons_succ]
    refine wpAnyH_take (i := 3) (v := ?_) (by simp only [List.getElem?_toArray, List.getElem?_cons_succ, List.getElem?_cons_zero]; rfl) (by kernel_rfl) (by kernel_rfl) (by kernel_rfl) (by intro _ _ _ h; exact h) (Or.inl ⟨by rfl, ?_⟩) (by assumption) ?_
    rotate_left
    · (intro w hSw; (try dsimp only at hSw); obtain ⟨hS0, hS1, hS2⟩ := hSw; go_simp <;> with_reducible rfl)
    try simp only [Act.put, List.setIfInBounds_toArray, List.set_cons_zero, List.set_cons_succ]
    refine wpAnyH_take (i := 4) (v := ?_) (by simp only [List.getElem?_toArray, List.getElem?_cons_succ, List.getElem?_cons_zero]; rfl) (by kernel_rfl) (by kernel_rfl) (by kernel_rfl) (by intro _ _ _ h; exact h) (Or.inl ⟨by rfl, ?_⟩) (by assumption) ?_
    rotate_left
    · (intro w hSw; (try dsimp only at hSw); obtain ⟨hS0, hS1, hS2⟩ := hSw; go_simp <;> with_reducible rfl)
    try simp only [Act.put, List.setIfInBounds_toArray, List.set_cons_zero, List.set_cons_succ]
    refine wpAnyH_take (i := 5) (v := ?_) (by simp only [List.getElem?_toArray, List.getElem?_cons_succ, List.getElem?_cons_zero]; rfl) (by kernel_rfl) (by kernel_rfl) (by kernel_rfl) (by intro _ _ _ h; exact h) (Or.inl ⟨by rfl, ?_⟩) (by assumption) ?_
    rotate_left
    · (intro w hSw; (try dsimp only at hSw); obtain ⟨hS0, hS1, hS2⟩ := hSw; go_simp <;> with_reducible rfl)
    try simp only [Act.put, List.setIfInBounds_toArray, List.set_cons_zero, List.set_cons_succ]
    refine wpAnyH_take (i := 6) (v := ?_) (by simp only [List.getElem?_toArray, List.getElem?_cons_succ, List.getElem?_cons_zero]; rfl) (by kernel_rfl) (by kernel_rfl) (by kernel_rfl) (by intro _ _ _ h; exact h) (Or.inl ⟨by rfl, ?_⟩) (by assumption) ?_
    rotate_left
    · (intro w hSw; (try dsimp only at hSw); obtain ⟨hS0, hS1, hS2⟩ := hSw; go_simp <;> with_reducible rfl)
    try simp only [Act.put, List.setIfInBounds_toArray, List.set_cons_zero, List.set_cons_succ]
    refine wpAnyH_ready (rs := [7]) (by kernel_rfl) (by simp) ?_
    refine AllReadyH.cons (by simp only [List.getElem?_toArray, List.getElem?_cons_succ, List.getElem?_cons_zero]; rfl) (fun KK hK => ?_) AllReadyH.nil
    go_simp
    refine Calls.mono (HRX.out _ _ _ _ _ _ (H7.out.pX j _ Sj HH.out.2.1 HH.out.2.2.1).1 HP.out.ints) ?_
    rintro e w8 ⟨g8, c8, rfl, q8, u8⟩
    have LX : Hid (Lst 7 (ext ρ7 w7.heap.size 7) w7.heap.size w8 (.slice (some ⟨g8, 0, none⟩) RN c8) RN FX) := ⟨q8, fun b hb => ext_ge (q8.lt b hb).1⟩
    have HW7 : Hid (wb + 1 ≤ w7.heap.size) := H7.out.pl
    have H8 : Hid (Wd W0 wb (ext ρ7 w7.heap.size 7) ps Ss Ss S L H hf w8) := H7.out.upR u8 7
    have HM8 : Hid (Mv (fun r => r = 6) ρ (ext ρ7 w7.heap.size 7) W w8) := HM7.out.trans (Mv.ofUp ρ7 u8 7)
    have HK8 : Hid ((ext ρ7 w7.heap.size 7) ob = 6 ∧ (ext ρ7 w7.heap.size 7) pb = 6 ∧ ob < w8.heap.size ∧ pb < w8.heap.size) := (Mv.ofUp (R := fun _ => True) ρ7 u8 7).two HK7.out trivial
    replace kp0 := cell_up u8 kp0
    replace kp1 := cell_up u8 kp1
    replace ko5 := cell_up u8 ko5
    replace HI : Hid _ := HI.out.mv (R := fun _ => True) (Mv.ofUp ρ7 u8 7) trivial
    replace HP : Hid _ := HP.out.mv (R := fun _ => True) (Mv.ofUp ρ7 u8 7) trivial
    generalize ext ρ7 w7.heap.size 7 = ρ8 at H8 HM8 HK8 LX HI HP
    clear H7 HM7 HK7 u8 q8
    refine hK.out _ _ ⟨kp0, kp1, ko5⟩ (fun hHeld => ?_)
    clear hK KK
    try simp only [Act.put, List.setIfInBounds_toArray, List.set_cons_zero, List.set_cons_succ]
    refine wpAnyH_take (i := 8) (v := ?_) (by simp only [List.getElem?_toArray, List.getElem?_cons_succ, List.getElem?_cons_zero]; rfl) (by kernel_rfl) (by kernel_rfl) (by kernel_rfl) (by intro _ _ _ h; exact h) (Or.inl ⟨by rfl, ?_⟩) (by assumption) ?_
    rotate_left
    · (intro w hSw; (try dsimp only at hSw); obtain ⟨hS0, hS1, hS2⟩ := hSw; go_simp <;> with_reducible rfl)
    try simp only [Act.put, List.setIfInBounds_toArray, List.set_cons_zero, List.set_cons_succ]
    refine wpAnyH_done (by kernel_rfl) ?_ _
    clear hHeld
    go_wp2_with fail
    refine Calls.mono (HRY.out _ _ _ _ _ _ (H8.out.pY j _ Sj HH.out.2.1 HH.out.2.2.1).1 HI.out.ints) ?_
    rintro e w9 ⟨yg, yc, rfl, hy1, hy2, hy3, hy4, u9⟩
    have LY : Hid (Yst 9 (ext ρ8 w8.heap.size 9) w9 yg RN yc FX) := ⟨hy2, ext_ge hy1, hy3, hy4⟩
    have H9 : Hid (Wd W0 wb (ext ρ8 w8.heap.size 9) ps Ss Ss S L H hf w9) := H8.out.upR u9 9
    have HM9 : Hid (Mv (fun r => r = 6) ρ (ext ρ8 w8.heap.size 9) W w9) := HM8.out.trans (Mv.ofUp ρ8 u9 9)
    have HK9 : Hid ((ext ρ8 w8.heap.size 9) ob = 6 ∧ (ext ρ8 w8.heap.size 9) pb = 6 ∧ ob < w9.heap.size ∧ pb < w9.heap.size) := (Mv.ofUp (R := fun _ => True) ρ8 u9 9).two HK8.out trivial
    replace kp0 := cell_up u9 kp0
    replace kp1 := cell_up u9 kp1
    replace ko5 := cell_up u9 ko5
    replace HI : Hid _ := HI.out.mv (R := fun _ => True) (Mv.ofUp ρ8 u9 9) trivial
    replace HP : Hid _ := HP.out.mv (R := fun _ => True) (Mv.ofUp ρ8 u9 9) trivial
    replace LX : Hid _ := LX.out.mv (R := fun _ => True) (Mv.ofUp ρ8 u9 9) trivial
    generalize ext ρ8 w8.heap.size 9 = ρ9 at H9 HM9 HK9 LX LY HI HP
    clear H8 HM8 HK8 u9 hy1 hy2 hy3 hy4
    go_upto_region 76 with fail
    refine wp_region_held_drew (S := fun w => (w.cell? ⟨pb, 0, none⟩ = some (.pointer (some ⟨p1, 0, none⟩))) ∧ (w.cell? ⟨pb, 1, none⟩ = some (.pointer (some ⟨p2, 0, none⟩))) ∧ (w.cell? ⟨ob, 5, none⟩ = some (.slice ia il ic))) (by kernel_rfl) ⟨cell_up ((Up.refl w9).drew) kp0, cell_up ((Up.refl w9).drew) kp1, cell_up ((Up.refl w9).drew) ko5⟩ (fun hHeld => ?_)
    have u10 : Up w9 w9.drew := (Up.refl w9).drew
    generalize hwd10 : World.drew w9 = w10 at u10 hHeld ⊢
    clear hwd10
    have H10 : Hid (Wd W0 wb (ext ρ9 w9.heap.size 5) ps Ss Ss S L H hf w10) := H9.out.upR u10 5
    have HM10 : Hid (Mv (fun r => r = 6) ρ (ext ρ9 w9.heap.size 5) W w10) := HM9.out.trans (Mv.ofUp ρ9 u10 5)
    have HK10 : Hid ((ext ρ9 w9.heap.size 5) ob = 6 ∧ (ext ρ9 w9.heap.size 5) pb = 6 ∧ ob < w10.heap.size ∧ pb < w10.heap.size) := (Mv.ofUp (R := fun _ => True) ρ9 u10 5).two HK9.out trivial
    replace kp0 := cell_up u10 kp0
    replace kp1 := cell_up u10 kp1
    replace ko5 := cell_up u10 ko5
    replace HI : Hid _ := HI.out.mv (R := fun _ => True) (Mv.ofUp ρ9 u10 5) trivial
    replace HP : Hid _ := HP.out.mv (R := fun _ => True) (Mv.ofUp ρ9 u10 5) trivial
    replace LX : Hid _ := LX.out.mv (R := fun _ => True) (Mv.ofUp ρ9 u10 5) trivial
    replace LY : Hid _ := LY.out.mv (R := fun _ => True) (Mv.ofUp ρ9 u10 5) trivial
    generalize ext ρ9 w9.heap.size 5 = ρ10 at H10 HM10 HK10 HI HP LX LY
    clear H9 HM9 HK9 u10
    refine wpAnyH_take (i := 0) (v := ?_) (by simp only [List.getElem?_toArray, List.getElem?_cons_zero]; rfl) (by kernel_rfl) (by kernel_rfl) (by kernel_rfl) (by intro _ _ _ h; exact h) (Or.inl ⟨by rfl, ?_⟩) (by assumption) ?_
    rotate_left
    · (intro w hSw; (try dsimp only at hSw); obtain ⟨hS0, hS1, hS2⟩ := hSw; go_simp <;> with_reducible rfl)
    try simp only [Act.put, List.setIfInBounds_toArray, List.set_cons_zero, List.set_cons_succ]
    refine wpAnyH_take (i := 1) (v := ?_) (by simp only [List.getElem?_toArray, List.getElem?_cons_succ, List.getElem?_cons_zero]; rfl) (by kernel_rfl) (by kernel_rfl) (by kernel_rfl) (by intro _ _ _ h; exact h) (Or.inl ⟨by rfl, ?_⟩) (by assumption) ?_
    rotate_left
    · (intro w hSw; (try dsimp only at hSw); obtain ⟨hS0, hS1, hS2⟩ := hSw; go_simp <;> with_reducible rfl)
    try simp only [Act.put, List.setIfInBounds_toArray, List.set_cons_zero, List.set_cons_succ]
    refine wpAnyH_take (i := 2) (v := ?_) (by simp only [List.getElem?_toArray, List.getElem?_cons_succ, List.getElem?_cons_zero]; rfl) (by kernel_rfl) (by kernel_rfl) (by kernel_rfl) (by intro _ _ _ h; exact h) (Or.inl ⟨by rfl, ?_⟩) (by assumption) ?_
    rotate_left
    · (intro w hSw; (try dsimp only at hSw); obtain ⟨hS0, hS1, hS2⟩ := hSw; go_simp <;> with_reducible rfl)
    try simp only [Act.put, List.setIfInBounds_toArray, List.set_cons_zero, List.set_cons_succ]
    refine wpAnyH_take (i := 3) (v := ?_) (by simp only [List.getElem?_toArray, List.getElem?_cons_succ, List.getElem?_cons_zero]; rfl) (by kernel_rfl) (by kernel_rfl) (by kernel_rfl) (by intro _ _ _ h; exact h) (Or.inl ⟨by rfl, ?_⟩) (by assumption) ?_
    rotate_left
    · (intro w hSw; (try dsimp only at hSw); obtain ⟨hS0, hS1, hS2⟩ := hSw; go_simp <;> with_reducible rfl)
    try simp only [Act.put, List.setIfInBounds_toArray, List.set_cons_zero, List.set_cons_succ]
    refine wpAnyH_take (i := 4) (v := ?_) (by simp only [List.getElem?_toArray, List.getElem?_cons_succ, List.getElem?_cons_zero]; rfl) (by kernel_rfl) (by kernel_rfl) (by kernel_rfl) (by intro _ _ _ h; exact h) (Or.inl ⟨by rfl, ?_⟩) (by assumption) ?_
    rotate_left
    · (intro w hSw; (try dsimp only at hSw); obtain ⟨hS0, hS1, hS2⟩ := hSw; go_simp <;> with_reducible rfl)
    try simp only [Act.put, List.setIfInBounds_toArray, List.set_cons_zero, List.set_cons_succ]
    refine wpAnyH_take (i := 5) (v := ?_) (by simp only [List.getElem?_toArray, List.getElem?_cons_succ, List.getElem?_cons_zero]; rfl) (by kernel_rfl) (by kernel_rfl) (by kernel_rfl) (by intro _ _ _ h; exact h) (Or.inl ⟨by rfl, ?_⟩) (by assumption) ?_
    rotate_left
    · (intro w hSw; (try dsimp only at hSw); obtain ⟨hS0, hS1, hS2⟩ := hSw; go_simp <;> with_reducible rfl)
    try simp only [Act.put, List.setIfInBounds_toArray, List.set_cons_zero, List.set_cons_succ]
    refine wpAnyH_take (i := 6) (v := ?_) (by simp only [List.getElem?_toArray, List.getElem?_cons_succ, List.getElem?_cons_zero]; rfl) (by kernel_rfl) (by kernel_rfl) (by kernel_rfl) (by intro _ _ _ h; exact h) (Or.inl ⟨by rfl, ?_⟩) (by assumption) ?_
    rotate_left
    · (intro w hSw; (try dsimp only at hSw); obtain ⟨hS0, hS1, hS2⟩ := hSw; go_simp <;> with_reducible rfl)
    try simp only [Act.put, List.setIfInBounds_toArray, List.set_cons_zero, List.set_cons_succ]
    refine wpAnyH_ready (rs := [7]) (by kernel_rfl) (by simp) ?_
    refine AllReadyH.cons (by simp only [List.getElem?_toArray, List.getElem?_cons_succ, List.getElem?_cons_zero]; rfl) (fun KK hK => ?_) AllReadyH.nil
    go_simp
    refine Calls.mono (HRX.out _ _ _ _ _ _ (H10.out.pX j _ Sj HH.out.2.1 HH.out.2.2.1).1 HP.out.ints) ?_
    rintro e w11 ⟨g11, c11, rfl, q11, u11⟩
    have LZ : Hid (Lst 8 (ext ρ10 w10.heap.size 8) w10.heap.size w11 (.slice (some ⟨g11, 0, none⟩) RN c11) RN FX) := ⟨q11, fun b hb => ext_ge (q11.lt b hb).1⟩
    have HW8 : Hid (wb + 1 ≤ w10.heap.size) := H10.out.pl
    have H11 : Hid (Wd W0 wb (ext ρ10 w10.heap.size 8) ps Ss Ss S L H hf w11) := H10.out.upR u11 8
    have HM11 : Hid (Mv (fun r => r = 6) ρ (ext ρ10 w10.heap.size 8) W w11) := HM10.out.trans (Mv.ofUp ρ10 u11 8)
    have HK11 : Hid ((ext ρ10 w10.heap.size 8) ob = 6 ∧ (ext ρ10 w10.heap.size 8) pb = 6 ∧ ob < w11.heap.size ∧ pb < w11.heap.size) := (Mv.ofUp (R := fun _ => True) ρ10 u11 8).two HK10.out trivial
    replace kp0 := cell_up u11 kp0
    replace kp1 := cell_up u11 kp1
    replace ko5 := cell_up u11 ko5
    replace HI : Hid _ := HI.out.mv (R := fun _ => True) (Mv.ofUp ρ10 u11 8) trivial
    replace HP : Hid _ := HP.out.mv (R := fun _ => True) (Mv.ofUp ρ10 u11 8) trivial
    replace LX : Hid _ := LX.out.mv (R := fun _ => True) (Mv.ofUp ρ10 u11 8) trivial
    replace LY : Hid _ := LY.out.mv (R := fun _ => True) (Mv.ofUp ρ10 u11 8) trivial
    generalize ext ρ10 w10.heap.size 8 = ρ11 at H11 HM11 HK11 LZ HI HP LX LY
    clear H10 HM10 HK10 u11 q11
    refine hK.out _ _ ⟨kp0, kp1, ko5⟩ (fun hHeld => ?_)
    clear hK KK
    try simp only [Act.put, List.setIfInBounds_toArray, List.set_cons_zero, List.set_cons_succ]
    refine wpAnyH_take (i := 8) (v := ?_) (by simp only [List.getElem?_toArray, List.getElem?_cons_succ, List.getElem?_cons_zero]; rfl) (by kernel_rfl) (by kernel_rfl) (by kernel_rfl) (by intro _ _ _ h; exact h) (Or.inl ⟨by rfl, ?_⟩) (by assumption) ?_
    rotate_left
    · (intro w hSw; (try dsimp only at hSw); obtain ⟨hS0, hS1, hS2⟩ := hSw; go_simp <;> with_reducible rfl)
    try simp only [Act.put, List.setIfInBounds_toArray, List.set_cons_zero, List.set_cons_succ]
    refine wpAnyH_done (by kernel_rfl) ?_ _
    clear hHeld
    have HWq : Hid (wb + 1 ≤ w7.heap.size ∧ True) := ⟨HW7.out, trivial⟩
    have HWr : Hid (wb + 1 ≤ w10.heap.size) := HW8.out
    clear HW7 HW8 kp0 kp1 HRX HRY
    go_wp2_with fail
    refine Calls.mono (same_yes (LX.out.lb HG8.out) LY.out.lb) ?_
    rintro e w12 ⟨rfl, u12⟩
    have H12 : Hid (Wd W0 wb (ext ρ11 w11.heap.size 5) ps Ss Ss S L H hf w12) := H11.out.upR u12 5
    have HM12 : Hid (Mv (fun r => r = 6) ρ (ext ρ11 w11.heap.size 5) W w12) := HM11.out.trans (Mv.ofUp ρ11 u12 5)
    have HK12 : Hid ((ext ρ11 w11.heap.size 5) ob = 6 ∧ (ext ρ11 w11.heap.size 5) pb = 6 ∧ ob < w12.heap.size ∧ pb < w12.heap.size) := (Mv.ofUp (R := fun _ => True) ρ11 u12 5).two HK11.out trivial
    replace ko5 := cell_up u12 ko5
    replace HI : Hid _ := HI.out.mv (R := fun _ => True) (Mv.ofUp ρ11 u12 5) trivial
    replace HP : Hid _ := HP.out.mv (R := fun _ => True) (Mv.ofUp ρ11 u12 5) trivial
    replace LX : Hid _ := LX.out.mv (R := fun _ => True) (Mv.ofUp ρ11 u12 5) trivial
    replace LY : Hid _ := LY.out.mv (R := fun _ => True) (Mv.ofUp ρ11 u12 5) trivial
    replace LZ : Hid _ := LZ.out.mv (R := fun _ => True) (Mv.ofUp ρ11 u12 5) trivial
    generalize ext ρ11 w11.heap.size 5 = ρ12 at H12 HM12 HK12 HI HP LX LY LZ
    clear H11 HM11 HK11 u12
    go_wp2_with fail
    refine Calls.mono (same_yes (LZ.out.lb HG8.out) LY.out.lb) ?_
    rintro e w13 ⟨rfl, u13⟩
    have H13 : Hid (Wd W0 wb (ext ρ12 w12.heap.size 5) ps Ss Ss S L H hf w13) := H12.out.upR u13 5
    have HM13 : Hid (Mv (fun r => r = 6) ρ (ext ρ12 w12.heap.size 5) W w13) := HM12.out.trans (Mv.ofUp ρ12 u13 5)
    have HK13 : Hid ((ext ρ12 w12.heap.size 5) ob = 6 ∧ (ext ρ12 w12.heap.size 5) pb = 6 ∧ ob < w13.heap.size ∧ pb < w13.heap.size) := (Mv.ofUp (R := fun _ => True) ρ12 u13 5).two HK12.out trivial
    replace ko5 := cell_up u13 ko5
    replace HI : Hid _ := HI.out.mv (R := fun _ => True) (Mv.ofUp ρ12 u13 5) trivial
    replace HP : Hid _ := HP.out.mv (R := fun _ => True) (Mv.ofUp ρ12 u13 5) trivial
    replace LX : Hid _ := LX.out.mv (R := fun _ => True) (Mv.ofUp ρ12 u13 5) trivial
    replace LY : Hid _ := LY.out.mv (R := fun _ => True) (Mv.ofUp ρ12 u13 5) trivial
    replace LZ : Hid _ := LZ.out.mv (R := fun _ => True) (Mv.ofUp ρ12 u13 5) trivial
    generalize ext ρ12 w12.heap.size 5 = ρ13 at H13 HM13 HK13 HI HP LX LY LZ
    clear H12 HM12 HK12 u13
    have kl := HP.out.last
    go_wp2_with fail
    go_loopw [48, 49] (fun B I wr => ∃ (i : Nat) (ρr : Nat → Nat), i ≤ il ∧ B = .bool true ∧ I = .int .i64 (i : Int) ∧ Hid (Wd W0 wb ρr ps Ss Ss S L H hf wr ∧ Mv (fun r => r = 6) ρ ρr W wr ∧ (ρr ob = 6 ∧ ρr pb = 6 ∧ ob < wr.heap.size ∧ pb < wr.heap.size) ∧ Lst 7 ρr w7.heap.size wr (.slice (some ⟨g8, 0, none⟩) RN c8) RN FX ∧ Lst 8 ρr w10.heap.size wr (.slice (some ⟨g11, 0, none⟩) RN c11) RN FX ∧ Yst 9 ρr wr yg RN yc FX ∧ Ist ρr wr ia ib io il ic hh ∧ Pst ρr wr pg il pc hh i ∧ wr.cell? ⟨ob, 5, none⟩ = some (.slice ia il ic))) (fun _ I _ => il - (intOf I).toNat)
    case atStart => exact ⟨0, ρ13, Nat.zero_le _, rfl, rfl, H13.out, HM13.out, HK13.out, LX.out, LZ.out, LY.out, HI.out, HP.out, ko5⟩
    case round =>
      clear H13 HM13 HK13 LX LZ LY HI HP ko5 kl
      obtain ⟨i, ρr, hi, rfl, rfl, M0⟩ := hrel
      have ko5 := M0.out.2.2.2.2.2.2.2.2
      by_cases hlt : i < il
      · have e1 : (i : Int) < (il : Int) := by omega
        have e2 : (i : Int) < (il : Int) + 1 := by omega
        have hwi : IntKind.i64.wrap ((i : Int) + 1) = (i : Int) + 1 := by rw [IntKind.wrap_i64]; omega
        obtain rfl := M0.out.2.2.2.2.2.2.1.ints.ad (by omega)
        have ec : (hh i == hh i) = true := beq_self_eq_true _
        go_upto_region 81 with fail
        refine wp_still2 13 (by kernel_rfl) (by decide +kernel) ?_
        intro wx hwx
        have ux : Up wr wx := by rw [hwx]; exact (Up.refl wr).drew
        have kp := M0.out.2.2.2.2.2.2.2.1.cell i (Nat.le_refl _) hlt
        have ki := M0.out.2.2.2.2.2.2.1.ints.cell i hlt
        replace kp := cell_up ux kp
        replace ki := cell_up ux ki
        replace ko5 := cell_up ux ko5
        obtain ⟨X, hX⟩ : ∃ X, X = hh i := ⟨_, rfl⟩
        rw [← hX] at kp ki ec
        have HM0 : Hid _ := M0.out
        have HUx : Hid (Up wr wx) := ux
        clear hwx ux M0 hX
        simp only [List.take_succ_cons, List.take_zero, List.drop_succ_cons, List.drop_zero]
        repeat (go_big_quiet_step (fail))
        refine wpQuiet_nil ?_
        have HX0 : Hid _ := (Mv.ofUp (R := fun _ => True) ρr HUx.out 5)
        have HPx : Hid _ := HM0.out.2.2.2.2.2.2.2.1.mv HX0.out trivial
        obtain ⟨po, pf⟩ := HPx.out.over hlt 55
        have kz := HPx.out.fz i
        have HPo : Hid _ := po
        have HPf : Hid _ := pf
        clear po pf
        go_upto_region 80 with fail
        have HN : Hid (∃ ρr, Wd W0 wb ρr ps Ss Ss S L H hf (wx.setCell ⟨pg, i, none⟩ (.int .i64 55)) ∧ Mv (fun r => r = 6) ρ ρr W (wx.setCell ⟨pg, i, none⟩ (.int .i64 55)) ∧ (ρr ob = 6 ∧ ρr pb = 6 ∧ ob < (wx.setCell ⟨pg, i, none⟩ (.int .i64 55)).heap.size ∧ pb < (wx.setCell ⟨pg, i, none⟩ (.int .i64 55)).heap.size) ∧ Lst 7 ρr w7.heap.size (wx.setCell ⟨pg, i, none⟩ (.int .i64 55)) (.slice (some ⟨g8, 0, none⟩) RN c8) RN FX ∧ Lst 8 ρr w10.heap.size (wx.setCell ⟨pg, i, none⟩ (.int .i64 55)) (.slice (some ⟨g11, 0, none⟩) RN c11) RN FX ∧ Yst 9 ρr (wx.setCell ⟨pg, i, none⟩ (.int .i64 55)) yg RN yc FX ∧ Ist ρr (wx.setCell ⟨pg, i, none⟩ (.int .i64 55)) (some ⟨ib, io, none⟩) ib io il ic hh ∧ Pst ρr (wx.setCell ⟨pg, i, none⟩ (.int .i64 55)) pg il pc hh (i + 1) ∧ (wx.setCell ⟨pg, i, none⟩ (.int .i64 55)).cell? ⟨ob, 5, none⟩ = some (.slice (some ⟨ib, io, none⟩) il ic)) := by
          have m2 := Mv.ofFr HPf.out HPx.out.ro 5
          obtain ⟨z1, z2, z3, z4, z5, z6, z7, z8, z9⟩ := HM0.out
          exact ⟨_, (z1.mv HX0.out ⟨trivial, trivial, trivial, trivial, trivial⟩ (fun _ _ => trivial)).mv m2 (by omega) (fun r hr => by omega), (z2.trans (HX0.out.mono (fun _ _ => trivial))).trans (m2.mono (fun r hr => by omega)), m2.two (HX0.out.two z3 trivial) (by omega), (z4.mv HX0.out trivial).mv m2 (by omega), (z5.mv HX0.out trivial).mv m2 (by omega), (z6.mv HX0.out trivial).mv m2 (by omega), (z7.mv HX0.out trivial).mv m2 (by omega), HPo.out, m2.cell (by rw [(HX0.out.two z3 trivial).1]; omega) ko5⟩
        generalize World.setCell wx _ _ = wy at HN ⊢
        clear HM0 HUx HX0 HPx HPo HPf kp ki kz ko5
        go_wp2_with fail
        obtain ⟨ρy, hy⟩ := HN.out
        first
          | (go_round; (case rel => exact ⟨i + 1, ρy, by omega, by first | rfl | (simp; done), by first | rfl | (simp; done) | (rw [hwi]; rfl), hy⟩); (case measure => simp [intOf]; omega))
          | (refine ⟨⟨i + 1, ρy, by omega, by first | rfl | (simp; done), by first | rfl | (simp; done) | (rw [hwi]; rfl), hy⟩, ?_⟩; simp [intOf]; omega)
      · have e1 : ¬ (i : Int) < (il : Int) := by omega
        have H14 : Hid _ := M0.out.1
        have HM14 : Hid _ := M0.out.2.1
        have HK14 : Hid _ := M0.out.2.2.1
        have LX : Hid _ := M0.out.2.2.2.1
        have LZ : Hid _ := M0.out.2.2.2.2.1
        have LY : Hid _ := M0.out.2.2.2.2.2.1
        clear M0
        go_wp2_with fail
        refine Calls.mono (H14.out.put (q := 7) (own_base LX.out.own HWq.out.1) HG8.out (by omega) (by omega) LX.out.ro (by have := HH.out.2.2.2.1; have := HH.out.2.2.2.2.2.2; omega)) ?_
        rintro e w15 ⟨rfl, ρ15, S15, L15, h15, m15, n15⟩
        have H15 : Hid _ := h15
        have HM15 : Hid _ := HM14.out.trans (m15.mono (R' := fun r => r = 6) (fun r hr => by omega))
        have HN15 : Hid _ := n15
        replace LZ : Hid _ := LZ.out.mv m15 (by omega)
        replace LY : Hid _ := LY.out.mv m15 (by omega)
        clear H14 HM14 HK14 LX h15 m15 n15
        go_wp2_with fail
        refine Calls.mono (H15.out.put (q := 8) (own_base LZ.out.own HWr.out) HG8.out (by omega) (by omega) LZ.out.ro (by have := HN15.out; have := HH.out.2.2.2.1; have := HH.out.2.2.2.2.2.2; omega)) ?_
        rintro e w16 ⟨rfl, ρ16, S16, L16, h16, m16, n16⟩
        have H16 : Hid _ := h16
        have HM16 : Hid _ := HM15.out.trans (m16.mono (R' := fun r => r = 6) (fun r hr => by omega))
        have hq16 : L16.es.length = L.es.length + 8 := by have := HN15.out; omega
        have HN16 : Hid _ := hq16
        clear hq16
        replace LY : Hid _ := LY.out.mv m16 (by omega)
        clear H15 HM15 HN15 LZ h16 m16 n16
        obtain ⟨⟨ρ17, h17, m17⟩, kc, kf⟩ := H16.out.last LY.out.by' HG8.out LY.out.c1 LY.out.c2 (by omega) LY.out.ro
        have H17 : Hid _ := h17
        have HM17 : Hid _ := HM16.out.trans (m17.mono (R' := fun r => r = 6) (fun r hr => by omega))
        clear h17 m17
        go_wp2_with fail
        go_ret
        exact ⟨by first | rfl | (simp; done), ρ17, ⟨_, _, _, _, _, _, H17.out, (show L16.es.length ≤ N + 8 by have := HN16.out; have := HH.out.2.2.2.1; omega), fun s hs => by have := HH.out.2.2.2.2.1 s hs; omega⟩, HM17.out⟩
  · skip
    go_simp
    have ub : Up W1 (wd.alloc (Obj.cells #[.pointer none, .pointer none] 47)) := ud.alloc _
    have kb9 : (wd.alloc (Obj.cells #[.pointer none, .pointer none] 47)).heap[wd.heap.size]? = some (.cells #[.pointer none, .pointer none] 47 (0, 0)) := heap_alloc_new wd _
    refine hK.out _ _ (HSs.out _ ub) (fun hHeld => ?_)
    clear hK KK
    try simp only [Act.put, List.setIfInBounds_toArray, List.set_cons_zero, List.set_cons_succ]
    have HNB9 : W1.heap.size ≤ wd.heap.size := ud.size
    refine wpAnyH_ready (rs := [11]) (by kernel_rfl) (by simp) ?_
    refine AllReadyH.cons (by simp only [List.getElem?_toArray, List.getElem?_cons_succ, List.getElem?_cons_zero]; rfl) (fun KK hK => ?_) AllReadyH.nil
    go_simp
    refine (HPk.out _).mono ?_
    rintro e w' ⟨rfl, hw⟩
    obtain rfl := hw.symm
    clear hw
    refine hK.out _ _ (HSs.out _ ub) (fun hHeld => ?_)
    clear hK KK
    try simp only [Act.put, List.setIfInBounds_toArray, List.set_cons_zero, List.set_cons_succ]
    refine wpAnyH_take (i := 12) (v := ?_) (by simp only [List.getElem?_toArray, List.getElem?_cons_succ, List.getElem?_cons_zero]; rfl) (by kernel_rfl) (by kernel_rfl) (by kernel_rfl) (by intro _ _ _ h; exact h) (Or.inl ⟨by rfl, ?_⟩) (by assumption) ?_
    rotate_left
    · (intro w hSw; (try dsimp only at hSw); go_simp <;> with_reducible rfl)
    try simp only [Act.put, List.setIfInBounds_toArray, List.set_cons_zero, List.set_cons_succ]
    refine wpAnyH_take (i := 13) (v := .agg [.pointer (some ⟨p1, 0, none⟩), .pointer (some ⟨p2, 0, none⟩)].toArray) (by simp only [List.getElem?_toArray, List.getElem?_cons_succ, List.getElem?_cons_zero]; rfl) (by kernel_rfl) (by kernel_rfl) (by kernel_rfl) (by intro _ _ _ h; exact h) (yieldsIf_load_mid (by rfl) 47 _ rfl gl (j * 2) rfl [.pointer (some ⟨p1, 0, none⟩), .pointer (some ⟨p2, 0, none⟩)] _ (fun w hw => hw.2.2) Try.underlying47 rfl (by kernel_rfl)) (by assumption) ?_
    simp only [Act.put, List.setIfInBounds_toArray, List.set_cons_zero, List.set_cons_succ]
    refine wpAnyH_ready (rs := [15]) (by kernel_rfl) (by simp) ?_
    refine AllReadyH.cons (by simp only [List.getElem?_toArray, List.getElem?_cons_succ, List.getElem?_cons_zero]; rfl) (fun KK hK => ?_) AllReadyH.nil
    rw [if_pos (by rfl)]
    refine wp_store_mid 47 _ _ rfl (wd.heap.size) 0 #[.pointer (some ⟨p1, 0, none⟩), .pointer (some ⟨p2, 0, none⟩)] rfl rfl (there2 kb9) (by kernel_rfl) (by simp [Value.oneCell']) ?_
    have uz : Up W1 ((wd.alloc (Obj.cells #[.pointer none, .pointer none] 47)).setCells (wd.heap.size) 0 [.pointer (some ⟨p1, 0, none⟩), .pointer (some ⟨p2, 0, none⟩)]) := Fr.up (ub) HNB9 (fr_setCells _ _ 0 _)
    have kz : ((wd.alloc (Obj.cells #[.pointer none, .pointer none] 47)).setCells (wd.heap.size) 0 [.pointer (some ⟨p1, 0, none⟩), .pointer (some ⟨p2, 0, none⟩)]).heap[wd.heap.size]? = some (.cells #[.pointer (some ⟨p1, 0, none⟩), .pointer (some ⟨p2, 0, none⟩)] 47 (0, 0)) := heap_setCells_same _ _ _ 0 _ (wd.alloc (Obj.cells #[.pointer none, .pointer none] 47)) kb9
    refine hK.out _ _ (HSs.out _ uz) (fun hHeld => ?_)
    clear hK KK
    try simp only [Act.put, List.setIfInBounds_toArray, List.set_cons_zero, List.set_cons_succ]
    refine wpAnyH_done (by kernel_rfl) ?_ _
    obtain ⟨pb, hpb⟩ : ∃ pb, pb = wd.heap.size := ⟨_, rfl⟩
    rw [← hpb] at kz uz HNB9 ⊢
    clear hHeld hpb
    generalize World.setCells _ pb 0 _ = w4 at uz kz ⊢
    have u4 : Up W w4 := HU1.out.1.trans uz
    obtain ⟨ko1, ko2, ko3, ko4, ko5, ko0⟩ := HO1.out w4 uz
    have kp0 := heap_cell kz (o := 0) (v := .pointer (some ⟨p1, 0, none⟩)) rfl
    have kp1 := heap_cell kz (o := 1) (v := .pointer (some ⟨p2, 0, none⟩)) rfl
    have H4 : Hid (Wd W0 wb (ext ρ W.heap.size 6) ps Ss Ss S L H hf w4) := HH.out.1.upR u4 6
    have HM4 : Hid (Mv (fun r => r = 6) ρ (ext ρ W.heap.size 6) W w4) := Mv.ofUp ρ u4 6
    have HK4 : Hid (ext ρ W.heap.size 6 ob = 6 ∧ ext ρ W.heap.size 6 pb = 6 ∧ ob < w4.heap.size ∧ pb < w4.heap.size) := ⟨ext_ge HU1.out.2.1, ext_ge (Nat.le_trans HU1.out.1.size HNB9), World.block_lt_of_cell? _ _ ko2, World.block_lt_of_cell? _ _ kp0⟩
    have HI : Hid (Ist (ext ρ W.heap.size 6) w4 ia ib io il ic hh) := HIW.out.1.mv (R := fun _ => True) (Mv.ofUp ρ u4 6) trivial
    have HI0 : Hid (ia = none → ic = 0) := HIW.out.2
    generalize ext ρ W.heap.size 6 = ρ4 at H4 HM4 HK4 HI
    clear HIW u4 uz kz HNB9 ko1 ko2 ko3 ko4
    obtain ⟨pu, w5, r5, o5, u5⟩ := want_runI (w := w4) HI.out.ints HI0.out (by omega)
    have HR5 : Hid _ := r5
    obtain ⟨pg, pc, w6, r6, g6, c6, m6, k6, l6, z6, u6⟩ := more_run (W := w4) o5 u5 (by omega) 771177
    have HR6 : Hid _ := r6
    have HP0 : Hid (Pst (ext ρ4 w4.heap.size 5) w6 pg il pc hh 0) := ⟨fun k _ hk => k6 k hk, l6, ext_ge g6, z6, c6, m6, HI.out.ints.i64⟩
    obtain ⟨va, vn, vc, rfl⟩ := own_slice3 o5
    have ka5 := cell_up ((Up.refl w4).alloc (.cells #[] 3)) ko5
    have H6 : Hid (Wd W0 wb (ext ρ4 w4.heap.size 5) ps Ss Ss S L H hf w6) := H4.out.upR u6 5
    have HM6 : Hid (Mv (fun r => r = 6) ρ (ext ρ4 w4.heap.size 5) W w6) := HM4.out.trans (Mv.ofUp ρ4 u6 5)
    have HK6 : Hid ((ext ρ4 w4.heap.size 5) ob = 6 ∧ (ext ρ4 w4.heap.size 5) pb = 6 ∧ ob < w6.heap.size ∧ pb < w6.heap.size) := (Mv.ofUp (R := fun _ => True) ρ4 u6 5).two HK4.out trivial
    replace kp0 := cell_up u6 kp0
    replace kp1 := cell_up u6 kp1
    replace ko5 := cell_up u6 ko5
    replace HI : Hid _ := HI.out.mv (R := fun _ => True) (Mv.ofUp ρ4 u6 5) trivial
    clear r5 r6 o5 u5 g6 c6 m6 k6 l6 z6
    go_wp2_with (first | (at_builtin; refine Lib.wpList_append_run _ rfl _ _ _ _ rfl _ _ rfl rfl _ _ HR5.out ?_; clear HR5) | (at_builtin; refine Lib.wpList_append_run _ rfl _ _ _ _ rfl _ _ rfl rfl _ _ HR6.out ?_; clear HR6))
    generalize ext ρ4 w4.heap.size 5 = ρ6 at H6 HM6 HK6 HI HP0
    have HP : Hid _ := HP0.out
    clear H4 HM4 HK4 u6 ka5 ko0 HP0 HI0
    have hpc : (il : Int) ≤ (pc : Int) := by have := HP.out.c1; omega
    have hpm : pc ≤ 9223372036854775807 := by have := HP.out.c2; unfold maxLen at this; omega
    have hil1 : (il : Int) < (il : Int) + 1 := by omega
    go_upto_region 74 with fail
    refine wp_region_held_drew (S := fun w => (w.cell? ⟨pb, 0, none⟩ = some (.pointer (some ⟨p1, 0, none⟩))) ∧ (w.cell? ⟨pb, 1, none⟩ = some (.pointer (some ⟨p2, 0, none⟩))) ∧ (w.cell? ⟨ob, 5, none⟩ = some (.slice ia il ic))) (by kernel_rfl) ⟨cell_up ((Up.refl w6).drew) kp0, cell_up ((Up.refl w6).drew) kp1, cell_up ((Up.refl w6).drew) ko5⟩ (fun hHeld => ?_)
    have u7 : Up w6 w6.drew := (Up.refl w6).drew
    generalize hwd7 : World.drew w6 = w7 at u7 hHeld ⊢
    clear hwd7
    have H7 : Hid (Wd W0 wb (ext ρ6 w6.heap.size 5) ps Ss Ss S L H hf w7) := H6.out.upR u7 5
    have HM7 : Hid (Mv (fun r => r = 6) ρ (ext ρ6 w6.heap.size 5) W w7) := HM6.out.trans (Mv.ofUp ρ6 u7 5)
    have HK7 : Hid ((ext ρ6 w6.heap.size 5) ob = 6 ∧ (ext ρ6 w6.heap.size 5) pb = 6 ∧ ob < w7.heap.size ∧ pb < w7.heap.size) := (Mv.ofUp (R := fun _ => True) ρ6 u7 5).two HK6.out trivial
    replace kp0 := cell_up u7 kp0
    replace kp1 := cell_up u7 kp1
    replace ko5 := cell_up u7 ko5
    replace HI : Hid _ := HI.out.mv (R := fun _ => True) (Mv.ofUp ρ6 u7 5) trivial
    replace HP : Hid _ := HP.out.mv (R := fun _ => True) (Mv.ofUp ρ6 u7 5) trivial
    generalize ext ρ6 w6.heap.size 5 = ρ7 at H7 HM7 HK7 HI HP
    clear H6 HM6 HK6 u7
    refine wpAnyH_take (i := 0) (v := ?_) (by simp only [List.getElem?_toArray, List.getElem?_cons_zero]; rfl) (by kernel_rfl) (by kernel_rfl) (by kernel_rfl) (by intro _ _ _ h; exact h) (Or.inl ⟨by rfl, ?_⟩) (by assumption) ?_
    rotate_left
    · (intro w hSw; (try dsimp only at hSw); obtain ⟨hS0, hS1, hS2⟩ := hSw; go_simp <;> with_reducible rfl)
    try simp only [Act.put, List.setIfInBounds_toArray, List.set_cons_zero, List.set_cons_succ]
    refine wpAnyH_take (i := 1) (v := ?_) (by simp only [List.getElem?_toArray, List.getElem?_cons_succ, List.getElem?_cons_zero]; rfl) (by kernel_rfl) (by kernel_rfl) (by kernel_rfl) (by intro _ _ _ h; exact h) (Or.inl ⟨by rfl, ?_⟩) (by assumption) ?_
    rotate_left
    · (intro w hSw; (try dsimp only at hSw); obtain ⟨hS0, hS1, hS2⟩ := hSw; go_simp <;> with_reducible rfl)
    try simp only [Act.put, List.setIfInBounds_toArray, List.set_cons_zero, List.set_cons_succ]
    refine wpAnyH_take (i := 2) (v := ?_) (by simp only [List.getElem?_toArray, List.getElem?_cons_succ, List.getElem?_cons_zero]; rfl) (by kernel_rfl) (by kernel_rfl) (by kernel_rfl) (by intro _ _ _ h; exact h) (Or.inl ⟨by rfl, ?_⟩) (by assumption) ?_
    rotate_left
    · (intro w hSw; (try dsimp only at hSw); obtain ⟨hS0, hS1, hS2⟩ := hSw; go_simp <;> with_reducible rfl)
    try simp only [Act.put, List.setIfInBounds_toArray, List.set_cons_zero, List.set_cons_succ]
    refine wpAnyH_take (i := 3) (v := ?_) (by simp only [List.getElem?_toArray, List.getElem?_cons_succ, List.getElem?_cons_zero]; rfl) (by kernel_rfl) (by kernel_rfl) (by kernel_rfl) (by intro _ _ _ h; exact h) (Or.inl ⟨by rfl, ?_⟩) (by assumption) ?_
    rotate_left
    · (intro w hSw; (try dsimp only at hSw); obtain ⟨hS0, hS1, hS2⟩ := hSw; go_simp <;> with_reducible rfl)
    try simp only [Act.put, List.setIfInBounds_toArray, List.set_cons_zero, List.set_cons_succ]
    refine wpAnyH_take (i := 4) (v := ?_) (by simp only [List.getElem?_toArray, List.getElem?_cons_succ, List.getElem?_cons_zero]; rfl) (by kernel_rfl) (by kernel_rfl) (by kernel_rfl) (by intro _ _ _ h; exact h) (Or.inl ⟨by rfl, ?_⟩) (by assumption) ?_
    rotate_left
    · (intro w hSw; (try dsimp only at hSw); obtain ⟨hS0, hS1, hS2⟩ := hSw; go_simp <;> with_reducible rfl)
    try simp only [Act.put, List.setIfInBounds_toArray, List.set_cons_zero, List.set_cons_succ]
    refine wpAnyH_take (i := 5) (v := ?_) (by simp only [List.getElem?_toArray, List.getElem?_cons_succ, List.getElem?_cons_zero]; rfl) (by kernel_rfl) (by kernel_rfl) (by kernel_rfl) (by intro _ _ _ h; exact h) (Or.inl ⟨by rfl, ?_⟩) (by assumption) ?_
    rotate_left
    · (intro w hSw; (try dsimp only at hSw); obtain ⟨hS0, hS1, hS2⟩ := hSw; go_simp <;> with_reducible rfl)
    try simp only [Act.put, List.setIfInBounds_toArray, List.set_cons_zero, List.set_cons_succ]
    refine wpAnyH_take (i := 6) (v := ?_) (by simp only [List.getElem?_toArray, List.getElem?_cons_succ, List.getElem?_cons_zero]; rfl) (by kernel_rfl) (by kernel_rfl) (by kernel_rfl) (by intro _ _ _ h; exact h) (Or.inl ⟨by rfl, ?_⟩) (by assumption) ?_
    rotate_left
    · (intro w hSw; (try dsimp only at hSw); obtain ⟨hS0, hS1, hS2⟩ := hSw; go_simp <;> with_reducible rfl)
    try simp only [Act.put, List.setIfInBounds_toArray, List.set_cons_zero, List.set_cons_succ]
    refine wpAnyH_ready (rs := [7]) (by kernel_rfl) (by simp) ?_
    refine AllReadyH.cons (by simp only [List.getElem?_toArray, List.getElem?_cons_succ, List.getElem?_cons_zero]; rfl) (fun KK hK => ?_) AllReadyH.nil
    go_simp
    refine Calls.mono (HRX.out _ _ _ _ _ _ (H7.out.pX j _ Sj HH.out.2.1 HH.out.2.2.1).1 HP.out.ints) ?_
    rintro e w8 ⟨g8, c8, rfl, q8, u8⟩
    have LX : Hid (Lst 7 (ext ρ7 w7.heap.size 7) w7.heap.size w8 (.slice (some ⟨g8, 0, none⟩) RN c8) RN FX) := ⟨q8, fun b hb => ext_ge (q8.lt b hb).1⟩
    have HW7 : Hid (wb + 1 ≤ w7.heap.size) := H7.out.pl
    have H8 : Hid (Wd W0 wb (ext ρ7 w7.heap.size 7) ps Ss Ss S L H hf w8) := H7.out.upR u8 7
    have HM8 : Hid (Mv (fun r => r = 6) ρ (ext ρ7 w7.heap.size 7) W w8) := HM7.out.trans (Mv.ofUp ρ7 u8 7)
    have HK8 : Hid ((ext ρ7 w7.heap.size 7) ob = 6 ∧ (ext ρ7 w7.heap.size 7) pb = 6 ∧ ob < w8.heap.size ∧ pb < w8.heap.size) := (Mv.ofUp (R := fun _ => True) ρ7 u8 7).two HK7.out trivial
    replace kp0 := cell_up u8 kp0
    replace kp1 := cell_up u8 kp1
    replace ko5 := cell_up u8 ko5
    replace HI : Hid _ := HI.out.mv (R := fun _ => True) (Mv.ofUp ρ7 u8 7) trivial
    replace HP : Hid _ := HP.out.mv (R := fun _ => True) (Mv.ofUp ρ7 u8 7) trivial
    generalize ext ρ7 w7.heap.size 7 = ρ8 at H8 HM8 HK8 LX HI HP
    clear H7 HM7 HK7 u8 q8
    refine hK.out _ _ ⟨kp0, kp1, ko5⟩ (fun hHeld => ?_)
    clear hK KK
    try simp only [Act.put, List.setIfInBounds_toArray, List.set_cons_zero, List.set_cons_succ]
    refine wpAnyH_take (i := 8) (v := ?_) (by simp only [List.getElem?_toArray, List.getElem?_cons_succ, List.getElem?_cons_zero]; rfl) (by kernel_rfl) (by kernel_rfl) (by kernel_rfl) (by intro _ _ _ h; exact h) (Or.inl ⟨by rfl, ?_⟩) (by assumption) ?_
    rotate_left
    · (intro w hSw; (try dsimp only at hSw); obtain ⟨hS0, hS1, hS2⟩ := hSw; go_simp <;> with_reducible rfl)
    try simp only [Act.put, List.setIfInBounds_toArray, List.set_cons_zero, List.set_cons_succ]
    refine wpAnyH_done (by kernel_rfl) ?_ _
    clear hHeld
    go_wp2_with fail
    refine Calls.mono (HRY.out _ _ _ _ _ _ (H8.out.pY j _ Sj HH.out.2.1 HH.out.2.2.1).1 HI.out.ints) ?_
    rintro e w9 ⟨yg, yc, rfl, hy1, hy2, hy3, hy4, u9⟩
    have LY : Hid (Yst 9 (ext ρ8 w8.heap.size 9) w9 yg RN yc FX) := ⟨hy2, ext_ge hy1, hy3, hy4⟩
    have H9 : Hid (Wd W0 wb (ext ρ8 w8.heap.size 9) ps Ss Ss S L H hf w9) := H8.out.upR u9 9
    have HM9 : Hid (Mv (fun r => r = 6) ρ (ext ρ8 w8.heap.size 9) W w9) := HM8.out.trans (Mv.ofUp ρ8 u9 9)
    have HK9 : Hid ((ext ρ8 w8.heap.size 9) ob = 6 ∧ (ext ρ8 w8.heap.size 9) pb = 6 ∧ ob < w9.heap.size ∧ pb < w9.heap.size) := (Mv.ofUp (R := fun _ => True) ρ8 u9 9).two HK8.out trivial
    replace kp0 := cell_up u9 kp0
    replace kp1 := cell_up u9 kp1
    replace ko5 := cell_up u9 ko5
    replace HI : Hid _ := HI.out.mv (R := fun _ => True) (Mv.ofUp ρ8 u9 9) trivial
    replace HP : Hid _ := HP.out.mv (R := fun _ => True) (Mv.ofUp ρ8 u9 9) trivial
    replace LX : Hid _ := LX.out.mv (R := fun _ => True) (Mv.ofUp ρ8 u9 9) trivial
    generalize ext ρ8 w8.heap.size 9 = ρ9 at H9 HM9 HK9 LX LY HI HP
    clear H8 HM8 HK8 u9 hy1 hy2 hy3 hy4
    go_upto_region 76 with fail
    refine wp_region_held_drew (S := fun w => (w.cell? ⟨pb, 0, none⟩ = some (.pointer (some ⟨p1, 0, none⟩))) ∧ (w.cell? ⟨pb, 1, none⟩ = some (.pointer (some ⟨p2, 0, none⟩))) ∧ (w.cell? ⟨ob, 5, none⟩ = some (.slice ia il ic))) (by kernel_rfl) ⟨cell_up ((Up.refl w9).drew) kp0, cell_up ((Up.refl w9).drew) kp1, cell_up ((Up.refl w9).drew) ko5⟩ (fun hHeld => ?_)
    have u10 : Up w9 w9.drew := (Up.refl w9).drew
    generalize hwd10 : World.drew w9 = w10 at u10 hHeld ⊢
    clear hwd10
    have H10 : Hid (Wd W0 wb (ext ρ9 w9.heap.size 5) ps Ss Ss S L H hf w10) := H9.out.upR u10 5
    have HM10 : Hid (Mv (fun r => r = 6) ρ (ext ρ9 w9.heap.size 5) W w10) := HM9.out.trans (Mv.ofUp ρ9 u10 5)
    have HK10 : Hid ((ext ρ9 w9.heap.size 5) ob = 6 ∧ (ext ρ9 w9.heap.size 5) pb = 6 ∧ ob < w10.heap.size ∧ pb < w10.heap.size) := (Mv.ofUp (R := fun _ => True) ρ9 u10 5).two HK9.out trivial
    replace kp0 := cell_up u10 kp0
    replace kp1 := cell_up u10 kp1
    replace ko5 := cell_up u10 ko5
    replace HI : Hid _ := HI.out.mv (R := fun _ => True) (Mv.ofUp ρ9 u10 5) trivial
    replace HP : Hid _ := HP.out.mv (R := fun _ => True) (Mv.ofUp ρ9 u10 5) trivial
    replace LX : Hid _ := LX.out.mv (R := fun _ => True) (Mv.ofUp ρ9 u10 5) trivial
    replace LY : Hid _ := LY.out.mv (R := fun _ => True) (Mv.ofUp ρ9 u10 5) trivial
    generalize ext ρ9 w9.heap.size 5 = ρ10 at H10 HM10 HK10 HI HP LX LY
    clear H9 HM9 HK9 u10
    refine wpAnyH_take (i := 0) (v := ?_) (by simp only [List.getElem?_toArray, List.getElem?_cons_zero]; rfl) (by kernel_rfl) (by kernel_rfl) (by kernel_rfl) (by intro _ _ _ h; exact h) (Or.inl ⟨by rfl, ?_⟩) (by assumption) ?_
    rotate_left
    · (intro w hSw; (try dsimp only at hSw); obtain ⟨hS0, hS1, hS2⟩ := hSw; go_simp <;> with_reducible rfl)
    try simp only [Act.put, List.setIfInBounds_toArray, List.set_cons_zero, List.set_cons_succ]
    refine wpAnyH_take (i := 1) (v := ?_) (by simp only [List.getElem?_toArray, List.getElem?_cons_succ, List.getElem?_cons_zero]; rfl) (by kernel_rfl) (by kernel_rfl) (by kernel_rfl) (by intro _ _ _ h; exact h) (Or.inl ⟨by rfl, ?_⟩) (by assumption) ?_
    rotate_left
    · (intro w hSw; (try dsimp only at hSw); obtain ⟨hS0, hS1, hS2⟩ := hSw; go_simp <;> with_reducible rfl)
    try simp only [Act.put, List.setIfInBounds_toArray, List.set_cons_zero, List.set_cons_succ]
    refine wpAnyH_take (i := 2) (v := ?_) (by simp only [List.getElem?_toArray, List.getElem?_cons_succ, List.getElem?_cons_zero]; rfl) (by kernel_rfl) (by kernel_rfl) (by kernel_rfl) (by intro _ _ _ h; exact h) (Or.inl ⟨by rfl, ?_⟩) (by assumption) ?_
    rotate_left
    · (intro w hSw; (try dsimp only at hSw); obtain ⟨hS0, hS1, hS2⟩ := hSw; go_simp <;> with_reducible rfl)
    try simp only [Act.put, List.setIfInBounds_toArray, List.set_cons_zero, List.set_cons_succ]
    refine wpAnyH_take (i := 3) (v := ?_) (by simp only [List.getElem?_toArray, List.getElem?_cons_succ, List.getElem?_cons_zero]; rfl) (by kernel_rfl) (by kernel_rfl) (by kernel_rfl) (by intro _ _ _ h; exact h) (Or.inl ⟨by rfl, ?_⟩) (by assumption) ?_
    rotate_left
    · (intro w hSw; (try dsimp only at hSw); obtain ⟨hS0, hS1, hS2⟩ := hSw; go_simp <;> with_reducible rfl)
    try simp only [Act.put, List.setIfInBounds_toArray, List.set_cons_zero, List.set_cons_succ]
    refine wpAnyH_take (i := 4) (v := ?_) (by simp only [List.getElem?_toArray, List.getElem?_cons_succ, List.getElem?_cons_zero]; rfl) (by kernel_rfl) (by kernel_rfl) (by kernel_rfl) (by intro _ _ _ h; exact h) (Or.inl ⟨by rfl, ?_⟩) (by assumption) ?_
    rotate_left
    · (intro w hSw; (try dsimp only at hSw); obtain ⟨hS0, hS1, hS2⟩ := hSw; go_simp <;> with_reducible rfl)
    try simp only [Act.put, List.setIfInBounds_toArray, List.set_cons_zero, List.set_cons_succ]
    refine wpAnyH_take (i := 5) (v := ?_) (by simp only [List.getElem?_toArray, List.getElem?_cons_succ, List.getElem?_cons_zero]; rfl) (by kernel_rfl) (by kernel_rfl) (by kernel_rfl) (by intro _ _ _ h; exact h) (Or.inl ⟨by rfl, ?_⟩) (by assumption) ?_
    rotate_left
    · (intro w hSw; (try dsimp only at hSw); obtain ⟨hS0, hS1, hS2⟩ := hSw; go_simp <;> with_reducible rfl)
    try simp only [Act.put, List.setIfInBounds_toArray, List.set_cons_zero, List.set_cons_succ]
    refine wpAnyH_take (i := 6) (v := ?_) (by simp only [List.getElem?_toArray, List.getElem?_cons_succ, List.getElem?_cons_zero]; rfl) (by kernel_rfl) (by kernel_rfl) (by kernel_rfl) (by intro _ _ _ h; exact h) (Or.inl ⟨by rfl, ?_⟩) (by assumption) ?_
    rotate_left
    · (intro w hSw; (try dsimp only at hSw); obtain ⟨hS0, hS1, hS2⟩ := hSw; go_simp <;> with_reducible rfl)
    try simp only [Act.put, List.setIfInBounds_toArray, List.set_cons_zero, List.set_cons_succ]
    refine wpAnyH_ready (rs := [7]) (by kernel_rfl) (by simp) ?_
    refine AllReadyH.cons (by simp only [List.getElem?_toArray, List.getElem?_cons_succ, List.getElem?_cons_zero]; rfl) (fun KK hK => ?_) AllReadyH.nil
    go_simp
    refine Calls.mono (HRX.out _ _ _ _ _ _ (H10.out.pX j _ Sj HH.out.2.1 HH.out.2.2.1).1 HP.out.ints) ?_
    rintro e w11 ⟨g11, c11, rfl, q11, u11⟩
    have LZ : Hid (Lst 8 (ext ρ10 w10.heap.size 8) w10.heap.size w11 (.slice (some ⟨g11, 0, none⟩) RN c11) RN FX) := ⟨q11, fun b hb => ext_ge (q11.lt b hb).1⟩
    have HW8 : Hid (wb + 1 ≤ w10.heap.size) := H10.out.pl
    have H11 : Hid (Wd W0 wb (ext ρ10 w10.heap.size 8) ps Ss Ss S L H hf w11) := H10.out.upR u11 8
    have HM11 : Hid (Mv (fun r => r = 6) ρ (ext ρ10 w10.heap.size 8) W w11) := HM10.out.trans (Mv.ofUp ρ10 u11 8)
    have HK11 : Hid ((ext ρ10 w10.heap.size 8) ob = 6 ∧ (ext ρ10 w10.heap.size 8) pb = 6 ∧ ob < w11.heap.size ∧ pb < w11.heap.size) := (Mv.ofUp (R := fun _ => True) ρ10 u11 8).two HK10.out trivial
    replace kp0 := cell_up u11 kp0
    replace kp1 := cell_up u11 kp1
    replace ko5 := cell_up u11 ko5
    replace HI : Hid _ := HI.out.mv (R := fun _ => True) (Mv.ofUp ρ10 u11 8) trivial
    replace HP : Hid _ := HP.out.mv (R := fun _ => True) (Mv.ofUp ρ10 u11 8) trivial
    replace LX : Hid _ := LX.out.mv (R := fun _ => True) (Mv.ofUp ρ10 u11 8) trivial
    replace LY : Hid _ := LY.out.mv (R := fun _ => True) (Mv.ofUp ρ10 u11 8) trivial
    generalize ext ρ10 w10.heap.size 8 = ρ11 at H11 HM11 HK11 LZ HI HP LX LY
    clear H10 HM10 HK10 u11 q11
    refine hK.out _ _ ⟨kp0, kp1, ko5⟩ (fun hHeld => ?_)
    clear hK KK
    try simp only [Act.put, List.setIfInBounds_toArray, List.set_cons_zero, List.set_cons_succ]
    refine wpAnyH_take (i := 8) (v := ?_) (by simp only [List.getElem?_toArray, List.getElem?_cons_succ, List.getElem?_cons_zero]; rfl) (by kernel_rfl) (by kernel_rfl) (by kernel_rfl) (by intro _ _ _ h; exact h) (Or.inl ⟨by rfl, ?_⟩) (by assumption) ?_
    rotate_left
    · (intro w hSw; (try dsimp only at hSw); obtain ⟨hS0, hS1, hS2⟩ := hSw; go_simp <;> with_reducible rfl)
    try simp only [Act.put, List.setIfInBounds_toArray, List.set_cons_zero, List.set_cons_succ]
    refine wpAnyH_done (by kernel_rfl) ?_ _
    clear hHeld
    have HWq : Hid (wb + 1 ≤ w7.heap.size ∧ True) := ⟨HW7.out, trivial⟩
    have HWr : Hid (wb + 1 ≤ w10.heap.size) := HW8.out
    clear HW7 HW8 kp0 kp1 HRX HRY
    go_wp2_with fail
    refine Calls.mono (same_yes (LX.out.lb HG8.out) LY.out.lb) ?_
    rintro e w12 ⟨rfl, u12⟩
    have H12 : Hid (Wd W0 wb (ext ρ11 w11.heap.size 5) ps Ss Ss S L H hf w12) := H11.out.upR u12 5
    have HM12 : Hid (Mv (fun r => r = 6) ρ (ext ρ11 w11.heap.size 5) W w12) := HM11.out.trans (Mv.ofUp ρ11 u12 5)
    have HK12 : Hid ((ext ρ11 w11.heap.size 5) ob = 6 ∧ (ext ρ11 w11.heap.size 5) pb = 6 ∧ ob < w12.heap.size ∧ pb < w12.heap.size) := (Mv.ofUp (R := fun _ => True) ρ11 u12 5).two HK11.out trivial
    replace ko5 := cell_up u12 ko5
    replace HI : Hid _ := HI.out.mv (R := fun _ => True) (Mv.ofUp ρ11 u12 5) trivial
    replace HP : Hid _ := HP.out.mv (R := fun _ => True) (Mv.ofUp ρ11 u12 5) trivial
    replace LX : Hid _ := LX.out.mv (R := fun _ => True) (Mv.ofUp ρ11 u12 5) trivial
    replace LY : Hid _ := LY.out.mv (R := fun _ => True) (Mv.ofUp ρ11 u12 5) trivial
    replace LZ : Hid _ := LZ.out.mv (R := fun _ => True) (Mv.ofUp ρ11 u12 5) trivial
    generalize ext ρ11 w11.heap.size 5 = ρ12 at H12 HM12 HK12 HI HP LX LY LZ
    clear H11 HM11 HK11 u12
    go_wp2_with fail
    refine Calls.mono (same_yes (LZ.out.lb HG8.out) LY.out.lb) ?_
    rintro e w13 ⟨rfl, u13⟩
    have H13 : Hid (Wd W0 wb (ext ρ12 w12.heap.size 5) ps Ss Ss S L H hf w13) := H12.out.upR u13 5
    have HM13 : Hid (Mv (fun r => r = 6) ρ (ext ρ12 w12.heap.size 5) W w13) := HM12.out.trans (Mv.ofUp ρ12 u13 5)
    have HK13 : Hid ((ext ρ12 w12.heap.size 5) ob = 6 ∧ (ext ρ12 w12.heap.size 5) pb = 6 ∧ ob < w13.heap.size ∧ pb < w13.heap.size) := (Mv.ofUp (R := fun _ => True) ρ12 u13 5).two HK12.out trivial
    replace ko5 := cell_up u13 ko5
    replace HI : Hid _ := HI.out.mv (R := fun _ => True) (Mv.ofUp ρ12 u13 5) trivial
    replace HP : Hid _ := HP.out.mv (R := fun _ => True) (Mv.ofUp ρ12 u13 5) trivial
    replace LX : Hid _ := LX.out.mv (R := fun _ => True) (Mv.ofUp ρ12 u13 5) trivial
    replace LY : Hid _ := LY.out.mv (R := fun _ => True) (Mv.ofUp ρ12 u13 5) trivial
    replace LZ : Hid _ := LZ.out.mv (R := fun _ => True) (Mv.ofUp ρ12 u13 5) trivial
    generalize ext ρ12 w12.heap.size 5 = ρ13 at H13 HM13 HK13 HI HP LX LY LZ
    clear H12 HM12 HK12 u13
    have kl := HP.out.last
    go_wp2_with fail
    go_loopw [48, 49] (fun B I wr => ∃ (i : Nat) (ρr : Nat → Nat), i ≤ il ∧ B = .bool true ∧ I = .int .i64 (i : Int) ∧ Hid (Wd W0 wb ρr ps Ss Ss S L H hf wr ∧ Mv (fun r => r = 6) ρ ρr W wr ∧ (ρr ob = 6 ∧ ρr pb = 6 ∧ ob < wr.heap.size ∧ pb < wr.heap.size) ∧ Lst 7 ρr w7.heap.size wr (.slice (some ⟨g8, 0, none⟩) RN c8) RN FX ∧ Lst 8 ρr w10.heap.size wr (.slice (some ⟨g11, 0, none⟩) RN c11) RN FX ∧ Yst 9 ρr wr yg RN yc FX ∧ Ist ρr wr ia ib io il ic hh ∧ Pst ρr wr pg il pc hh i ∧ wr.cell? ⟨ob, 5, none⟩ = some (.slice ia il ic))) (fun _ I _ => il - (intOf I).toNat)
    case atStart => exact ⟨0, ρ13, Nat.zero_le _, rfl, rfl, H13.out, HM13.out, HK13.out, LX.out, LZ.out, LY.out, HI.out, HP.out, ko5⟩
    case round =>
      clear H13 HM13 HK13 LX LZ LY HI HP ko5 kl
      obtain ⟨i, ρr, hi, rfl, rfl, M0⟩ := hrel
      have ko5 := M0.out.2.2.2.2.2.2.2.2
      by_cases hlt : i < il
      · have e1 : (i : Int) < (il : Int) := by omega
        have e2 : (i : Int) < (il : Int) + 1 := by omega
        have hwi : IntKind.i64.wrap ((i : Int) + 1) = (i : Int) + 1 := by rw [IntKind.wrap_i64]; omega
        obtain rfl := M0.out.2.2.2.2.2.2.1.ints.ad (by omega)
        have ec : (hh i == hh i) = true := beq_self_eq_true _
        go_upto_region 81 with fail
        refine wp_still2 13 (by kernel_rfl) (by decide +kernel) ?_
        intro wx hwx
        have ux : Up wr wx := by rw [hwx]; exact (Up.refl wr).drew
        have kp := M0.out.2.2.2.2.2.2.2.1.cell i (Nat.le_refl _) hlt
        have ki := M0.out.2.2.2.2.2.2.1.ints.cell i hlt
        replace kp := cell_up ux kp
        replace ki := cell_up ux ki
        replace ko5 := cell_up ux ko5
        obtain ⟨X, hX⟩ : ∃ X, X = hh i := ⟨_, rfl⟩
        rw [← hX] at kp ki ec
        have HM0 : Hid _ := M0.out
        have HUx : Hid (Up wr wx) := ux
        clear hwx ux M0 hX
        simp only [List.take_succ_cons, List.take_zero, List.drop_succ_cons, List.drop_zero]
        repeat (go_big_quiet_step (fail))
        refine wpQuiet_nil ?_
        have HX0 : Hid _ := (Mv.ofUp (R := fun _ => True) ρr HUx.out 5)
        have HPx : Hid _ := HM0.out.2.2.2.2.2.2.2.1.mv HX0.out trivial
        obtain ⟨po, pf⟩ := HPx.out.over hlt 55
        have kz := HPx.out.fz i
        have HPo : Hid _ := po
        have HPf : Hid _ := pf
        clear po pf
        go_upto_region 80 with fail
        have HN : Hid (∃ ρr, Wd W0 wb ρr ps Ss Ss S L H hf (wx.setCell ⟨pg, i, none⟩ (.int .i64 55)) ∧ Mv (fun r => r = 6) ρ ρr W (wx.setCell ⟨pg, i, none⟩ (.int .i64 55)) ∧ (ρr ob = 6 ∧ ρr pb = 6 ∧ ob < (wx.setCell ⟨pg, i, none⟩ (.int .i64 55)).heap.size ∧ pb < (wx.setCell ⟨pg, i, none⟩ (.int .i64 55)).heap.size) ∧ Lst 7 ρr w7.heap.size (wx.setCell ⟨pg, i, none⟩ (.int .i64 55)) (.slice (some ⟨g8, 0, none⟩) RN c8) RN FX ∧ Lst 8 ρr w10.heap.size (wx.setCell ⟨pg, i, none⟩ (.int .i64 55)) (.slice (some ⟨g11, 0, none⟩) RN c11) RN FX ∧ Yst 9 ρr (wx.setCell ⟨pg, i, none⟩ (.int .i64 55)) yg RN yc FX ∧ Ist ρr (wx.setCell ⟨pg, i, none⟩ (.int .i64 55)) (some ⟨ib, io, none⟩) ib io il ic hh ∧ Pst ρr (wx.setCell ⟨pg, i, none⟩ (.int .i64 55)) pg il pc hh (i + 1) ∧ (wx.setCell ⟨pg, i, none⟩ (.int .i64 55)).cell? ⟨ob, 5, none⟩ = some (.slice (some ⟨ib, io, none⟩) il ic)) := by
          have m2 := Mv.ofFr HPf.out HPx.out.ro 5
          obtain ⟨z1, z2, z3, z4, z5, z6, z7, z8, z9⟩ := HM0.out
          exact ⟨_, (z1.mv HX0.out ⟨trivial, trivial, trivial, trivial, trivial⟩ (fun _ _ => trivial)).mv m2 (by omega) (fun r hr => by omega), (z2.trans (HX0.out.mono (fun _ _ => trivial))).trans (m2.mono (fun r hr => by omega)), m2.two (HX0.out.two z3 trivial) (by omega), (z4.mv HX0.out trivial).mv m2 (by omega), (z5.mv HX0.out trivial).mv m2 (by omega), (z6.mv HX0.out trivial).mv m2 (by omega), (z7.mv HX0.out trivial).mv m2 (by omega), HPo.out, m2.cell (by rw [(HX0.out.two z3 trivial).1]; omega) ko5⟩
        generalize World.setCell wx _ _ = wy at HN ⊢
        clear HM0 HUx HX0 HPx HPo HPf kp ki kz ko5
        go_wp2_with fail
        obtain ⟨ρy, hy⟩ := HN.out
        first
          | (go_round; (case rel => exact ⟨i + 1, ρy, by omega, by first | rfl | (simp; done), by first | rfl | (simp; done) | (rw [hwi]; rfl), hy⟩); (case measure => simp [intOf]; omega))
          | (refine ⟨⟨i + 1, ρy, by omega, by first | rfl | (simp; done), by first | rfl | (simp; done) | (rw [hwi]; rfl), hy⟩, ?_⟩; simp [intOf]; omega)
      · have e1 : ¬ (i : Int) < (il : Int) := by omega
        have H14 : Hid _ := M0.out.1
        have HM14 : Hid _ := M0.out.2.1
        have HK14 : Hid _ := M0.out.2.2.1
        have LX : Hid _ := M0.out.2.2.2.1
        have LZ : Hid _ := M0.out.2.2.2.2.1
        have LY : Hid _ := M0.out.2.2.2.2.2.1
        clear M0
        go_wp2_with fail
        refine Calls.mono (H14.out.put (q := 7) (own_base LX.out.own HWq.out.1) HG8.out (by omega) (by omega) LX.out.ro (by have := HH.out.2.2.2.1; have := HH.out.2.2.2.2.2.2; omega)) ?_
        rintro e w15 ⟨rfl, ρ15, S15, L15, h15, m15, n15⟩
        have H15 : Hid _ := h15
        have HM15 : Hid _ := HM14.out.trans (m15.mono (R' := fun r => r = 6) (fun r hr => by omega))
        have HN15 : Hid _ := n15
        replace LZ : Hid _ := LZ.out.mv m15 (by omega)
        replace LY : Hid _ := LY.out.mv m15 (by omega)
        clear H14 HM14 HK14 LX h15 m15 n15
        go_wp2_with fail
        refine Calls.mono (H15.out.put (q := 8) (own_base LZ.out.own HWr.out) HG8.out (by omega) (by omega) LZ.out.ro (by have := HN15.out; have := HH.out.2.2.2.1; have := HH.out.2.2.2.2.2.2; omega)) ?_
        rintro e w16 ⟨rfl, ρ16, S16, L16, h16, m16, n16⟩
        have H16 : Hid _ := h16
        have HM16 : Hid _ := HM15.out.trans (m16.mono (R' := fun r => r = 6) (fun r hr => by omega))
        have hq16 : L16.es.length = L.es.length + 8 := by have := HN15.out; omega
        have HN16 : Hid _ := hq16
        clear hq16
        replace LY : Hid _ := LY.out.mv m16 (by omega)
        clear H15 HM15 HN15 LZ h16 m16 n16
        obtain ⟨⟨ρ17, h17, m17⟩, kc, kf⟩ := H16.out.last LY.out.by' HG8.out LY.out.c1 LY.out.c2 (by omega) LY.out.ro
        have H17 : Hid _ := h17
        have HM17 : Hid _ := HM16.out.trans (m17.mono (R' := fun r => r = 6) (fun r hr => by omega))
        clear h17 m17
        go_wp2_with fail
        go_ret
        exact ⟨by first | rfl | (simp; done), ρ17, ⟨_, _, _, _, _, _, H17.out, (show L16.es.length ≤ N + 8 by have := HN16.out; have := HH.out.2.2.2.1; omega), fun s hs => by have := HH.out.2.2.2.2.1 s hs; omega⟩, HM17.out⟩
end Go.Proofs.Ytekffilokdmfgaa
