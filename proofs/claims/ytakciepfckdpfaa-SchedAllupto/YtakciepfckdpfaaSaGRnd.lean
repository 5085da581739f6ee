/- Sched: a step of the script: two rounds. -/
import Derived.Test.YtakciepfckdpfaaSaGAdd
namespace Go.Proofs.Ytakciepfckdpfaa
open Go.RowKit
set_option linter.unusedVariables false
set_option linter.unusedSimpArgs false
variable {w w' W W0 : World} {ρ : Nat → Nat} {wb : Nat} {P : Pos} {ps : List (Nat × Nat)} {S : List Sd} {F : List (Nat × List Int)} {A : List Value} {G : List (List Int)} {Lv : List Value} {Lm : List Int}
theorem own_ge {base n c g size : Nat} {ty : TypeId} {xs : List Value} (h : w.ownsRow base ty size (.slice (some ⟨g, 0, none⟩) n c) n xs) : base ≤ g := by
  rcases h.2 with ⟨e, _⟩ | ⟨g', cap, cur, e, hb', _⟩
  · cases e
  · injection e with e1
    injection e1 with e1
    injection e1 with e1
    rw [e1]
    exact hb'
theorem Bk.rounds {j : Nat} {p : Nat × Nat} {Sj : Sd} (h : Bk 22 W0 ρ w wb P ps S S F A G Lv Lm) (hL : Lm.length = Lv.length) (hA : A.length = F.length) (hG : G = F.map Prod.snd) (hF : F.length ≤ 100) (hp : ps[j]? = some p) (hS : S[j]? = some Sj) :
    ∃ n : Nat, Calls Try.prog 36 #[.pointer (some ⟨p.2, 0, none⟩)] w fun e w1 => ∃ va vc, e = .returned (.slice va n vc) ∧ Up w w1 ∧
      ∀ w1', w1' = w1 → Calls Try.prog 14 #[.pointer (some ⟨p.1, 0, none⟩)] w1' fun e w2 => ∃ g1, e = .returned (.slice (some ⟨g1, 0, none⟩) n n) ∧ Up w1 w2 ∧
      ∀ w2', w2' = w2 → Calls Try.prog 14 #[.pointer (some ⟨p.1, 0, none⟩)] w2' fun e w3 => ∃ g2, e = .returned (.slice (some ⟨g2, 0, none⟩) n n) ∧
      ∀ w3', w3' = w3 → Calls Try.prog 18 #[.slice (some ⟨g1, 0, none⟩) n n, .slice va n vc] w3' fun e w4 => e = .returned (.bool true) ∧
      ∀ w4', w4' = w4 → Calls Try.prog 18 #[.slice (some ⟨g2, 0, none⟩) n n, .slice va n vc] w4' fun e w5 => e = .returned (.bool true) ∧
      ∀ w5', w5' = w5 → Calls Try.prog 37 #[.pointer (some ⟨wb, 0, none⟩), .slice (some ⟨g1, 0, none⟩) n n] w5' fun e w6 => e = .returned (.tuple #[]) ∧
      ∀ w6', w6' = w6 → Calls Try.prog 37 #[.pointer (some ⟨wb, 0, none⟩), .slice (some ⟨g2, 0, none⟩) n n] w6' fun e w7 => e = .returned (.tuple #[]) ∧ Sp W0 wb (ps.length + 1) (F.length + 2) Lv.length w7 := by
  obtain ⟨ids, hids⟩ : ∃ ids, ids = Sj.rnd.map Mem.id := ⟨_, rfl⟩
  have hil : ids.length = Sj.rnd.length := by rw [hids, List.length_map]
  have hl64 : ids.length ≤ 64 := by rw [hil]; exact (h.pX j p Sj hp hS).len
  have hFlt : ∀ e ∈ F, e.1 < w.heap.size := fun e he => own_lt (h.fI e he).own rfl
  have hAG : A.length = G.length := by rw [hG, List.length_map, hA]
  refine ⟨ids.length, ?_⟩
  obtain ⟨lv, sv, hR⟩ := h.pY j p Sj hp hS
  refine (roundR_any hR).mono fun e w1 ⟨v, q1, q2⟩ => ?_
  rw [← hids] at q2
  obtain ⟨va, vc, rfl, _⟩ := own_slice q2.own
  refine ⟨va, vc, q1, q2.up, fun w1' e1 => ?_⟩
  subst e1
  have b1 := h.upR (r := 22) q2.up (by omega)
  refine (roundX_any (b1.pX j p Sj hp hS)).mono fun e w2 ⟨g1, r1, r2⟩ => ?_
  rw [← hids, ← hil] at r2
  rw [← hil] at r1
  refine ⟨g1, r1, r2.up, fun w2' e2 => ?_⟩
  subst e2
  have b2 := b1.upR (r := 22) r2.up (by omega)
  have x2 : Rw (ext (ext ρ w.heap.size 22) w1'.heap.size 22) 22 w2' 3 1 (fval (g1, ids)) ids.length (nums ids) := Rw.new r2.own (Nat.le_refl _)
  have g1a : w1'.heap.size ≤ g1 := own_ge r2.own
  have g1b : g1 < w2'.heap.size := own_lt x2.own rfl
  refine (roundX_any (b2.pX j p Sj hp hS)).mono fun e w3 ⟨g2, s1, s2⟩ => ?_
  rw [← hids, ← hil] at s2
  rw [← hil] at s1
  refine ⟨g2, s1, fun w3' e3 => ?_⟩
  subst e3
  have b3 := b2.upR (r := 22) s2.up (by omega)
  have x3 := x2.up (r' := 22) s2.up
  have y3 : Rw (ext (ext (ext ρ w.heap.size 22) w1'.heap.size 22) w2'.heap.size 22) 22 w3' 3 1 (fval (g2, ids)) ids.length (nums ids) := Rw.new s2.own (Nat.le_refl _)
  have g2a : w2'.heap.size ≤ g2 := own_ge s2.own
  have n3 : Ln w3' (.slice va ids.length vc) ids := ((Ln.of q2.own).up r2.up).up s2.up
  refine (same_yes (Ln.of (v := fval (g1, ids)) x3.own) n3).mono fun e w4 ⟨t1, t2⟩ => ?_
  refine ⟨t1, fun w4' e4 => ?_⟩
  subst e4
  have b4 := b3.upR (r := 30) t2 (by omega)
  have x4 := x3.up (r' := 30) t2
  have y4 := y3.up (r' := 30) t2
  refine (same_yes (Ln.of (v := fval (g2, ids)) y4.own) (n3.up t2)).mono fun e w5 ⟨t3, t4⟩ => ?_
  refine ⟨t3, fun w5' e5 => ?_⟩
  subst e5
  have b5 := b4.upR (r := 30) t4 (by omega)
  have x5 := x4.up (r' := 30) t4
  have y5 := y4.up (r' := 30) t4
  have us := q2.up.size
  refine (take_any b5 x5 (fun hm => by
    obtain ⟨e, he, h9⟩ := List.mem_map.1 hm
    have := hFlt e he
    omega) hl64 hA hAG (by omega)).mono fun e w6 ⟨o1, ρ6, P6, v6, b6, k6⟩ => ?_
  refine ⟨o1, fun w6' e6 => ?_⟩
  subst e6
  refine (take_any b6 (y5.ke k6) (fun hm => by
    rw [List.map_append, List.mem_append] at hm
    rcases hm with hm | hm
    · obtain ⟨e, he, h9⟩ := List.mem_map.1 hm
      have := hFlt e he
      omega
    · simp at hm
      omega) hl64 (by simp [hA]) (by simp [hAG]) (by simp; omega)).mono fun e w7 ⟨o2, ρ7, P7, v7, b7, k7⟩ => ?_
  exact ⟨o2, ρ7, P7, ps, S, _, _, _, Lv, Lm, b7, hL, by simp [hA], by simp [hG], by omega, by simp, Nat.le_refl _⟩
set_option maxRecDepth 100000 in
set_option maxHeartbeats 4000000 in
theorem stepRnd {pp nn : Int} {rr : Bool} (h : Bk 22 W0 ρ W wb P ps S S F A G Lv Lm) (hL : Lm.length = Lv.length) (hA : A.length = F.length) (hG : G = F.map Prod.snd) (hF : F.length ≤ 100) (hps : ps.length ≤ 1099511627776) (hn0 : ps ≠ []) (hpp : I64 pp) (hnn : I64 nn) :
    Calls Try.prog 20 #[.pointer (some ⟨wb, 0, none⟩), .agg #[.int .i64 7, .int .i64 pp, .int .i64 nn, .bool rr]] W fun e w' => e = .returned (.bool true) ∧ Sp W0 wb (ps.length + 1) (F.length + 2) Lv.length w' := by
  obtain ⟨la, lc, hlv, l1, l2⟩ := own_slice h.lR.own
  obtain ⟨np, hnp⟩ : ∃ np, np = ps.length := ⟨_, rfl⟩
  have hn1 : 0 < np := by rw [hnp]; exact List.length_pos_iff.2 hn0
  obtain ⟨j, hj, hPk⟩ := pick_natL pp np hpp hn1 (by omega)
  obtain ⟨⟨p1, p2⟩, hp⟩ : ∃ p, ps[j]? = some p := ⟨_, List.getElem?_eq_getElem (by omega)⟩
  obtain ⟨Sj, hS⟩ : ∃ Sj, S[j]? = some Sj := ⟨_, List.getElem?_eq_getElem (by rw [h.xl]; omega)⟩
  obtain ⟨gl, hgl, hrg⟩ : ∃ gl, la = some ⟨gl, 0, none⟩ ∧ W.rangeAt gl (j * 2) [.pointer (some ⟨p1, 0, none⟩), .pointer (some ⟨p2, 0, none⟩)] := by
    rcases own_cases h.lR.own with ⟨_, hn, _⟩ | ⟨gl, cap, hv2, _⟩
    · omega
    · have ho := h.lR.own
      rw [hv2] at ho hlv
      injection hlv with e1
      have hpt := ptrs_at ps j _ hp
      have q1 := own_cell ho (j * 2) (by omega)
      have q2 := own_cell ho (j * 2 + 1) (by omega)
      rw [Nat.zero_add] at q1 q2
      exact ⟨gl, e1.symm, range2 (by rw [q1]; exact hpt.1) (by rw [q2]; exact hpt.2)⟩
  subst hgl
  have HPk : Hid (∀ w, Calls Try.prog 9 #[.int .i64 pp, .int .i64 (np : Int)] w fun e w' => e = .returned (.int .i64 (j : Int)) ∧ w' = w) := hPk
  have HLV : Hid (∀ w, Up W w → w.cell? ⟨wb, 0, none⟩ = some (.slice (some ⟨gl, 0, none⟩) np lc) ∧ w.rangeAt gl (j * 2) [.pointer (some ⟨p1, 0, none⟩), .pointer (some ⟨p2, 0, none⟩)]) := fun w u => ⟨cell_up u (by rw [hnp, ← hlv]; exact heap_cell h.blk rfl), fun k v hv => cell_up u (hrg k v hv)⟩
  have b0 : ((np : Int) == 0) = false := beq_eq_false_iff_ne.2 (by omega)
  have d0 : (j : Int) < (np : Int) := by omega
  rw [← hnp] at l1
  have hSl : (Sj.rnd.map Mem.id).length = (Sj.rnd.map Mem.id).length := rfl
  have HB4 : Hid (∀ w4, Up W w4 → ∃ ρ4, Bk 22 W0 ρ4 w4 wb P ps S S F A G Lv Lm) := fun w4 u => ⟨_, h.upR (r := 30) u (by omega)⟩
  have HRs : Hid (∀ ρ4 w4, Bk 22 W0 ρ4 w4 wb P ps S S F A G Lv Lm → _) := fun ρ4 w4 b4 => b4.rounds hL hA hG hF hp hS
  have HWb : Hid (wb < W.heap.size) := h.wlt
  clear h hlv hp hS hrg hPk hnp hn0 hA hG hL hpp hnn hF hps hSl
  go_enter Try.func20, Try.ntmps20
  have hWbl : wb < W.heap.size := HWb.out
  have hWb2 : ¬ wb = W.heap.size := by omega
  have kw0 := (HLV.out W (Up.refl W)).1
  go_wp2_with fail
  have u1 : Up W (W.alloc (Obj.cells #[.int .i64 7, .int .i64 pp, .int .i64 nn, .bool rr] 54)) := (Up.refl W).alloc _
  have k1 : (W.alloc (Obj.cells #[.int .i64 7, .int .i64 pp, .int .i64 nn, .bool rr] 54)).heap[W.heap.size]? = some (.cells #[.int .i64 7, .int .i64 pp, .int .i64 nn, .bool rr] 54 (0, 0)) := heap_alloc_new W _
  have hob9 : W.heap.size < (W.alloc (Obj.cells #[.int .i64 7, .int .i64 pp, .int .i64 nn, .bool rr] 54)).heap.size := by simp
  clear kw0 hWb2 hWbl
  obtain ⟨ob, hob⟩ : ∃ ob, ob = W.heap.size := ⟨_, rfl⟩
  rw [← hob] at k1 hob9 ⊢
  generalize World.alloc W _ = W1 at u1 k1 hob9 ⊢
  have hob2 : W.heap.size ≤ ob := by omega
  clear hob
  have HO1 : Hid (∀ w, Up W1 w → w.cell? ⟨ob, 0, none⟩ = some (.int .i64 7) ∧ w.cell? ⟨ob, 1, none⟩ = some (.int .i64 pp) ∧ w.cell? ⟨ob, 2, none⟩ = some (.int .i64 nn) ∧ w.cell? ⟨ob, 3, none⟩ = some (.bool rr)) := fun w u => ⟨cell_up u (heap_cell k1 rfl), cell_up u (heap_cell k1 rfl), cell_up u (heap_cell k1 rfl), cell_up u (heap_cell k1 rfl)⟩
  have HSs : Hid (∀ w, Up W1 w → w.cell? ⟨wb, 0, none⟩ = some (.slice (some ⟨gl, 0, none⟩) np lc) ∧ w.cell? ⟨ob, 1, none⟩ = some (.int .i64 pp) ∧ w.rangeAt gl (j * 2) [.pointer (some ⟨p1, 0, none⟩), .pointer (some ⟨p2, 0, none⟩)]) := fun w u => ⟨(HLV.out w (u1.trans u)).1, (HO1.out w u).2.1, (HLV.out w (u1.trans u)).2⟩
  have HU1 : Hid (Up W W1 ∧ W.heap.size ≤ ob ∧ ob < W1.heap.size) := ⟨u1, hob2, hob9⟩
  clear u1 k1 hob9 hob2
  have hjn : j < np := hj
  refine wp_region_held_drew (S := fun w => w.cell? ⟨wb, 0, none⟩ = some (.slice (some ⟨gl, 0, none⟩) np lc) ∧ w.cell? ⟨ob, 1, none⟩ = some (.int .i64 pp) ∧ w.rangeAt gl (j * 2) [.pointer (some ⟨p1, 0, none⟩), .pointer (some ⟨p2, 0, none⟩)]) (by kernel_rfl) (HSs.out _ (Up.refl W1).drew) (fun hHeld => ?_)
  have ud : Up W1 W1.drew := (Up.refl W1).drew
  generalize World.drew W1 = wd at ud hHeld ⊢
  refine wpAnyH_take (i := 0) (v := ?_) (by simp only [List.getElem?_toArray, List.getElem?_cons_zero]; rfl) (by kernel_rfl) (by kernel_rfl) (by kernel_rfl) (by intro _ _ _ h; exact h) (Or.inl ⟨by rfl, ?_⟩) (by assumption) ?_
  rotate_left
  · (intro w hSw; (try dsimp only at hSw); go_simp <;> with_reducible rfl)
  try simp only [Act.put, List.setIfInBounds_toArray, List.set_cons_zero, List.set_cons_succ]
  refine wpAnyH_take (i := 1) (v := ?_) (by simp only [List.getElem?_toArray, List.getElem?_cons_succ, List.getElem?_cons_zero]; rfl) (by kernel_rfl) (by kernel_rfl) (by kernel_rfl) (by intro _ _ _ h; exact h) (Or.inl ⟨by rfl, ?_⟩) (by assumption) ?_
  rotate_left
  · (intro w hSw; (try dsimp only at hSw); go_simp <;> with_reducible rfl)
  try simp only [Act.put, List.setIfInBounds_toArray, List.set_cons_zero, List.set_cons_succ]
  refine wpAnyH_take (i := 2) (v := ?_) (by simp only [List.getElem?_toArray, List.getElem?_cons_succ, List.getElem?_cons_zero]; rfl) (by kernel_rfl) (by kernel_rfl) (by kernel_rfl) (by intro _ _ _ h; exact h) (Or.inl ⟨by rfl, ?_⟩) (by assumption) ?_
  rotate_left
  · (intro w hSw; (try dsimp only at hSw); go_simp <;> with_reducible rfl)
  try simp only [Act.put, List.setIfInBounds_toArray, List.set_cons_zero, List.set_cons_succ]
  refine wpAnyH_take (i := 3) (v := ?_) (by simp only [List.getElem?_toArray, List.getElem?_cons_succ, List.getElem?_cons_zero]; rfl) (by kernel_rfl) (by kernel_rfl) (by kernel_rfl) (by intro _ _ _ h; exact h) (Or.inl ⟨by rfl, ?_⟩) (by assumption) ?_
  rotate_left
  · (intro w hSw; (try dsimp only at hSw); go_simp <;> with_reducible rfl)
  try simp only [Act.put, List.setIfInBounds_toArray, List.set_cons_zero, List.set_cons_succ]
  refine wpAnyH_take (i := 4) (v := ?_) (by simp only [List.getElem?_toArray, List.getElem?_cons_succ, List.getElem?_cons_zero]; rfl) (by kernel_rfl) (by kernel_rfl) (by kernel_rfl) (by intro _ _ _ h; exact h) (Or.inl ⟨by rfl, ?_⟩) (by assumption) ?_
  rotate_left
  · (intro w hSw; (try dsimp only at hSw); go_simp <;> with_reducible rfl)
  try simp only [Act.put, List.setIfInBounds_toArray, List.set_cons_zero, List.set_cons_succ]
  refine wpAnyH_take (i := 5) (v := ?_) (by simp only [List.getElem?_toArray, List.getElem?_cons_succ, List.getElem?_cons_zero]; rfl) (by kernel_rfl) (by kernel_rfl) (by kernel_rfl) (by intro _ _ _ h; exact h) (Or.inl ⟨by rfl, ?_⟩) (by assumption) ?_
  rotate_left
  · (intro w hSw; (try dsimp only at hSw); go_simp <;> with_reducible rfl)
  try simp only [Act.put, List.setIfInBounds_toArray, List.set_cons_zero, List.set_cons_succ]
  refine wpAnyH_take (i := 6) (v := ?_) (by simp only [List.getElem?_toArray, List.getElem?_cons_succ, List.getElem?_cons_zero]; rfl) (by kernel_rfl) (by kernel_rfl) (by kernel_rfl) (by intro _ _ _ h; exact h) (Or.inl ⟨by rfl, ?_⟩) (by assumption) ?_
  rotate_left
  · (intro w hSw; (try dsimp only at hSw); go_simp <;> with_reducible rfl)
  try simp only [Act.put, List.setIfInBounds_toArray, List.set_cons_zero, List.set_cons_succ]
  refine wpAnyH_take (i := 7) (v := ?_) (by simp only [List.getElem?_toArray, List.getElem?_cons_succ, List.getElem?_cons_zero]; rfl) (by kernel_rfl) (by kernel_rfl) (by kernel_rfl) (by intro _ _ _ h; exact h) (Or.inl ⟨by rfl, ?_⟩) (by assumption) ?_
  rotate_left
  · (intro w hSw; (try dsimp only at hSw); go_simp <;> with_reducible rfl)
  try simp only [Act.put, List.setIfInBounds_toArray, List.set_cons_zero, List.set_cons_succ]
  refine wpAnyH_take (i := 8) (v := ?_) (by simp only [List.getElem?_toArray, List.getElem?_cons_succ, List.getElem?_cons_zero]; rfl) (by kernel_rfl) (by kernel_rfl) (by kernel_rfl) (by intro _ _ _ h; exact h) (Or.inl ⟨by rfl, ?_⟩) (by assumption) ?_
  rotate_left
  · (intro w hSw; (try dsimp only at hSw); go_simp <;> with_reducible rfl)
  try simp only [Act.put, List.setIfInBounds_toArray, List.set_cons_zero, List.set_cons_succ]
  refine wpAnyH_take (i := 9) (v := ?_) (by simp only [List.getElem?_toArray, List.getElem?_cons_succ, List.getElem?_cons_zero]; rfl) (by kernel_rfl) (by kernel_rfl) (by kernel_rfl) (by intro _ _ _ h; exact h) (Or.inl ⟨by rfl, ?_⟩) (by assumption) ?_
  rotate_left
  · (intro w hSw; (try dsimp only at hSw); go_simp <;> with_reducible rfl)
  try simp only [Act.put, List.setIfInBounds_toArray, List.set_cons_zero, List.set_cons_succ]
  refine wpAnyH_take (i := 10) (v := ?_) (by simp only [List.getElem?_toArray, List.getElem?_cons_succ, List.getElem?_cons_zero]; rfl) (by kernel_rfl) (by kernel_rfl) (by kernel_rfl) (by intro _ _ _ h; exact h) (Or.inl ⟨by rfl, ?_⟩) (by assumption) ?_
  rotate_left
  · (intro w hSw; (try dsimp only at hSw); go_simp <;> with_reducible rfl)
  try simp only [Act.put, List.setIfInBounds_toArray, List.set_cons_zero, List.set_cons_succ]
  refine wpAnyH_ready (rs := [11, 14]) (by kernel_rfl) (by simp) ?_
  refine AllReadyH.cons (by simp only [List.getElem?_toArray, List.getElem?_cons_succ, List.getElem?_cons_zero]; rfl) (fun KK hK => ?_) (AllReadyH.cons (by simp only [List.getElem?_toArray, List.getElem?_cons_succ, List.getElem?_cons_zero]; rfl) (fun KK hK => ?_) AllReadyH.nil)
  · skip
    go_simp
    refine (HPk.out _).mono ?_
    rintro e w' ⟨rfl, hw⟩
    obtain rfl := hw.symm
    clear hw
    refine hK.out _ _ (HSs.out _ ud) (fun hHeld => ?_)
    clear hK KK
    try simp only [Act.put, List.setIfInBounds_toArray, List.set_cons_zero, List.set_cons_succ]
    refine wpAnyH_take (i := 12) (v := ?_) (by simp only [List.getElem?_toArray, List.getElem?_cons_succ, List.getElem?_cons_zero]; rfl) (by kernel_rfl) (by kernel_rfl) (by kernel_rfl) (by intro _ _ _ h; exact h) (Or.inl ⟨by rfl, ?_⟩) (by assumption) ?_
    rotate_left
    · (intro w hSw; (try dsimp only at hSw); go_simp <;> with_reducible rfl)
    try simp only [Act.put, List.setIfInBounds_toArray, List.set_cons_zero, List.set_cons_succ]
    refine wpAnyH_take (i := 13) (v := .agg [.pointer (some ⟨p1, 0, none⟩), .pointer (some ⟨p2, 0, none⟩)].toArray) (by simp only [List.getElem?_toArray, List.getElem?_cons_succ, List.getElem?_cons_zero]; rfl) (by kernel_rfl) (by kernel_rfl) (by kernel_rfl) (by intro _ _ _ h; exact h) (yieldsIf_load_mid (by rfl) 77 _ rfl gl (j * 2) rfl [.pointer (some ⟨p1, 0, none⟩), .pointer (some ⟨p2, 0, none⟩)] _ (fun w hw => hw.2.2) Try.underlying77 rfl (by kernel_rfl)) (by assumption) ?_
    simp only [Act.put, List.setIfInBounds_toArray, List.set_cons_zero, List.set_cons_succ]
    refine wpAnyH_ready (rs := [14]) (by kernel_rfl) (by simp) ?_
    refine AllReadyH.cons (by simp only [List.getElem?_toArray, List.getElem?_cons_succ, List.getElem?_cons_zero]; rfl) (fun KK hK => ?_) AllReadyH.nil
    go_simp
    have ub : Up W1 (wd.alloc (Obj.cells #[.pointer none, .pointer none] 77)) := ud.alloc _
    have kb9 : (wd.alloc (Obj.cells #[.pointer none, .pointer none] 77)).heap[wd.heap.size]? = some (.cells #[.pointer none, .pointer none] 77 (0, 0)) := heap_alloc_new wd _
    refine hK.out _ _ (HSs.out _ ub) (fun hHeld => ?_)
    clear hK KK
    try simp only [Act.put, List.setIfInBounds_toArray, List.set_cons_zero, List.set_cons_succ]
    have HNB9 : W1.heap.size ≤ wd.heap.size := ud.size
    refine wpAnyH_ready (rs := [15]) (by kernel_rfl) (by simp) ?_
    refine AllReadyH.cons (by simp only [List.getElem?_toArray, List.getElem?_cons_succ, List.getElem?_cons_zero]; rfl) (fun KK hK => ?_) AllReadyH.nil
    rw [if_pos (by rfl)]
    refine wp_store_mid 77 _ _ rfl (wd.heap.size) 0 #[.pointer (some ⟨p1, 0, none⟩), .pointer (some ⟨p2, 0, none⟩)] rfl rfl (there2 kb9) (by kernel_rfl) (by simp [Value.oneCell']) ?_
    have uz : Up W1 ((wd.alloc (Obj.cells #[.pointer none, .pointer none] 77)).setCells (wd.heap.size) 0 [.pointer (some ⟨p1, 0, none⟩), .pointer (some ⟨p2, 0, none⟩)]) := Fr.up (ub) HNB9 (fr_setCells _ _ 0 _)
    have kz : ((wd.alloc (Obj.cells #[.pointer none, .pointer none] 77)).setCells (wd.heap.size) 0 [.pointer (some ⟨p1, 0, none⟩), .pointer (some ⟨p2, 0, none⟩)]).heap[wd.heap.size]? = some (.cells #[.pointer (some ⟨p1, 0, none⟩), .pointer (some ⟨p2, 0, none⟩)] 77 (0, 0)) := heap_setCells_same _ _ _ 0 _ (wd.alloc (Obj.cells #[.pointer none, .pointer none] 77)) kb9
    refine hK.out _ _ (HSs.out _ uz) (fun hHeld => ?_)
    clear hK KK
    try simp only [Act.put, List.setIfInBounds_toArray, List.set_cons_zero, List.set_cons_succ]
    refine wpAnyH_done (by kernel_rfl) ?_ _
    obtain ⟨pb, hpb⟩ : ∃ pb, pb = wd.heap.size := ⟨_, rfl⟩
    rw [← hpb] at kz uz HNB9 ⊢
    clear hHeld hpb
    generalize World.setCells _ pb 0 _ = w4 at uz kz ⊢
    obtain ⟨ρ4, hb4⟩ := HB4.out w4 (HU1.out.1.trans uz)
    obtain ⟨n, hrs⟩ := HRs.out ρ4 w4 hb4
    have HTw : Hid _ := hrs
    clear hrs hb4 HRs HB4
    obtain ⟨ko0, ko1, ko2, ko3⟩ := HO1.out w4 uz
    have kp0 := heap_cell kz (o := 0) (v := .pointer (some ⟨p1, 0, none⟩)) rfl
    have kp1 := heap_cell kz (o := 1) (v := .pointer (some ⟨p2, 0, none⟩)) rfl
    clear uz kz HNB9 ko1 ko2 ko3
    go_wp2_with fail
    refine Calls.mono HTw.out ?_
    rintro e w5 ⟨va, vc, rfl, u5, h5⟩
    have kq0 := cell_up u5 kp0
    have H5 : Hid _ := h5 w5 rfl
    clear h5 u5 HTw kp0 kp1 ko0
    go_wp2_with fail
    refine Calls.mono H5.out ?_
    rintro e w6 ⟨g1, rfl, u6, h6⟩
    have kr0 := cell_up u6 kq0
    have H6 : Hid _ := h6 w6 rfl
    clear h6 u6 H5 kq0
    go_wp2_with fail
    refine Calls.mono H6.out ?_
    rintro e w7 ⟨g2, rfl, h7⟩
    have H7 : Hid _ := h7 w7 rfl
    clear h7 H6 kr0
    go_wp2_with fail
    refine Calls.mono H7.out ?_
    rintro e w8 ⟨rfl, h8⟩
    have H8 : Hid _ := h8 w8 rfl
    clear h8 H7
    go_wp2_with fail
    refine Calls.mono H8.out ?_
    rintro e w9 ⟨rfl, h9⟩
    have H9 : Hid _ := h9 w9 rfl
    clear h9 H8
    go_wp2_with fail
    refine Calls.mono H9.out ?_
    rintro e w10 ⟨rfl, h10⟩
    have H10 : Hid _ := h10 w10 rfl
    clear h10 H9
    go_wp2_with fail
    refine Calls.mono H10.out ?_
    rintro e w11 ⟨rfl, h11⟩
    have H11 : Hid _ := h11
    clear h11 H10
    go_wp2_with fail
    go_ret
    exact ⟨by first | rfl | (simp; done), H11.out⟩
  · skip
    go_simp
    have ub : Up W1 (wd.alloc (Obj.cells #[.pointer none, .pointer none] 77)) := ud.alloc _
    have kb9 : (wd.alloc (Obj.cells #[.pointer none, .pointer none] 77)).heap[wd.heap.size]? = some (.cells #[.pointer none, .pointer none] 77 (0, 0)) := heap_alloc_new wd _
    refine hK.out _ _ (HSs.out _ ub) (fun hHeld => ?_)
    clear hK KK
    try simp only [Act.put, List.setIfInBounds_toArray, List.set_cons_zero, List.set_cons_succ]
    have HNB9 : W1.heap.size ≤ wd.heap.size := ud.size
    refine wpAnyH_ready (rs := [11]) (by kernel_rfl) (by simp) ?_
    refine AllReadyH.cons (by simp only [List.getElem?_toArray, List.getElem?_cons_succ, List.getElem?_cons_zero]; rfl) (fun KK hK => ?_) AllReadyH.nil
    go_simp
    refine (HPk.out _).mono ?_
    rintro e w' ⟨rfl, hw⟩
    obtain rfl := hw.symm
    clear hw
    refine hK.out _ _ (HSs.out _ ub) (fun hHeld => ?_)
    clear hK KK
    try simp only [Act.put, List.setIfInBounds_toArray, List.set_cons_zero, List.set_cons_succ]
    refine wpAnyH_take (i := 12) (v := ?_) (by simp only [List.getElem?_toArray, List.getElem?_cons_succ, List.getElem?_cons_zero]; rfl) (by kernel_rfl) (by kernel_rfl) (by kernel_rfl) (by intro _ _ _ h; exact h) (Or.inl ⟨by rfl, ?_⟩) (by assumption) ?_
    rotate_left
    · (intro w hSw; (try dsimp only at hSw); go_simp <;> with_reducible rfl)
    try simp only [Act.put, List.setIfInBounds_toArray, List.set_cons_zero, List.set_cons_succ]
    refine wpAnyH_take (i := 13) (v := .agg [.pointer (some ⟨p1, 0, none⟩), .pointer (some ⟨p2, 0, none⟩)].toArray) (by simp only [List.getElem?_toArray, List.getElem?_cons_succ, List.getElem?_cons_zero]; rfl) (by kernel_rfl) (by kernel_rfl) (by kernel_rfl) (by intro _ _ _ h; exact h) (yieldsIf_load_mid (by rfl) 77 _ rfl gl (j * 2) rfl [.pointer (some ⟨p1, 0, none⟩), .pointer (some ⟨p2, 0, none⟩)] _ (fun w hw => hw.2.2) Try.underlying77 rfl (by kernel_rfl)) (by assumption) ?_
    simp only [Act.put, List.setIfInBounds_toArray, List.set_cons_zero, List.set_cons_succ]
    refine wpAnyH_ready (rs := [15]) (by kernel_rfl) (by simp) ?_
    refine AllReadyH.cons (by simp only [List.getElem?_toArray, List.getElem?_cons_succ, List.getElem?_cons_zero]; rfl) (fun KK hK => ?_) AllReadyH.nil
    rw [if_pos (by rfl)]
    refine wp_store_mid 77 _ _ rfl (wd.heap.size) 0 #[.pointer (some ⟨p1, 0, none⟩), .pointer (some ⟨p2, 0, none⟩)] rfl rfl (there2 kb9) (by kernel_rfl) (by simp [Value.oneCell']) ?_
    have uz : Up W1 ((wd.alloc (Obj.cells #[.pointer none, .pointer none] 77)).setCells (wd.heap.size) 0 [.pointer (some ⟨p1, 0, none⟩), .pointer (some ⟨p2, 0, none⟩)]) := Fr.up (ub) HNB9 (fr_setCells _ _ 0 _)
    have kz : ((wd.alloc (Obj.cells #[.pointer none, .pointer none] 77)).setCells (wd.heap.size) 0 [.pointer (some ⟨p1, 0, none⟩), .pointer (some ⟨p2, 0, none⟩)]).heap[wd.heap.size]? = some (.cells #[.pointer (some ⟨p1, 0, none⟩), .pointer (some ⟨p2, 0, none⟩)] 77 (0, 0)) := heap_setCells_same _ _ _ 0 _ (wd.alloc (Obj.cells #[.pointer none, .pointer none] 77)) kb9
    refine hK.out _ _ (HSs.out _ uz) (fun hHeld => ?_)
    clear hK KK
    try simp only [Act.put, List.setIfInBounds_toArray, List.set_cons_zero, List.set_cons_succ]
    refine wpAnyH_done (by kernel_rfl) ?_ _
    obtain ⟨pb, hpb⟩ : ∃ pb, pb = wd.heap.size := ⟨_, rfl⟩
    rw [← hpb] at kz uz HNB9 ⊢
    clear hHeld hpb
    generalize World.setCells _ pb 0 _ = w4 at uz kz ⊢
    obtain ⟨ρ4, hb4⟩ := HB4.out w4 (HU1.out.1.trans uz)
    obtain ⟨n, hrs⟩ := HRs.out ρ4 w4 hb4
    have HTw : Hid _ := hrs
    clear hrs hb4 HRs HB4
    obtain ⟨ko0, ko1, ko2, ko3⟩ := HO1.out w4 uz
    have kp0 := heap_cell kz (o := 0) (v := .pointer (some ⟨p1, 0, none⟩)) rfl
    have kp1 := heap_cell kz (o := 1) (v := .pointer (some ⟨p2, 0, none⟩)) rfl
    clear uz kz HNB9 ko1 ko2 ko3
    go_wp2_with fail
    refine Calls.mono HTw.out ?_
    rintro e w5 ⟨va, vc, rfl, u5, h5⟩
    have kq0 := cell_up u5 kp0
    have H5 : Hid _ := h5 w5 rfl
    clear h5 u5 HTw kp0 kp1 ko0
    go_wp2_with fail
    refine Calls.mono H5.out ?_
    rintro e w6 ⟨g1, rfl, u6, h6⟩
    have kr0 := cell_up u6 kq0
    have H6 : Hid _ := h6 w6 rfl
    clear h6 u6 H5 kq0
    go_wp2_with fail
    refine Calls.mono H6.out ?_
    rintro e w7 ⟨g2, rfl, h7⟩
    have H7 : Hid _ := h7 w7 rfl
    clear h7 H6 kr0
    go_wp2_with fail
    refine Calls.mono H7.out ?_
    rintro e w8 ⟨rfl, h8⟩
    have H8 : Hid _ := h8 w8 rfl
    clear h8 H7
    go_wp2_with fail
    refine Calls.mono H8.out ?_
    rintro e w9 ⟨rfl, h9⟩
    have H9 : Hid _ := h9 w9 rfl
    clear h9 H8
    go_wp2_with fail
    refine Calls.mono H9.out ?_
    rintro e w10 ⟨rfl, h10⟩
    have H10 : Hid _ := h10 w10 rfl
    clear h10 H9
    go_wp2_with fail
    refine Calls.mono H10.out ?_
    rintro e w11 ⟨rfl, h11⟩
    have H11 : Hid _ := h11
    clear h11 H10
    go_wp2_with fail
    go_ret
    exact ⟨by first | rfl | (simp; done), H11.out⟩
end Go.Proofs.Ytakciepfckdpfaa
