/- Sched: the document's own answer: Add, Remove, Ready, End. -/
import Derived.Test.YtakciepfckdpfaaScV
namespace Go.Proofs.Ytakciepfckdpfaa
open Go.RowKit
set_option linter.unusedVariables false
set_option linter.unusedSimpArgs false
variable {w w' W : World} {K K' : Nat → Prop} {yb : Nat} {lv lv' sv sv' : Value} {S S' : Sd}
theorem RfR.refl (h : RfR K w yb lv sv S) : RfAt K w yb S ∧ FK K w w := h.refl_up (Up.refl w)
set_option maxRecDepth 100000 in
set_option maxHeartbeats 1000000 in
theorem addR_any (h : RfAt K W yb S) {id : Int} (hid : I64 id) :
    Calls Try.prog 31 #[.pointer (some ⟨yb, 0, none⟩), .int .i64 id] W fun e w' => e = .returned (.int .i64 (S.addE id)) ∧ RfAt K w' yb (S.add id) ∧ FK K W w' := by
  obtain ⟨lv, sv, h⟩ := h
  have HR : Hid (RfAt K W yb S ∧ FK K W W) := h.refl
  by_cases h0 : id < 0
  · have e1 : S.addE id = 1 := if_pos h0
    have e2 : S.add id = S := if_neg (by rw [e1]; decide)
    rw [e1, e2]
    clear h e1 e2
    go_enter Try.func31, Try.ntmps31
    go_wp2_with fail
    go_ret
    exact ⟨by first | rfl | (simp; done), HR.out⟩
  · skip
    have HF : Hid (∀ w, w = W → Calls Try.prog 42 #[.pointer (some ⟨yb, 0, none⟩), .int .i64 id] w fun e w' => e = .returned (.int .i64 (idxI (S.at id) S.rnd.length)) ∧ w' = w) := fun w e => by subst e; exact find_any h
    by_cases hat : S.at id < S.rnd.length
    · have e1 : S.addE id = 132 := by unfold Sd.addE; rw [if_neg h0, if_pos hat]
      have e2 : S.add id = S := if_neg (by rw [e1]; decide)
      rw [e1, e2]
      rw [idxI_lt hat] at HF
      have d1 : (0 : Int) ≤ (S.at id : Int) := by omega
      generalize S.at id = k at *
      clear h e1 e2 hat
      go_enter Try.func31, Try.ntmps31
      go_wp2_with fail
      refine (HF.out _ rfl).mono ?_
      rintro e w1 ⟨rfl, hw⟩
      obtain rfl := hw.symm
      clear hw
      go_wp2_with fail
      go_ret
      exact ⟨by first | rfl | (simp; done), HR.out⟩
    · rw [idxI_no hat] at HF
      obtain ⟨ra, rc, hrv, c1, c2⟩ := own_slice h.row
      have k0 := h.k0
      have kz := h.fz 0
      by_cases hfull : 64 ≤ S.rnd.length
      · have e1 : S.addE id = 133 := by unfold Sd.addE; rw [if_neg h0, if_neg hat, if_pos hfull]
        have e2 : S.add id = S := if_neg (by rw [e1]; decide)
        rw [e1, e2]
        clear h e1 e2 hat
        subst hrv
        have d1 : (64 : Int) ≤ (S.rnd.length : Int) := by omega
        generalize S.rnd.length = n at *
        go_enter Try.func31, Try.ntmps31
        go_wp2_with fail
        refine (HF.out _ rfl).mono ?_
        rintro e w1 ⟨rfl, hw⟩
        obtain rfl := hw.symm
        clear hw
        go_wp2_with fail
        go_ret
        exact ⟨by first | rfl | (simp; done), HR.out⟩
      · have e1 : S.addE id = 0 := by unfold Sd.addE; rw [if_neg h0, if_neg hat, if_neg hfull]
        have e2 : S.add id = { S with rnd := S.rnd ++ [⟨id, false⟩] } := if_pos e1
        rw [e1, e2]
        clear e1 e2 hat HR
        have HO : Hid (∀ w, Up W w → w.ownsRow 0 85 2 lv S.rnd.length (memCells S.rnd)) := fun w u => (h.up u).row
        have HE : Hid (∀ w1 w2 v', Up W w1 → w1.grownBy w2 lv.ownBlock → w2.ownsRow 0 85 2 v' (S.rnd.length + 1) (memCells S.rnd ++ [.int .i64 id, .bool false]) → (v'.ownBlock = lv.ownBlock ∨ v'.ownBlock = some w1.heap.size) → (RfAt K (w2.setCell ⟨yb, 0, none⟩ v') yb { S with rnd := S.rnd ++ [⟨id, false⟩] } ∧ FK K W (w2.setCell ⟨yb, 0, none⟩ v')) ∧ w2.cell? ⟨yb, 0, none⟩ = some lv ∧ w2.frozen? ⟨yb, 0, none⟩ = false) := fun w1 w2 v' u gr own at' => by
          have l1 := heap_at h.blk
          have hS2 := (gr.block yb (Nat.lt_of_lt_of_le l1 u.size) (fun e => h.a1 e.symm)).trans ((u.block yb l1).trans h.blk)
          have := h.newRow (w := w2) (lv' := v') (l := S.rnd ++ [⟨id, false⟩]) (gr.os.trans u.os) (gr.output.trans u.output) (Nat.le_trans u.size gr.size) (fun b hb hn => (gr.block b (Nat.lt_of_lt_of_le hb u.size) (fun e => hn e.symm)).trans (u.block b hb)) (fun b e => by
            rcases at' with e1 | e1
            · exact Or.inl (e1 ▸ e)
            · rw [e1] at e
              injection e with e
              have := u.size
              exact Or.inr (by omega)) (by rw [List.length_append, memCells_app]; exact own) (by rw [List.length_append]; simp; omega) (fun m hm => by
            rcases List.mem_append.1 hm with hm | hm
            · exact h.gd.rnd m hm
            · simp at hm
              rw [hm]
              show 0 ≤ id
              omega)
          exact ⟨⟨⟨_, _, this.1⟩, this.2⟩, heap_cell hS2 rfl, heap_fz hS2⟩
        have hie : Try.prog.info? 85 = some Try.t85 := by kernel_rfl
        have d1 : ¬ (64 : Int) ≤ (S.rnd.length : Int) := by omega
        have hn64 : S.rnd.length ≤ 64 := by omega
        clear h hfull
        subst hrv
        generalize S.rnd.length = n at *
        go_enter Try.func31, Try.ntmps31
        go_wp2_with fail
        refine (HF.out _ rfl).mono ?_
        rintro e w1 ⟨rfl, hw⟩
        obtain rfl := hw.symm
        clear hw
        go_wp2_with (at_builtin; refine wpList_append_own_at2 _ rfl _ _ 80 80 rfl 0 85 Try.t85 (.agg #[.int .i64 0, .bool false]) 2 16 Try.underlying80 Try.underlying80 hie rfl rfl rfl rfl (by decide) _ _ _ rfl (HO.out _ ((Up.refl W).alloc _)) ⟨W.heap.size, 0, none⟩ 1 1 [.int .i64 id, .bool false] rfl rfl (by intro j u hu; rw [Addr.add_lit, Nat.zero_add, cell_of_row _ _ _ _ _ _ (heap_alloc_new W _)]; simpa using hu) (by intro u hu; simp at hu; rcases hu with rfl | rfl <;> rfl) (by unfold maxLen; omega) (by omega) (Nat.zero_le _) ?_; intro v' w3 ho hg hat; have H3 : Hid _ := HE.out _ w3 v' ((Up.refl W).alloc _) hg ho hat; obtain ⟨va', vn', vc', rfl⟩ := own_slice3 ho; clear ho hg hat; have k3 := H3.out.2.1; have z3 := H3.out.2.2)
        go_ret
        exact ⟨by first | rfl | (simp; done), H3.out.1⟩
theorem Gd.erase {l : List Mem} {k : Nat} (h : ∀ m ∈ l, 0 ≤ m.id) : ∀ m ∈ l.eraseIdx k, 0 ≤ m.id := fun m hm => h m (List.mem_of_mem_eraseIdx hm)
set_option maxRecDepth 100000 in
set_option maxHeartbeats 1000000 in
theorem removeR_any (h : RfAt K W yb S) {id : Int} :
    Calls Try.prog 32 #[.pointer (some ⟨yb, 0, none⟩), .int .i64 id] W fun e w' => e = .returned (.int .i64 (S.remE id)) ∧ RfAt K w' yb (S.rem id) ∧ FK K W w' := by
  obtain ⟨lv, sv, h⟩ := h
  have HR : Hid (RfAt K W yb S ∧ FK K W W) := h.refl
  have HF : Hid (∀ w, w = W → Calls Try.prog 42 #[.pointer (some ⟨yb, 0, none⟩), .int .i64 id] w fun e w' => e = .returned (.int .i64 (idxI (S.at id) S.rnd.length)) ∧ w' = w) := fun w e => by subst e; exact find_any h
  by_cases hat : S.at id < S.rnd.length
  · have e1 : S.remE id = 0 := if_pos hat
    have e2 : S.rem id = { S with rnd := S.rnd.eraseIdx (S.at id) } := if_pos e1
    rw [e1, e2]
    rw [idxI_lt hat] at HF
    have HD : Hid (∀ w, w = W → Calls Try.prog 43 #[.pointer (some ⟨yb, 0, none⟩), .int .i64 (S.at id : Int)] w fun e w' => ∃ va vn vc, e = .returned (.slice va vn vc) ∧ (w'.cell? ⟨yb, 0, none⟩ = some lv ∧ w'.frozen? ⟨yb, 0, none⟩ = false) ∧ RfAt K (w'.setCell ⟨yb, 0, none⟩ (.slice va vn vc)) yb { S with rnd := S.rnd.eraseIdx (S.at id) } ∧ FK K W (w'.setCell ⟨yb, 0, none⟩ (.slice va vn vc))) := fun w e => by
      subst e
      refine (without_any h hat).mono fun e w' ⟨v, q1, q2⟩ => ?_
      obtain ⟨va, vn, vc, rfl⟩ := own_slice3 q2.own
      have hu := h.up q2.up
      have := h.newRow (w := w') (lv' := .slice va vn vc) (l := S.rnd.eraseIdx (S.at id)) q2.up.os q2.up.output q2.up.size (fun b hb _ => q2.up.block b hb) (fun b e => Or.inr (q2.own.lt b e).1) ⟨q2.own.1, q2.own.2.imp (fun h => h) fun ⟨g, cap, cur, q⟩ => ⟨g, cap, cur, q.1, Nat.zero_le _, q.2.2⟩⟩ (Nat.le_trans (List.length_eraseIdx_le _ _) h.len) (Gd.erase h.gd.rnd)
      exact ⟨va, vn, vc, q1, ⟨hu.k0, hu.fz 0⟩, ⟨_, _, this.1⟩, this.2⟩
    obtain ⟨ra, rc, hrv, c1, c2⟩ := own_slice h.row
    subst hrv
    have d1 : ¬ (S.at id : Int) < 0 := by omega
    have d2 : S.at id ≤ 64 := by have := h.len; omega
    clear h e1 e2 HR
    generalize S.at id = k at *
    generalize S.rnd.length = n at *
    clear hat
    go_enter Try.func32, Try.ntmps32
    go_wp2_with fail
    refine (HF.out _ rfl).mono ?_
    rintro e w1 ⟨rfl, hw⟩
    obtain rfl := hw.symm
    clear hw
    go_wp2_with fail
    refine (HD.out _ rfl).mono ?_
    rintro e w3 ⟨va, vn, vc, rfl, ⟨k3, z3⟩, h3⟩
    have H3 : Hid _ := h3
    clear h3 HD
    go_wp2_with fail
    go_ret
    exact ⟨by first | rfl | (simp; done), H3.out⟩
  · have e1 : S.remE id = 132 := if_neg hat
    have e2 : S.rem id = S := if_neg (by rw [e1]; decide)
    rw [e1, e2]
    rw [idxI_no hat] at HF
    clear h e1 e2 hat
    go_enter Try.func32, Try.ntmps32
    go_wp2_with fail
    refine (HF.out _ rfl).mono ?_
    rintro e w1 ⟨rfl, hw⟩
    obtain rfl := hw.symm
    clear hw
    go_wp2_with fail
    go_ret
    exact ⟨by first | rfl | (simp; done), HR.out⟩
set_option maxRecDepth 100000 in
set_option maxHeartbeats 1000000 in
theorem readyR_any (h : RfAt K W yb S) {id : Int} {b : Bool} :
    Calls Try.prog 33 #[.pointer (some ⟨yb, 0, none⟩), .int .i64 id, .bool b] W fun e w' => e = .returned (.int .i64 (S.remE id)) ∧ RfAt K w' yb (S.ready id b) ∧ FK K W w' := by
  obtain ⟨lv, sv, h⟩ := h
  have HR : Hid (RfAt K W yb S ∧ FK K W W) := h.refl
  have HF : Hid (∀ w, w = W → Calls Try.prog 42 #[.pointer (some ⟨yb, 0, none⟩), .int .i64 id] w fun e w' => e = .returned (.int .i64 (idxI (S.at id) S.rnd.length)) ∧ w' = w) := fun w e => by subst e; exact find_any h
  by_cases hat : S.at id < S.rnd.length
  · have e1 : S.remE id = 0 := if_pos hat
    have e2 : S.ready id b = { S with rnd := S.rnd.set (S.at id) ⟨id, b⟩ } := if_pos e1
    rw [e1, e2]
    obtain ⟨x, hx, hxi⟩ := find_at (l := S.rnd) (id := id) hat
    obtain ⟨g, cap, hrv⟩ : ∃ g cap, lv = .slice (some ⟨g, 0, none⟩) S.rnd.length cap := by
      rcases own_cases h.row with ⟨_, hn, _⟩ | ⟨g, cap, hv, _⟩
      · omega
      · exact ⟨g, cap, hv⟩
    subst hrv
    obtain ⟨c1, c2⟩ : S.rnd.length ≤ cap ∧ cap ≤ 9223372036854775807 := by
      obtain ⟨cur, _, _, c1, c2, _⟩ := own_open h.row
      unfold maxLen at c2
      exact ⟨c1, by omega⟩
    rw [idxI_lt hat] at HF
    have k0 := h.k0
    have k1 : W.cell? ⟨g, S.at id * 2 + 1, none⟩ = some (.bool x.rd) := mem_range h.row hx 1 _ rfl
    have z1 := (own_there h.row hat 1 (by decide)).2
    have HE : Hid (RfAt K (W.setCell ⟨g, S.at id * 2 + 1, none⟩ (.bool b)) yb { S with rnd := S.rnd.set (S.at id) ⟨id, b⟩ } ∧ FK K W (W.setCell ⟨g, S.at id * 2 + 1, none⟩ (.bool b))) := by
      have hf : Fr g W (W.setCell ⟨g, S.at id * 2 + 1, none⟩ (.bool b)) := (Fr.refl g W).setCell
      have := h.chg (w' := W.setCell ⟨g, S.at id * 2 + 1, none⟩ (.bool b)) (lv' := .slice (some ⟨g, 0, none⟩) S.rnd.length cap) (S' := { S with rnd := S.rnd.set (S.at id) ⟨id, b⟩ }) hf.os hf.output hf.size
        (fun c h1 h2 h3 h4 => hf.block c h1 (fun e => h3 (by rw [e]; rfl))) (fun c e => Or.inl e)
        ((hf.block yb (heap_at h.blk) (fun e => h.a1 (by rw [e]; rfl))).trans h.blk)
        (by
          show World.ownsRow _ 0 _ 2 _ (S.rnd.set (S.at id) _).length (memCells (S.rnd.set (S.at id) _))
          rw [List.length_set]
          refine own_set h.row rfl hx (fun k hk => ?_) (by decide)
          have : k = 0 ∨ k = 1 := by omega
          rcases this with rfl | rfl
          · rw [if_neg (by decide), ← hxi]
            rfl
          · rfl)
        (ownsRow_block h.slo (fun c hc => hf.block c (own_lt h.slo hc) (fun e => h.a3 g rfl (by rw [← e]; exact hc))))
        (by show (S.rnd.set (S.at id) _).length ≤ 64; rw [List.length_set]; exact h.len)
        ⟨fun m hm => by
          rcases List.mem_or_eq_of_mem_set hm with h2 | h2
          · exact h.gd.rnd m h2
          · rw [h2]
            show 0 ≤ id
            rw [← hxi]
            exact h.gd.rnd x (List.mem_of_getElem? hx), h.gd.slo⟩
      exact ⟨⟨_, _, this.1⟩, this.2⟩
    have d1 : ¬ (S.at id : Int) < 0 := by omega
    have d3 : (S.at id : Int) < (S.rnd.length : Int) := by omega
    have d2 : S.rnd.length ≤ 64 := h.len
    clear h e1 e2 hx hxi HR
    generalize S.at id = k at *
    generalize S.rnd.length = n at *
    go_enter Try.func33, Try.ntmps33
    go_wp2_with fail
    refine (HF.out _ rfl).mono ?_
    rintro e w1 ⟨rfl, hw⟩
    obtain rfl := hw.symm
    clear hw
    go_wp2_with fail
    go_ret
    exact ⟨by first | rfl | (simp; done), HE.out⟩
  · have e1 : S.remE id = 132 := if_neg hat
    have e2 : S.ready id b = S := if_neg (by rw [e1]; decide)
    rw [e1, e2]
    rw [idxI_no hat] at HF
    clear h e1 e2 hat
    go_enter Try.func33, Try.ntmps33
    go_wp2_with fail
    refine (HF.out _ rfl).mono ?_
    rintro e w1 ⟨rfl, hw⟩
    obtain rfl := hw.symm
    clear hw
    go_wp2_with fail
    go_ret
    exact ⟨by first | rfl | (simp; done), HR.out⟩
/-- a slot has changed -/
theorem RfR.setSlot {k g n c : Nat} {y : Mem} (h : RfR K w yb lv (.slice (some ⟨g, 0, none⟩) n c) S) (hk : k < S.slo.length) (hy : y.rd = true → 0 ≤ y.id) : RfR K (w.setCell ⟨g, k, none⟩ (.int .i64 (slI y))) yb lv (.slice (some ⟨g, 0, none⟩) n c) { S with slo := S.slo.set k y } ∧ FK K w (w.setCell ⟨g, k, none⟩ (.int .i64 (slI y))) := by
  have hf : Fr g w (w.setCell ⟨g, k, none⟩ (.int .i64 (slI y))) := (Fr.refl g w).setCell
  refine h.chg (w' := w.setCell ⟨g, k, none⟩ (.int .i64 (slI y))) (lv' := lv) (S' := { S with slo := S.slo.set k y }) hf.os hf.output hf.size (fun c h1 h2 h3 h4 => hf.block c h1 (fun e => h4 (by rw [e]; rfl))) (fun c e => Or.inl e) ?_ ?_ ?_ h.len ⟨h.gd.rnd, fun t ht hr => ?_⟩
  · exact (hf.block yb (heap_at h.blk) (fun e => h.a2 (by rw [e]; rfl))).trans h.blk
  · exact ownsRow_block h.row (fun c hc => hf.block c (own_lt h.row hc) (fun e => h.a3 c hc (by rw [e]; rfl)))
  · show World.ownsRow _ 0 _ 1 _ (S.slo.set k y).length (nums ((S.slo.set k y).map slI))
    rw [List.length_set, List.map_set]
    have hn : n = S.slo.length := by
      rcases own_cases h.slo with ⟨hv, _⟩ | ⟨g', cap', hv, _⟩
      · cases hv
      · injection hv
    have ho := h.slo
    rw [hn] at ho ⊢
    obtain ⟨cur, hg, hb, hc, hm, hs, htk, hl⟩ := own_open ho
    refine own_of (heap_setCell_same w g k _ _ _ hg) hb hc hm (by rw [Array.size_setIfInBounds]; exact hs) (by rw [nums_len, List.length_set, List.length_map]; omega) (fun j hj => ?_)
    rw [Array.getElem?_setIfInBounds, own_at htk j hj]
    unfold nums
    rw [List.map_set, List.getElem?_set]
    by_cases e : k = j
    · subst e
      rw [if_pos rfl, if_pos rfl, if_pos (by omega), if_pos (by simp; omega)]
    · rw [if_neg e, if_neg e]
  · rcases List.mem_or_eq_of_mem_set ht with h2 | h2
    · exact h.gd.slo t h2 hr
    · subst h2
      exact hy hr
theorem RfR.slotAt {k : Nat} {t : Mem} (h : RfR K w yb lv sv S) (ht : S.slo[k]? = some t) : ∃ g c, sv = .slice (some ⟨g, 0, none⟩) S.slo.length c ∧ S.slo.length ≤ c ∧ c ≤ 9223372036854775807 ∧ w.cell? ⟨g, k, none⟩ = some (.int .i64 (slI t)) ∧ w.frozen? ⟨g, k, none⟩ = false := by
  have hk := (List.getElem?_eq_some_iff.1 ht).1
  have ho := h.slo
  rcases own_cases ho with ⟨_, hn, _⟩ | ⟨g, cap, rfl, c1, c2, _⟩
  · omega
  · obtain ⟨cur, hg, _⟩ := own_open ho
    have := own_cell ho k (by omega)
    rw [Nat.zero_add] at this
    exact ⟨g, cap, rfl, c1, by unfold maxLen at c2; omega, by rw [this]; exact nums_at (by rw [List.getElem?_map, ht]; rfl), heap_fz hg⟩
set_option maxRecDepth 100000 in
set_option maxHeartbeats 1000000 in
theorem endR_any (h : RfAt K W yb S) {s : Int} :
    Calls Try.prog 35 #[.pointer (some ⟨yb, 0, none⟩), .int .i64 s] W fun e w' => e = .returned (.tuple #[.int .i64 (S.endN s), .int .i64 (S.endE s)]) ∧ RfAt K w' yb (S.done s) ∧ FK K W w' := by
  obtain ⟨lv, sv, h⟩ := h
  have HR : Hid (RfAt K W yb S ∧ FK K W W) := h.refl
  cases hs : S.slot s with
  | none =>
    have e1 : S.endE s = 131 := by unfold Sd.endE; rw [hs]
    have e2 : S.endN s = 0 := if_neg (by rw [e1]; decide)
    have e3 : S.done s = S := if_neg (by rw [e1]; decide)
    rw [e1, e2, e3]
    have hno := Sd.slot_none hs
    obtain ⟨xa, xc, hxv, x1, x2⟩ := own_slice h.slo
    have k1 := h.k1
    subst hxv
    clear h e1 e2 e3 hs
    generalize S.slo.length = n at *
    by_cases h0 : s < 0
    · skip
      go_enter Try.func35, Try.ntmps35
      go_wp2_with fail
      go_ret2
      exact ⟨by first | rfl | (simp; done), HR.out⟩
    · have d1 : (n : Int) ≤ s := by omega
      go_enter Try.func35, Try.ntmps35
      go_wp2_with fail
      go_ret2
      exact ⟨by first | rfl | (simp; done), HR.out⟩
  | some x =>
    obtain ⟨h0, k, rfl, hk⟩ := Sd.slot_some hs
    have hkl := (List.getElem?_eq_some_iff.1 hk).1
    have hgd := h.gd.slo x (List.mem_of_getElem? hk)
    obtain ⟨g, c, rfl, c1, c2, kc, kz⟩ := h.slotAt hk
    have k1 := h.k1
    obtain ⟨xi, xr⟩ := x
    have d1 : ¬ (S.slo.length : Int) ≤ (k : Int) := by omega
    have d2 : (k : Int) < (S.slo.length : Int) := by omega
    have d3 : ¬ (k : Int) < 0 := by omega
    cases xr with
    | false =>
      have e1 : S.endE (k : Int) = 131 := by unfold Sd.endE; rw [hs]; rfl
      have e2 : S.endN (k : Int) = 0 := if_neg (by rw [e1]; decide)
      have e3 : S.done (k : Int) = S := if_neg (by rw [e1]; decide)
      rw [e1, e2, e3]
      have kc2 : W.cell? ⟨g, k, none⟩ = some (.int .i64 (-1)) := kc
      clear h e1 e2 e3 hs hk kc hgd
      generalize S.slo.length = n at *
      go_enter Try.func35, Try.ntmps35
      go_wp2_with fail
      go_ret2
      exact ⟨by first | rfl | (simp; done), HR.out⟩
    | true =>
      have e1 : S.endE (k : Int) = 0 := by unfold Sd.endE; rw [hs]; rfl
      have e2 : S.endN (k : Int) = xi := by
        unfold Sd.endN
        rw [if_pos e1, Int.toNat_natCast, List.getD_eq_getElem?_getD, hk]
        rfl
      have e3 : S.done (k : Int) = { S with slo := S.slo.set k ⟨0, false⟩ } := by
        unfold Sd.done
        rw [if_pos e1, Int.toNat_natCast]
      rw [e1, e2, e3]
      have kc2 : W.cell? ⟨g, k, none⟩ = some (.int .i64 xi) := kc
      have d4 : ¬ xi < 0 := by have := hgd rfl; exact Int.not_lt.2 this
      have hset := h.setSlot (y := ⟨0, false⟩) hkl (fun e => by cases e)
      have HE : Hid (RfAt K (W.setCell ⟨g, k, none⟩ (.int .i64 (-1))) yb { S with slo := S.slo.set k ⟨0, false⟩ } ∧ FK K W (W.setCell ⟨g, k, none⟩ (.int .i64 (-1)))) := ⟨⟨_, _, hset.1⟩, hset.2⟩
      clear h e1 e2 e3 hs hk kc hgd hset HR
      generalize S.slo.length = n at *
      go_enter Try.func35, Try.ntmps35
      go_wp2_with fail
      go_ret2
      exact ⟨by first | rfl | (simp; done), HE.out⟩
end Go.Proofs.Ytakciepfckdpfaa
