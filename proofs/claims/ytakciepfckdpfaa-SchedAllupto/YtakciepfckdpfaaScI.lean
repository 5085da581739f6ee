/- Sched: Add, Remove, Ready. -/
import Derived.Test.YtakciepfckdpfaaScH
namespace Go.Proofs.Ytakciepfckdpfaa
open Go.RowKit
set_option linter.unusedVariables false
set_option linter.unusedSimpArgs false
variable {w w' W : World} {K K' : Nat → Prop} {sb sg sc : Nat} {rv rv' : Value} {S S' : Sd}
/-- the round has changed -/
theorem SdR.newRow {g1 : Option Nat} {l : List Mem} (h : SdR K W sb sg sc rv S) (os : w.os = W.os) (out : w.output = W.output) (size : W.heap.size ≤ w.heap.size) (hB : ∀ b, b < W.heap.size → rv.ownBlock ≠ some b → w.heap[b]? = W.heap[b]?) (hv : ∀ b, rv'.ownBlock = some b → rv.ownBlock = some b ∨ W.heap.size ≤ b)
    (own : w.ownsRow 0 69 2 rv' l.length (memCells l)) (hl : l.length ≤ 64) : SdAt K (w.setCell ⟨sb, 0, none⟩ rv') sb { S with rnd := l } ∧ FK K W (w.setCell ⟨sb, 0, none⟩ rv') := by
  have l1 := heap_at h.blk
  have l2 := h.sglt
  have hf : Fr sb w (w.setCell ⟨sb, 0, none⟩ rv') := (Fr.refl sb w).setCell
  have ne : ∀ b, rv'.ownBlock = some b → b ≠ sb := fun b e e2 => by
    subst e2
    rcases hv b e with e | e
    · exact h.a2 e
    · omega
  have := h.chg (w' := w.setCell ⟨sb, 0, none⟩ rv') (rv' := rv') (S' := { S with rnd := l }) (hf.os.trans os) (hf.output.trans out) (Nat.le_trans size hf.size)
    (fun b h1 h2 h3 h4 => (hf.block b (Nat.lt_of_lt_of_le h1 size) h2).trans (hB b h1 h4)) hv
    (heap_setCell_same w sb 0 _ _ _ ((hB sb l1 h.a2).trans h.blk))
    (ownsRow_block h.slo (fun g hg => by injection hg with hg; subst hg; exact (hf.block _ (Nat.lt_of_lt_of_le l2 size) h.a1.symm).trans (hB _ l2 h.a3)))
    (ownsRow_block own (fun g hg => hf.block g (own_lt own hg) (ne g hg))) hl
  exact ⟨⟨_, _, _, this.1⟩, this.2⟩
set_option maxRecDepth 100000 in
set_option maxHeartbeats 1000000 in
theorem add_any (h : SdAt K W sb S) {id : Int} (hid : I64 id) :
    Calls Try.prog 16 #[.pointer (some ⟨sb, 0, none⟩), .int .i64 id] W fun e w' => e = .returned (.int .i64 (S.addE id)) ∧ SdAt K w' sb (S.add id) ∧ FK K W w' := by
  obtain ⟨sg, sc, rv, h⟩ := h
  by_cases h0 : id < 0
  · have e1 : S.addE id = 1 := if_pos h0
    have e2 : S.add id = S := if_neg (by rw [e1]; decide)
    rw [e1, e2]
    have HR : Hid _ := h.refl
    clear h e1 e2
    go_enter Try.func16, Try.ntmps16
    go_wp2_with fail
    go_ret
    exact ⟨by first | rfl | (simp; done), HR.out⟩
  · have HN : Hid (∀ w, w = W → Calls Try.prog 28 #[.int .i64 id] w fun e w' => ∃ q, e = .returned (.func (.func 41) #[] #[.pointer (some ⟨q, 0, none⟩)]) ∧ w'.cell? ⟨q, 0, none⟩ = some (.int .i64 id) ∧ Up W w') := fun w e => by subst e; exact named_any
    have HF : Hid (∀ w q, Up W w → w.cell? ⟨q, 0, none⟩ = some (.int .i64 id) → Calls Try.prog 25 #[.pointer (some ⟨sb, 0, none⟩), .func (.func 41) #[] #[.pointer (some ⟨q, 0, none⟩)]] w fun e w' => e = .returned (.int .i64 (idxI (S.at id) S.rnd.length)) ∧ Up W w') := fun w q u hq => h.first u hq
    by_cases hat : S.at id < S.rnd.length
    · have e1 : S.addE id = 132 := by unfold Sd.addE; rw [if_neg h0, if_pos hat]
      have e2 : S.add id = S := if_neg (by rw [e1]; decide)
      rw [e1, e2]
      have HR : Hid (∀ w, Up W w → SdAt K w sb S ∧ FK K W w) := fun w u => h.refl_up u
      rw [idxI_lt hat] at HF
      have d1 : (0 : Int) ≤ (S.at id : Int) := by omega
      generalize S.at id = k at *
      clear h e1 e2 hat
      go_enter Try.func16, Try.ntmps16
      go_wp2_with fail
      refine (HN.out _ rfl).mono ?_
      rintro e w1 ⟨q, rfl, hq, u1⟩
      have H1 : Hid _ := HF.out w1 q u1 hq
      clear hq u1 HN HF
      go_wp2_with fail
      refine Calls.mono H1.out ?_
      rintro e w2 ⟨rfl, u2⟩
      have H2 : Hid _ := HR.out w2 u2
      clear u2 HR H1
      go_wp2_with fail
      go_ret
      exact ⟨by first | rfl | (simp; done), H2.out⟩
    · rw [idxI_no hat] at HF
      obtain ⟨ra, rc, hrv, c1, c2⟩ := h.rvl
      have HK : Hid (∀ w, Up W w → w.cell? ⟨sb, 0, none⟩ = some rv ∧ w.frozen? ⟨sb, 0, none⟩ = false) := fun w u => ⟨(h.up u).k0, (h.up u).fz 0⟩
      by_cases hfull : 64 ≤ S.rnd.length
      · have e1 : S.addE id = 133 := by unfold Sd.addE; rw [if_neg h0, if_neg hat, if_pos hfull]
        have e2 : S.add id = S := if_neg (by rw [e1]; decide)
        rw [e1, e2]
        have HR : Hid (∀ w, Up W w → SdAt K w sb S ∧ FK K W w) := fun w u => h.refl_up u
        clear h e1 e2 hat
        subst hrv
        have d1 : (64 : Int) ≤ (S.rnd.length : Int) := by omega
        generalize S.rnd.length = n at *
        go_enter Try.func16, Try.ntmps16
        go_wp2_with fail
        refine (HN.out _ rfl).mono ?_
        rintro e w1 ⟨q, rfl, hq, u1⟩
        have H1 : Hid _ := HF.out w1 q u1 hq
        clear hq u1 HN HF
        go_wp2_with fail
        refine Calls.mono H1.out ?_
        rintro e w2 ⟨rfl, u2⟩
        have H2 : Hid _ := HR.out w2 u2
        obtain ⟨k0, kf⟩ := HK.out w2 u2
        clear u2 HR H1 HK
        go_wp2_with fail
        go_ret
        exact ⟨by first | rfl | (simp; done), H2.out⟩
      · have e1 : S.addE id = 0 := by unfold Sd.addE; rw [if_neg h0, if_neg hat, if_neg hfull]
        have e2 : S.add id = { S with rnd := S.rnd ++ [⟨id, false⟩] } := if_pos e1
        rw [e1, e2]
        clear e1 e2 hat
        have HO : Hid (∀ w, Up W w → w.ownsRow 0 69 2 rv S.rnd.length (memCells S.rnd)) := fun w u => (h.up u).row
        have HE : Hid (∀ w1 w2 v', Up W w1 → w1.grownBy w2 rv.ownBlock → w2.ownsRow 0 69 2 v' (S.rnd.length + 1) (memCells S.rnd ++ [.int .i64 id, .bool false]) → (v'.ownBlock = rv.ownBlock ∨ v'.ownBlock = some w1.heap.size) → (SdAt K (w2.setCell ⟨sb, 0, none⟩ v') sb { S with rnd := S.rnd ++ [⟨id, false⟩] } ∧ FK K W (w2.setCell ⟨sb, 0, none⟩ v')) ∧ w2.cell? ⟨sb, 0, none⟩ = some rv ∧ w2.frozen? ⟨sb, 0, none⟩ = false) := fun w1 w2 v' u gr own at' => by
          have l1 := heap_at h.blk
          have hS2 := (gr.block sb (Nat.lt_of_lt_of_le l1 u.size) (fun e => h.a2 e.symm)).trans ((u.block sb l1).trans h.blk)
          refine ⟨h.newRow (g1 := none) (gr.os.trans u.os) (gr.output.trans u.output) (Nat.le_trans u.size gr.size) (fun b hb hn => (gr.block b (Nat.lt_of_lt_of_le hb u.size) (fun e => hn e.symm)).trans (u.block b hb)) (fun b e => ?_) ?_ (by rw [List.length_append]; simp; omega), heap_cell hS2 rfl, heap_fz hS2⟩
          · rcases at' with e1 | e1
            · exact Or.inl (e1 ▸ e)
            · rw [e1] at e
              injection e with e
              have := u.size
              exact Or.inr (by omega)
          · rw [List.length_append, memCells_app]
            exact own
        have hie : Try.prog.info? 69 = some Try.t69 := by kernel_rfl
        have d1 : ¬ (64 : Int) ≤ (S.rnd.length : Int) := by omega
        have hn64 : S.rnd.length ≤ 64 := by omega
        have HU : Hid (∀ w, w.heap.size = w.heap.size → Up W w → Up W (w.alloc (Obj.cells #[.int .i64 id, .bool false] 69))) := fun w _ u => u.alloc _
        clear h hfull
        subst hrv
        generalize S.rnd.length = n at *
        go_enter Try.func16, Try.ntmps16
        go_wp2_with fail
        refine (HN.out _ rfl).mono ?_
        rintro e w1 ⟨q, rfl, hq, u1⟩
        have H1 : Hid _ := HF.out w1 q u1 hq
        clear hq u1 HN HF
        go_wp2_with fail
        refine Calls.mono H1.out ?_
        rintro e w2 ⟨rfl, u2⟩
        have H2 : Hid (Up W w2) := u2
        obtain ⟨k0, kf⟩ := HK.out w2 u2
        clear u2 H1 HK
        go_wp2_with (at_builtin; refine wpList_append_own_at2 _ rfl _ _ 61 61 rfl 0 69 Try.t69 (.agg #[.int .i64 0, .bool false]) 2 16 Try.underlying61 Try.underlying61 hie rfl rfl rfl rfl (by decide) _ _ _ rfl (HO.out _ (H2.out.alloc _)) ⟨w2.heap.size, 0, none⟩ 1 1 [.int .i64 id, .bool false] rfl rfl (by intro j u hu; rw [Addr.add_lit, Nat.zero_add, cell_of_row _ _ _ _ _ _ (heap_alloc_new w2 _)]; simpa using hu) (by intro u hu; simp at hu; rcases hu with rfl | rfl <;> rfl) (by unfold maxLen; omega) (by omega) (Nat.zero_le _) ?_; intro v' w3 ho hg hat; obtain ⟨va', vn', vc', rfl⟩ := own_slice3 ho; have H3 : Hid _ := HE.out _ w3 _ (H2.out.alloc _) hg ho hat; clear ho hg hat; have k3 := H3.out.2.1; have z3 := H3.out.2.2)
        go_ret
        exact ⟨by first | rfl | (simp; done), H3.out.1⟩
theorem find_at {l : List Mem} {id : Int} (h : l.findIdx (fun m => m.id == id) < l.length) : ∃ x, l[l.findIdx (fun m => m.id == id)]? = some x ∧ x.id = id := by
  have h2 := List.findIdx_getElem (xs := l) (p := fun m : Mem => m.id == id) (w := h)
  exact ⟨_, List.getElem?_eq_getElem h, by simpa using h2⟩
set_option maxRecDepth 100000 in
set_option maxHeartbeats 1000000 in
theorem remove_any (h : SdAt K W sb S) {id : Int} :
    Calls Try.prog 17 #[.pointer (some ⟨sb, 0, none⟩), .int .i64 id] W fun e w' => e = .returned (.int .i64 (S.remE id)) ∧ SdAt K w' sb (S.rem id) ∧ FK K W w' := by
  obtain ⟨sg, sc, rv, h⟩ := h
  have HN : Hid (∀ w, w = W → Calls Try.prog 28 #[.int .i64 id] w fun e w' => ∃ q, e = .returned (.func (.func 41) #[] #[.pointer (some ⟨q, 0, none⟩)]) ∧ w'.cell? ⟨q, 0, none⟩ = some (.int .i64 id) ∧ Up W w') := fun w e => by subst e; exact named_any
  have HF : Hid (∀ w q, Up W w → w.cell? ⟨q, 0, none⟩ = some (.int .i64 id) → Calls Try.prog 25 #[.pointer (some ⟨sb, 0, none⟩), .func (.func 41) #[] #[.pointer (some ⟨q, 0, none⟩)]] w fun e w' => e = .returned (.int .i64 (idxI (S.at id) S.rnd.length)) ∧ Up W w') := fun w q u hq => h.first u hq
  by_cases hat : S.at id < S.rnd.length
  · have e1 : S.remE id = 0 := if_pos hat
    have e2 : S.rem id = { S with rnd := S.rnd.eraseIdx (S.at id) } := if_pos e1
    rw [e1, e2]
    obtain ⟨g, cap, rfl⟩ : ∃ g cap, rv = .slice (some ⟨g, 0, none⟩) S.rnd.length cap := by
      rcases own_cases h.row with ⟨_, hn, _⟩ | ⟨g, cap, hv, _⟩
      · omega
      · exact ⟨g, cap, hv⟩
    rw [idxI_lt hat] at HF
    obtain ⟨m, hm⟩ : ∃ m, S.rnd.length = m + 1 := ⟨S.rnd.length - 1, by omega⟩
    have HK : Hid (∀ w, Up W w → w.cell? ⟨sb, 0, none⟩ = some (.slice (some ⟨g, 0, none⟩) (m + 1) cap)) := fun w u => by rw [← hm]; exact (h.up u).k0
    have HD : Hid (∀ w, Up W w → Calls Try.prog 27 #[.slice (some ⟨g, 0, none⟩) (m + 1) cap, .int .i64 (S.at id : Int), .int .i64 ((S.at id : Int) + 1)] w fun e w' => e = .returned (.slice (some ⟨g, 0, none⟩) m cap) ∧ (w'.cell? ⟨sb, 0, none⟩ = some (.slice (some ⟨g, 0, none⟩) (m + 1) cap) ∧ w'.frozen? ⟨sb, 0, none⟩ = false) ∧ SdAt K (w'.setCell ⟨sb, 0, none⟩ (.slice (some ⟨g, 0, none⟩) m cap)) sb { S with rnd := S.rnd.eraseIdx (S.at id) } ∧ FK K W (w'.setCell ⟨sb, 0, none⟩ (.slice (some ⟨g, 0, none⟩) m cap))) := fun w u => by
      have hr := (h.up u).row
      have hlen := h.len
      rw [hm] at hr hlen
      refine (delM_any hr (show S.at id ≤ m by omega) (memCells_one _)).mono fun e w' ⟨q1, q2, q3⟩ => ⟨q1, ?_, ?_⟩
      · have hS : w'.heap[sb]? = _ := (q3.block sb (heap_at (h.up u).blk) (fun e => h.a2 (by rw [e]; rfl))).trans (h.up u).blk
        rw [hm] at hS
        exact ⟨heap_cell hS rfl, heap_fz hS⟩
      · have hl : (S.rnd.eraseIdx (S.at id)).length = m := by rw [List.length_eraseIdx_of_lt hat]; omega
        refine h.newRow (g1 := none) (q3.os.trans u.os) (q3.output.trans u.output) (Nat.le_trans u.size q3.size) (fun b hb hn => (q3.block b (Nat.lt_of_lt_of_le hb u.size) (fun e => hn (by rw [e]; rfl))).trans (u.block b hb)) (fun b e => Or.inl e) ?_ (by rw [hl]; omega)
        rw [hl, ← memCells_erase]
        exact q2
    have d1 : ¬ (S.at id : Int) < 0 := by omega
    have d2 : S.at id ≤ 64 := by have := h.len; omega
    clear h e1 e2
    generalize S.at id = k at *
    clear hat hm
    go_enter Try.func17, Try.ntmps17
    go_wp2_with fail
    refine (HN.out _ rfl).mono ?_
    rintro e w1 ⟨q, rfl, hq, u1⟩
    have H1 : Hid _ := HF.out w1 q u1 hq
    clear hq u1 HN HF
    go_wp2_with fail
    refine Calls.mono H1.out ?_
    rintro e w2 ⟨rfl, u2⟩
    have H2 : Hid _ := HD.out w2 u2
    have k0 := HK.out w2 u2
    clear u2 HD H1 HK
    go_wp2_with fail
    refine Calls.mono H2.out ?_
    rintro e w3 ⟨rfl, ⟨k3, z3⟩, h3⟩
    have H3 : Hid _ := h3
    clear h3 H2 k0
    go_wp2_with fail
    go_ret
    exact ⟨by first | rfl | (simp; done), H3.out⟩
  · have e1 : S.remE id = 132 := if_neg hat
    have e2 : S.rem id = S := if_neg (by rw [e1]; decide)
    rw [e1, e2]
    have HR : Hid (∀ w, Up W w → SdAt K w sb S ∧ FK K W w) := fun w u => h.refl_up u
    rw [idxI_no hat] at HF
    clear h e1 e2 hat
    go_enter Try.func17, Try.ntmps17
    go_wp2_with fail
    refine (HN.out _ rfl).mono ?_
    rintro e w1 ⟨q, rfl, hq, u1⟩
    have H1 : Hid _ := HF.out w1 q u1 hq
    clear hq u1 HN HF
    go_wp2_with fail
    refine Calls.mono H1.out ?_
    rintro e w2 ⟨rfl, u2⟩
    have H2 : Hid _ := HR.out w2 u2
    clear u2 HR H1
    go_wp2_with fail
    go_ret
    exact ⟨by first | rfl | (simp; done), H2.out⟩
set_option maxRecDepth 100000 in
set_option maxHeartbeats 1000000 in
theorem ready_any (h : SdAt K W sb S) {id : Int} {b : Bool} :
    Calls Try.prog 13 #[.pointer (some ⟨sb, 0, none⟩), .int .i64 id, .bool b] W fun e w' => e = .returned (.int .i64 (S.remE id)) ∧ SdAt K w' sb (S.ready id b) ∧ FK K W w' := by
  obtain ⟨sg, sc, rv, h⟩ := h
  have HN : Hid (∀ w, w = W → Calls Try.prog 28 #[.int .i64 id] w fun e w' => ∃ q, e = .returned (.func (.func 41) #[] #[.pointer (some ⟨q, 0, none⟩)]) ∧ w'.cell? ⟨q, 0, none⟩ = some (.int .i64 id) ∧ Up W w') := fun w e => by subst e; exact named_any
  have HF : Hid (∀ w q, Up W w → w.cell? ⟨q, 0, none⟩ = some (.int .i64 id) → Calls Try.prog 25 #[.pointer (some ⟨sb, 0, none⟩), .func (.func 41) #[] #[.pointer (some ⟨q, 0, none⟩)]] w fun e w' => e = .returned (.int .i64 (idxI (S.at id) S.rnd.length)) ∧ Up W w') := fun w q u hq => h.first u hq
  by_cases hat : S.at id < S.rnd.length
  · have e1 : S.remE id = 0 := if_pos hat
    have e2 : S.ready id b = { S with rnd := S.rnd.set (S.at id) ⟨id, b⟩ } := if_pos e1
    rw [e1, e2]
    obtain ⟨x, hx, hxi⟩ := find_at (l := S.rnd) (id := id) hat
    obtain ⟨g, cap, hrv⟩ : ∃ g cap, rv = .slice (some ⟨g, 0, none⟩) S.rnd.length cap := by
      rcases own_cases h.row with ⟨_, hn, _⟩ | ⟨g, cap, hv, _⟩
      · omega
      · exact ⟨g, cap, hv⟩
    subst hrv
    obtain ⟨c1, c2⟩ : S.rnd.length ≤ cap ∧ cap ≤ 9223372036854775807 := by
      obtain ⟨cur, _, _, c1, c2, _⟩ := own_open h.row
      unfold maxLen at c2
      exact ⟨c1, by omega⟩
    rw [idxI_lt hat] at HF
    have HK : Hid (∀ w, Up W w → w.cell? ⟨sb, 0, none⟩ = some (.slice (some ⟨g, 0, none⟩) S.rnd.length cap) ∧ (w.cell? ⟨g, S.at id * 2 + 1, none⟩ = some (.bool x.rd) ∧ w.frozen? ⟨g, S.at id * 2 + 1, none⟩ = false) ∧ SdAt K (w.setCell ⟨g, S.at id * 2 + 1, none⟩ (.bool b)) sb { S with rnd := S.rnd.set (S.at id) ⟨id, b⟩ } ∧ FK K W (w.setCell ⟨g, S.at id * 2 + 1, none⟩ (.bool b))) := fun w u => by
      have hw := h.up u
      have hf : Fr g w (w.setCell ⟨g, S.at id * 2 + 1, none⟩ (.bool b)) := (Fr.refl g w).setCell
      refine ⟨hw.k0, ⟨mem_range hw.row hx 1 _ rfl, (own_there hw.row hat 1 (by decide)).2⟩, ?_⟩
      have := hw.chg (w' := w.setCell ⟨g, S.at id * 2 + 1, none⟩ (.bool b)) (rv' := .slice (some ⟨g, 0, none⟩) S.rnd.length cap) (S' := { S with rnd := S.rnd.set (S.at id) ⟨id, b⟩ }) hf.os hf.output hf.size
        (fun c h1 h2 h3 h4 => hf.block c h1 (fun e => h4 (by rw [e]; rfl))) (fun c e => Or.inl e)
        ((hf.block sb (heap_at hw.blk) (fun e => h.a2 (by rw [e]; rfl))).trans hw.blk)
        (ownsRow_block hw.slo (fun g' hg => by injection hg with hg; subst hg; exact hf.block _ hw.sglt (fun e => h.a3 (by rw [← e]; rfl))))
        (by
          show World.ownsRow _ 0 _ 2 _ (S.rnd.set (S.at id) _).length (memCells (S.rnd.set (S.at id) _))
          rw [List.length_set]
          refine own_set hw.row rfl hx (fun k hk => ?_) (by decide)
          have : k = 0 ∨ k = 1 := by omega
          rcases this with rfl | rfl
          · rw [if_neg (by decide), ← hxi]
            rfl
          · rfl)
        (by show (S.rnd.set (S.at id) _).length ≤ 64; rw [List.length_set]; exact h.len)
      exact ⟨⟨_, _, _, this.1⟩, (FK.ofUp u).trans this.2⟩
    have d1 : ¬ (S.at id : Int) < 0 := by omega
    have d3 : (S.at id : Int) < (S.rnd.length : Int) := by omega
    have d2 : S.rnd.length ≤ 64 := h.len
    clear h e1 e2 hx hxi
    generalize S.at id = k at *
    generalize S.rnd.length = n at *
    go_enter Try.func13, Try.ntmps13
    go_wp2_with fail
    refine (HN.out _ rfl).mono ?_
    rintro e w1 ⟨q, rfl, hq, u1⟩
    have H1 : Hid _ := HF.out w1 q u1 hq
    clear hq u1 HN HF
    go_wp2_with fail
    refine Calls.mono H1.out ?_
    rintro e w2 ⟨rfl, u2⟩
    obtain ⟨k0, ⟨k1, z1⟩, h2⟩ := HK.out w2 u2
    have H2 : Hid _ := h2
    clear u2 H1 HK h2
    go_wp2_with fail
    go_ret
    exact ⟨by first | rfl | (simp; done), H2.out⟩
  · have e1 : S.remE id = 132 := if_neg hat
    have e2 : S.ready id b = S := if_neg (by rw [e1]; decide)
    rw [e1, e2]
    have HR : Hid (∀ w, Up W w → SdAt K w sb S ∧ FK K W w) := fun w u => h.refl_up u
    rw [idxI_no hat] at HF
    clear h e1 e2 hat
    go_enter Try.func13, Try.ntmps13
    go_wp2_with fail
    refine (HN.out _ rfl).mono ?_
    rintro e w1 ⟨q, rfl, hq, u1⟩
    have H1 : Hid _ := HF.out w1 q u1 hq
    clear hq u1 HN HF
    go_wp2_with fail
    refine Calls.mono H1.out ?_
    rintro e w2 ⟨rfl, u2⟩
    have H2 : Hid _ := HR.out w2 u2
    clear u2 HR H1
    go_wp2_with fail
    go_ret
    exact ⟨by first | rfl | (simp; done), H2.out⟩
end Go.Proofs.Ytakciepfckdpfaa
