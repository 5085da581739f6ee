/- Block: a store more. -/
import Derived.Test.YtekffilokdmfgaaBeC
namespace Go.Proofs.Ytekffilokdmfgaa
open Go.RowKit
set_option linter.unusedVariables false
set_option linter.unusedSimpArgs false
variable {w w' w1 W W0 : World} {ρ ρ' ρ1 : Nat → Nat} {r r' pb H n N : Nat} {ps : List (Nat × Nat)} {Sx Sy Sx' Sy' Ss : List Sto} {S : Nat → Prop} {L : Bd} {hf f : Nat → Int} {R : Nat → Prop} {v : Value}
theorem Wd.more {xb yb : Nat} {S0 : Sto} {w3 w4 : World} {v' : Value} (h : Wd W0 pb ρ ps Sx Sy S L H hf w) (hl : ps.length < 4) (hx : StAt (Kr ρ (10 + 2 * ps.length) w) w xb S0) (hy : RfAt (Kr ρ (11 + 2 * ps.length) w) w yb S0) (g0 : S0.Gd) (u3 : Up w w3)
    (g : w3.grownBy w4 L.x0.ownBlock) (o : w4.ownsRow 0 47 2 v' (ps.length + 1) (ptrs ps ++ [.pointer (some ⟨xb, 0, none⟩), .pointer (some ⟨yb, 0, none⟩)])) (a : v'.ownBlock = L.x0.ownBlock ∨ v'.ownBlock = some w3.heap.size) :
    (∃ ρ', Wd W0 pb ρ' (ps ++ [(xb, yb)]) (Sx ++ [S0]) (Sy ++ [S0]) S { L with x0 := v' } H hf (w4.setCell ⟨pb, 0, none⟩ v') ∧ Mv (fun r => r ≠ 2 ∧ r ≠ 4) ρ ρ' w (w4.setCell ⟨pb, 0, none⟩ v')) ∧ w4.cell? ⟨pb, 0, none⟩ = some L.x0 ∧ w4.frozen? ⟨pb, 0, none⟩ = false := by
  have fk : FK (fun b => ρ b ≠ 4) w w4 := ⟨g.os.trans u3.os, g.output.trans u3.output, Nat.le_trans u3.size g.size, fun b hb hr => (g.block b (Nat.lt_of_lt_of_le hb u3.size) (fun e => hr (h.px b e.symm))).trans (u3.block b hb)⟩
  have bf4 := h.bf.keep fk (show ρ pb ≠ 4 by rw [h.rp]; omega) (fun b hb => (show ρ b ≠ 4 by rw [h.ra b hb]; omega))
  have fr : Fr pb w4 (w4.setCell ⟨pb, 0, none⟩ v') := (Fr.refl pb w4).setCell
  have k := heap_setCell_same w4 pb 0 _ _ v' bf4.bl.blk
  have q : FK (fun x => x ≠ pb) w4 (w4.setCell ⟨pb, 0, none⟩ v') := FK.ofFr fr (fun h => h rfl)
  have m : Mv (fun r => r ≠ 2 ∧ r ≠ 4) ρ (ext ρ w.heap.size 4) w (w4.setCell ⟨pb, 0, none⟩ v') := ⟨q.os.trans fk.os, q.output.trans fk.output, Nat.le_trans fk.size q.size, fun b hb hr => ⟨ext_lt hb, (q.block b (Nat.lt_of_lt_of_le hb fk.size) (fun e => hr.1 (by rw [e]; exact h.rp))).trans (fk.block b hb hr.2)⟩⟩
  have pl := h.pl
  have hv' : ∀ b, v'.ownBlock = some b → ext ρ w.heap.size 4 b = 4 ∧ b ≠ pb := fun b hb => by
    rcases a with e | e
    · rw [e] at hb
      have k4 := h.px b hb
      refine ⟨by rw [ext_lt (own_lt h.pr hb)]; exact k4, fun e2 => ?_⟩
      have := h.rp
      rw [← e2] at this
      omega
    · rw [e] at hb
      injection hb with hb
      have := u3.size
      exact ⟨ext_ge (by omega), by omega⟩
  have app : ∀ {α : Type} (l : List α) (x : α) (i : Nat) (y : α), (l ++ [x])[i]? = some y → (i < l.length ∧ l[i]? = some y) ∨ (i = l.length ∧ y = x) := fun l x i y e => by
    by_cases hi : i < l.length
    · rw [List.getElem?_append_left hi] at e
      exact Or.inl ⟨hi, e⟩
    · have h1 := (List.getElem?_eq_some_iff.1 e).1
      simp at h1
      have e8 : i = l.length := by omega
      rw [List.getElem?_append_right (by omega), e8, Nat.sub_self] at e
      injection e with e
      exact Or.inr ⟨e8, e.symm⟩
  refine ⟨⟨ext ρ w.heap.size 4, ⟨m.up h.up h.r0 (by omega), h.wl, fun b hb => by rw [ext_lt (Nat.lt_of_lt_of_le hb h.up.size)]; exact h.r0 b hb, by rw [ext_lt pl]; exact h.rp,
    ⟨bf4.bl.cells fr k rfl rfl rfl rfl, own_keep bf4.ho fun g hg => q.block g (bf4.ho.lt g hg).2 (by have := (bf4.ho.lt g hg).1; omega), own_keep bf4.wo fun g hg => q.block g (bf4.wo.lt g hg).2 (by have := (bf4.wo.lt g hg).1; omega), bf4.hn, bf4.h8, bf4.hS, bf4.wS⟩,
    fun b hb => by rw [ext_lt (h.bf.al hb).2]; exact h.ra b hb, ?_, fun b hb => (hv' b hb).1, by rw [List.length_append]; show ps.length + 1 ≤ 4; omega, by rw [List.length_append, List.length_append, h.xl]; rfl, by rw [List.length_append, List.length_append, h.yl]; rfl, ?_, fun i p s hp hs => ?_, fun i p s hp hs => ?_⟩, m⟩, heap_cell bf4.bl.blk rfl, heap_fz bf4.bl.blk⟩
  · rw [List.length_append, ptrs_app]
    exact ownsRow_block o (fun g hg => q.block g (own_lt o hg) (hv' g hg).2)
  · obtain ⟨a, b, o, n', c, f', e, hy, hn', h0, hb⟩ := h.la
    exact ⟨a, b, o, n', c, f', e, hy.keep (fun k => (m.bl b (hb k).1 (by rw [(hb k).2]; omega)).2), hn', h0, fun k => ⟨Nat.lt_of_lt_of_le (hb k).1 m.size, by rw [ext_lt (hb k).1]; exact (hb k).2⟩⟩
  · rcases app ps (xb, yb) i p hp with ⟨hi, e⟩ | ⟨hi, e⟩
    · rcases app Sx S0 i s hs with ⟨hi2, e2⟩ | ⟨hi2, e2⟩
      · exact ⟨(h.pX i p s e e2).1.mv m (by omega), (h.pX i p s e e2).2⟩
      · have := h.xl; omega
    · rcases app Sx S0 i s hs with ⟨hi2, e2⟩ | ⟨hi2, e2⟩
      · have := h.xl; omega
      · subst e e2 hi
        exact ⟨hx.mv m (by omega), g0⟩
  · rcases app ps (xb, yb) i p hp with ⟨hi, e⟩ | ⟨hi, e⟩
    · rcases app Sy S0 i s hs with ⟨hi2, e2⟩ | ⟨hi2, e2⟩
      · exact ⟨(h.pY i p s e e2).1.mv m (by omega), (h.pY i p s e e2).2⟩
      · have := h.yl; omega
    · rcases app Sy S0 i s hs with ⟨hi2, e2⟩ | ⟨hi2, e2⟩
      · have := h.yl; omega
      · subst e e2 hi
        exact ⟨hy.mv m (by omega), g0⟩
/-- what a step leaves -/
def Sp (W0 : World) (pb N : Nat) (ρ : Nat → Nat) (w : World) : Prop := ∃ ps Ss S L H hf, Wd W0 pb ρ ps Ss Ss S L H hf w ∧ L.es.length ≤ N ∧ ∀ s ∈ Ss, s.pend.length ≤ N
def StepAns (W0 : World) (pb N : Nat) (ρ : Nat → Nat) (w : World) (e : Ending) (w' : World) : Prop := e = .returned (.bool true) ∧ ∃ ρ', Sp W0 pb N ρ' w' ∧ Mv (fun r => r = 6) ρ ρ' w w'
set_option maxRecDepth 100000 in
set_option maxHeartbeats 2000000 in
theorem more_no (h : Wd W0 pb ρ ps Ss Ss S L H hf w) (hN : L.es.length ≤ N) (hP : ∀ s ∈ Ss, s.pend.length ≤ N) : Calls Try.prog 8 #[.pointer (some ⟨pb, 0, none⟩), .pointer none, .int .i64 1, .pointer none, .int .i64 1] w (StepAns W0 pb N ρ w) := by
  have HE : Hid (∀ w', Up w w' → ∃ ρ', Sp W0 pb N ρ' w' ∧ Mv (fun r => r = 6) ρ ρ' w w') := fun w' u => ⟨_, ⟨_, _, _, _, _, _, h.upR u 5, hN, hP⟩, Mv.ofUp ρ u 5⟩
  clear h hN hP
  go_enter Try.func8, Try.ntmps8
  go_wp2_with fail
  go_ret
  exact ⟨by first | rfl | (simp; done), HE.out _ (Up.refl w)⟩
set_option maxRecDepth 100000 in
set_option maxHeartbeats 2000000 in
theorem more_yes {xb yb : Nat} {S0 : Sto} (h : Wd W0 pb ρ ps Ss Ss S L H hf w) (hN : L.es.length ≤ N) (hP : ∀ s ∈ Ss, s.pend.length ≤ N) (hx : StAt (Kr ρ (10 + 2 * ps.length) w) w xb S0) (hy : RfAt (Kr ρ (11 + 2 * ps.length) w) w yb S0) (g0 : S0.Gd) (hp0 : S0.pend.length ≤ N) :
    Calls Try.prog 8 #[.pointer (some ⟨pb, 0, none⟩), .pointer (some ⟨xb, 0, none⟩), .int .i64 0, .pointer (some ⟨yb, 0, none⟩), .int .i64 0] w (StepAns W0 pb N ρ w) := by
  have HE : Hid (∀ w', Up w w' → ∃ ρ', Sp W0 pb N ρ' w' ∧ Mv (fun r => r = 6) ρ ρ' w w') := fun w' u => ⟨_, ⟨_, _, _, _, _, _, h.upR u 5, hN, hP⟩, Mv.ofUp ρ u 5⟩
  have hip : Try.prog.info? 47 = some Try.t47 := by kernel_rfl
  have HB : ∀ w3, Up w w3 → ps.length < 4 → w3.ownsRow 0 47 2 L.x0 ps.length (ptrs ps) ∧ ∀ w4 v', w3.grownBy w4 L.x0.ownBlock → w4.ownsRow 0 47 2 v' (ps.length + 1) (ptrs ps ++ [.pointer (some ⟨xb, 0, none⟩), .pointer (some ⟨yb, 0, none⟩)]) → (v'.ownBlock = L.x0.ownBlock ∨ v'.ownBlock = some w3.heap.size) → (∃ ρ', Sp W0 pb N ρ' (w4.setCell ⟨pb, 0, none⟩ v') ∧ Mv (fun r => r = 6) ρ ρ' w (w4.setCell ⟨pb, 0, none⟩ v')) ∧ w4.cell? ⟨pb, 0, none⟩ = some L.x0 ∧ w4.frozen? ⟨pb, 0, none⟩ = false := fun w3 u3 hl => ⟨ownsRow_up h.pr u3, fun w4 v' g o a => by
    obtain ⟨⟨ρ', q1, q2⟩, q3, q4⟩ := h.more hl hx hy g0 u3 g o a
    exact ⟨⟨ρ', ⟨_, _, _, _, _, _, q1, hN, fun s hs => by
      rcases List.mem_append.1 hs with e | e
      · exact hP s e
      · rw [List.mem_singleton.1 e]; exact hp0⟩, q2.mono (fun r hr => by omega)⟩, q3, q4⟩⟩
  obtain ⟨la, lc, hlv, l1, l2⟩ : ∃ la lc, L.x0 = .slice la ps.length lc ∧ ps.length ≤ lc ∧ lc ≤ 9223372036854775807 := by
    rcases own_cases h.pr with ⟨e1, e2, _⟩ | ⟨g, cap, e1, e2, e3, _⟩
    · exact ⟨none, 0, by rw [e1, e2], by omega, by omega⟩
    · exact ⟨_, cap, e1, e2, by unfold maxLen at e3; omega⟩
  have k0 := h.c0
  have h4 := h.l4
  rw [hlv] at k0 HB
  generalize hnp : ps.length = np at *
  have HBh : Hid _ := HB
  clear HB h hx hy hlv hN hP hp0 g0
  generalize ptrs ps = cs at HBh
  clear hnp
  by_cases hl : np < 4
  · have d0 : (np : Int) < 4 := by omega
    go_enter Try.func8, Try.ntmps8
    go_wp2_with (at_builtin; refine wpList_append_own_at2 _ rfl _ _ 24 24 rfl 0 47 Try.t47 (.agg #[.pointer none, .pointer none]) 2 16 Try.underlying24 Try.underlying24 hip rfl rfl rfl rfl (by decide) _ _ _ rfl (HBh.out _ ((Up.refl w).alloc _) hl).1 ⟨w.heap.size, 0, none⟩ 1 1 [.pointer (some ⟨xb, 0, none⟩), .pointer (some ⟨yb, 0, none⟩)] rfl rfl (by intro j u hu; rw [Addr.add_lit, Nat.zero_add, cell_of_row _ _ _ _ _ _ (heap_alloc_new w _)]; simpa using hu) (by intro u hu; simp at hu; rcases hu with rfl | rfl <;> rfl) (by unfold maxLen; omega) (by omega) (Nat.zero_le _) ?_; intro v' w5 ho hg hat; have H5 : Hid _ := (HBh.out _ ((Up.refl w).alloc _) hl).2 w5 v' hg ho hat; obtain ⟨va', vn', vc', rfl⟩ := own_slice3 ho; clear ho hg hat; have k5 := H5.out.2.1; have z5 := H5.out.2.2)
    go_ret
    exact ⟨by first | rfl | (simp; done), H5.out.1⟩
  · have d0 : ¬ (np : Int) < 4 := by omega
    go_enter Try.func8, Try.ntmps8
    go_wp2_with fail
    go_ret
    exact ⟨by first | rfl | (simp; done), HE.out _ (Up.refl w)⟩
end Go.Proofs.Ytekffilokdmfgaa
