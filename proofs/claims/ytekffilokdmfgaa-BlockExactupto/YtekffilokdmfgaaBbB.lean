/- Block: the law's marked. -/
import Derived.Test.YtekffilokdmfgaaBbA
import Derived.Deep.Cut
namespace Go.Proofs.Ytekffilokdmfgaa
open Go.RowKit
set_option linter.unusedVariables false
set_option linter.unusedSimpArgs false
variable {w w' W : World} {base pb n : Nat} {S K : Nat → Prop} {m : Int} {v u : Value} {L : Bd}
/-- while a list is being marked -/
structure Mkg (base : Nat) (m : Int) (W : World) (v : Value) (n : Nat) (xs : List Value) (i : Nat) (w : World) : Prop where
  ov : w.ownsRow base 5 1 v n (rep m i ++ xs.drop i)
  os : w.os = W.os
  output : w.output = W.output
  size : w.heap.size = W.heap.size
  block : ∀ b, b < W.heap.size → v.ownBlock ≠ some b → w.heap[b]? = W.heap[b]?
theorem Mkg.start {xs : List Value} (h : W.ownsRow base 5 1 v n xs) : Mkg base m W v n xs 0 W := ⟨by simpa [rep] using h, rfl, rfl, rfl, fun _ _ _ => rfl⟩
theorem Mkg.drew {xs : List Value} {i k : Nat} (h : Mkg base m W v n xs i w) : Mkg base m W v n xs i (w.drewN k) := ⟨ownsRow_up h.ov (Up.drewN w k), h.os, h.output, h.size, h.block⟩
theorem Mkg.step {xs : List Value} {i : Nat} (h : Mkg base m W v n xs i w) (hi : i < n) : ∃ g c, v = .slice (some ⟨g, 0, none⟩) n c ∧ n ≤ c ∧ c ≤ maxLen ∧ (∃ x, w.cell? ⟨g, i, none⟩ = some x) ∧ w.frozen? ⟨g, i, none⟩ = false ∧ Mkg base m W v n xs (i + 1) (w.setCell ⟨g, i, none⟩ (.int .u8 m)) := by
  have hx : xs.length = n := by
    have := h.ov.1
    simp [rep] at this
    omega
  rcases own_cases h.ov with ⟨_, hn, _⟩ | ⟨g, cap, rfl, h1, h2, h3, h4⟩
  · omega
  obtain ⟨cur, hg, hb, hc, hm, hs, ht⟩ := own_open h.ov
  refine ⟨g, cap, rfl, h1, h2, ⟨cur[i]'(by omega), heap_cell hg (Array.getElem?_eq_getElem (by omega))⟩, heap_fz hg, own_of (heap_setCell_same w g i _ _ _ hg) hb hc hm (by rw [Array.size_setIfInBounds]; exact hs) (by simp [rep]; omega) (fun t ht2 => ?_), h.os, h.output, by simpa using h.size, fun b hb hv => (Below.heap_setCell _ _ _ _ (fun e => hv (by rw [h4]; exact congrArg some e.symm))).trans (h.block b hb hv)⟩
  rw [Array.getElem?_setIfInBounds]
  by_cases e : i = t
  · subst e
    rw [if_pos rfl, if_pos (by omega), List.getElem?_append_left (by simp [rep])]
    unfold rep
    rw [List.getElem?_replicate, if_pos (by omega)]
  · rw [if_neg e, own_at ht.1 t ht2]
    unfold rep
    by_cases e2 : t < i
    · rw [List.getElem?_append_left (by simp; omega), List.getElem?_append_left (by simp; omega), List.getElem?_replicate, List.getElem?_replicate, if_pos e2, if_pos (by omega)]
    · rw [List.getElem?_append_right (by simp; omega), List.getElem?_append_right (by simp; omega), List.getElem?_drop, List.getElem?_drop]
      simp only [List.length_replicate]
      congr 1
      omega
theorem Mkg.done {xs : List Value} (h : Mkg base m W v n xs n w) : Mq base m W v n w [v] := by
  have hx : xs.length ≤ n := by
    have := h.ov.1
    simp [rep] at this
    omega
  refine Mq.start ?_ h.os h.output (by rw [h.size]; exact Nat.le_refl _) h.block
  have := h.ov
  rw [List.drop_eq_nil_of_le (by omega), List.append_nil] at this
  exact this
theorem repB_two (w : World) (m : Int) : ∀ i x, (rep m 2)[i]? = some x → (w.alloc (.cells #[.int .u8 m, .int .u8 m] 5)).cell? ((⟨w.heap.size, 0, none⟩ : Addr).add i) = some x := by
  intro j x h
  match j, h with
  | 0, h => simp [rep] at h; subst h; rw [Addr.add_lit]; exact heap_cell (heap_alloc_new w _) rfl
  | 1, h => simp [rep] at h; subst h; rw [Addr.add_lit]; exact heap_cell (heap_alloc_new w _) rfl
  | j + 2, h => simp [rep] at h
/-- what a marked list leaves -/
structure Mrk (S : Nat → Prop) (base pb : Nat) (W : World) (v : Value) (L : Bd) (w : World) : Prop where
  ex : ∃ L', Bl (SxB S v W w) base pb w L' ∧ L'.es.length = L.es.length + 4 ∧ L'.x0 = L.x0 ∧ L'.x1 = L.x1 ∧ L'.hv = L.hv ∧ L'.wv = L.wv
  ch : FK (KxB S v pb) W w
theorem Mq.app1 {l : List Value} (h : Mq base m W v n w l) (hn : n ≤ 4000000) (hbase : base ≤ W.heap.size) : ∃ u w', (Builtin.append_ #[25, 25] 25 #[v, .slice (some ⟨w.heap.size, 0, none⟩) 1 1]).run Try.prog (w.alloc (.cells #[.int .u8 m] 5)) = .ok u w' ∧ Mq base m W v n w' (l ++ [u]) ∧ ∃ a k c, u = .slice a k c := by
  have q := h.up ((Up.refl w).alloc (.cells #[.int .u8 m] 5))
  obtain ⟨u, w', hr, g⟩ := (Gn.start q.ov).step (j := 1) (c := 1) (rep_new w m) (by decide) (by omega) (Nat.le_trans hbase q.size)
  exact ⟨u, w', hr, q.more g, by obtain ⟨a, c, e, _⟩ := own_val g.ou; exact ⟨_, _, _, e⟩⟩
theorem Mq.app2 {l : List Value} (h : Mq base m W v n w l) (hn : n ≤ 4000000) (hbase : base ≤ W.heap.size) : ∃ u w', (Builtin.append_ #[25, 25] 25 #[v, .slice (some ⟨w.heap.size, 0, none⟩) 2 2]).run Try.prog (w.alloc (.cells #[.int .u8 m, .int .u8 m] 5)) = .ok u w' ∧ Mq base m W v n w' (l ++ [u]) ∧ ∃ a k c, u = .slice a k c := by
  have q := h.up ((Up.refl w).alloc (.cells #[.int .u8 m, .int .u8 m] 5))
  obtain ⟨u, w', hr, g⟩ := (Gn.start q.ov).step (j := 2) (c := 2) (repB_two w m) (by decide) (by omega) (Nat.le_trans hbase q.size)
  exact ⟨u, w', hr, q.more g, by obtain ⟨a, c, e, _⟩ := own_val g.ou; exact ⟨_, _, _, e⟩⟩
theorem cell_four (w : World) (a b c d : Value) (ty : TypeId) : ∀ j u, ([a, b, c, d] : List Value)[j]? = some u → (w.alloc (.cells #[a, b, c, d] ty)).cell? ((⟨w.heap.size, 0, none⟩ : Addr).add j) = some u := by
  intro j u h
  rw [Addr.add_lit]
  match j, h with
  | 0, h => simp at h; subst h; exact heap_cell (heap_alloc_new w _) rfl
  | 1, h => simp at h; subst h; exact heap_cell (heap_alloc_new w _) rfl
  | 2, h => simp at h; subst h; exact heap_cell (heap_alloc_new w _) rfl
  | 3, h => simp at h; subst h; exact heap_cell (heap_alloc_new w _) rfl
/-- the book behind four lists more, whose marks are not there yet -/
structure Bh (S : Nat → Prop) (base pb : Nat) (W : World) (v : Value) (L : Bd) (m : Int) (l : List Value) (lv' : Value) (w : World) : Prop where
  old : Bl S base pb W L
  bv : ∀ b, v.ownBlock = some b → base ≤ b ∧ b < W.heap.size ∧ ¬ S b
  blk : w.heap[pb]? = some (.cells #[L.x0, L.x1, lv', L.mv, L.hv, L.wv] 28 (0, 0))
  lo : w.ownsRow base 25 1 lv' (L.es.length + 4) (L.es ++ l)
  len : l.length = 4
  ll : lv'.ownBlock = L.lv.ownBlock ∨ ∃ b, W.heap.size ≤ b ∧ b < w.heap.size ∧ lv'.ownBlock = some b
  ch : FK (KxB S v pb) W w
  keep : ∀ b, S b → L.lv.ownBlock ≠ some b → w.heap[b]? = W.heap[b]?
  rd : ∀ e ∈ l, (∃ k, RdM m w e k) ∧ lv'.ownBlock ≠ e.ownBlock ∧ (e.ownBlock = v.ownBlock ∨ ∃ b, W.heap.size ≤ b ∧ b < w.heap.size ∧ e.ownBlock = some b)
theorem Bl.puts {a c d : Value} (h : Bl S base pb W L) (q : Mq base m W v n w [v, a, c, d]) (hv : ∀ b, v.ownBlock = some b → base ≤ b ∧ b < W.heap.size ∧ ¬ S b) (hN : L.es.length ≤ 20000000)
    (hone : ∀ u ∈ [v, a, c, d], u.oneCell' = true) :
    ∃ lv' w', (Builtin.append_ #[26, 26] 26 #[L.lv, .slice (some ⟨w.heap.size, 0, none⟩) 4 4]).run Try.prog (w.alloc (.cells #[v, a, c, d] 25)) = .ok lv' w' ∧ (∃ x, w'.cell? ⟨pb, 2, none⟩ = some x) ∧ w'.frozen? ⟨pb, 2, none⟩ = false ∧ (∃ a k c, lv' = .slice a k c) ∧ Bh S base pb W v L m [v, a, c, d] lv' (w'.setCell ⟨pb, 2, none⟩ lv') := by
  have h3 := h.keep (K := fun b => v.ownBlock ≠ some b) ⟨q.os, q.output, q.size, q.block⟩ (fun e => by have := (hv _ e).1; have := h.bp; omega) (fun b hb e => (hv b e).2.2 hb)
  have h4 := h3.up ((Up.refl w).alloc (.cells #[v, a, c, d] 25))
  have sz : (w.alloc (.cells #[v, a, c, d] 25)).heap.size = w.heap.size + 1 := alloc_size' _ _
  obtain ⟨lv', w2, hr, ho, hg, _, hb⟩ := run_append_own_at (P := Try.prog) (w.alloc (.cells #[v, a, c, d] 25)) base 26 26 25 Try.t25 (.slice none 0 0) 1 24 Try.underlying26 (by kernel_rfl) (by kernel_rfl) (by kernel_rfl) (by kernel_rfl) rfl (by decide) L.lv L.es.length L.es h4.lo ⟨w.heap.size, 0, none⟩ 4 4 [v, a, c, d] rfl (cell_four w v a c d _) hone (by unfold maxLen; omega) (by omega) h4.bs
  have hS : ∀ b, L.lv.ownBlock = some b → S b := h.ls
  have hpl : some pb ≠ L.lv.ownBlock := fun e => by have := (h.sb pb (hS pb e.symm)).1; have := h.bp; omega
  have b2 : w2.heap[pb]? = some (.cells #[L.x0, L.x1, L.lv, L.mv, L.hv, L.wv] 28 (0, 0)) := (hg.block pb h4.pl hpl).trans h4.blk
  have b3 := heap_setCell_same w2 pb 2 _ _ lv' b2
  have zz : (w2.setCell ⟨pb, 2, none⟩ lv').heap.size = w2.heap.size := by simp
  have hlt : ∀ b, lv'.ownBlock = some b → base ≤ b ∧ b < w2.heap.size := fun b e => ho.lt b e
  have hsome : lv'.ownBlock ≠ none := fun e => by
    rcases own_cases ho with ⟨_, hn, _⟩ | ⟨g, cap, _, _, _, _, h4⟩
    · omega
    · rw [h4] at e; cases e
  have st : ∀ b, b < w.heap.size → b ≠ pb → L.lv.ownBlock ≠ some b → (w2.setCell ⟨pb, 2, none⟩ lv').heap[b]? = w.heap[b]? := fun b b1 b2 b3 => by
    refine (Below.heap_setCell w2 ⟨pb, 2, none⟩ lv' b b2).trans ((hg.block b (by omega) (fun e => b3 e.symm)).trans ?_)
    exact ((Up.refl w).alloc _).block b b1
  have qs := q.size
  refine ⟨lv', w2, hr, ⟨_, heap_cell b2 rfl⟩, heap_fz b2, own_slice3 ho, h, hv, b3, own_keep ho (fun g hg2 => Below.heap_setCell w2 ⟨pb, 2, none⟩ lv' g (by have := (hlt g hg2).1; have := h.bp; show g ≠ pb; omega)), rfl, ?_, ⟨hg.os.trans q.os, hg.output.trans q.output, ?_, ?_⟩, ?_, ?_⟩
  · refine hb.imp id fun e => ⟨_, ?_, ?_, e⟩
    · omega
    · rw [zz]; exact (hlt _ e).2
  · rw [zz]; have := hg.size; omega
  · intro b hb2 ⟨k1, k2, k3⟩
    exact (st b (by omega) k3 (fun e => k1 (hS b e))).trans (q.block b hb2 k2)
  · intro b hb2 hb3
    have hb4 := h.sb b hb2
    exact (st b (by omega) (by have := h.bp; omega) hb3).trans (q.block b hb4.2 (fun e => (hv b e).2.2 hb2))
  · intro e he
    obtain ⟨⟨k, h1⟩, h2⟩ := q.rd e he
    have hgb : ∀ g, e.ownBlock = some g → g < w.heap.size ∧ base ≤ g ∧ L.lv.ownBlock ≠ some g := fun g hg => by
      rcases h2 with e2 | ⟨b, e1, e2, e3⟩
      · rw [e2] at hg
        have := hv g hg
        exact ⟨by omega, this.1, fun e => this.2.2 (hS g e)⟩
      · rw [e3] at hg
        injection hg with hg
        subst hg
        exact ⟨e2, Nat.le_trans h.bs e1, fun e => by have := (h.sb b (hS b e)).2; omega⟩
    refine ⟨⟨k, h1.keep fun g hg => st g (hgb g hg).1 (by have := (hgb g hg).2.1; have := h.bp; omega) (hgb g hg).2.2⟩, fun e2 => ?_, h2.imp id fun ⟨b, e1, e2, e3⟩ => ⟨b, e1, by rw [zz]; have := hg.size; omega, e3⟩⟩
    rcases hb with hb | hb
    · rw [hb] at e2
      rcases hx : e.ownBlock with _ | g
      · rw [hb, e2, hx] at hsome; exact hsome rfl
      · exact (hgb g hx).2.2 (e2.trans hx)
    · rw [hb] at e2
      have := (hgb _ e2.symm).1
      omega
theorem Bh.marks {l : List Value} {lv' : Value} (h : Bh S base pb W v L m l lv' w) (hN : L.es.length ≤ 20000000) :
    ∃ mv' w', (Builtin.append_ #[25, 25] 25 #[L.mv, .slice (some ⟨w.heap.size, 0, none⟩) 4 4]).run Try.prog (w.alloc (.cells #[.int .u8 m, .int .u8 m, .int .u8 m, .int .u8 m] 5)) = .ok mv' w' ∧ (∃ x, w'.cell? ⟨pb, 3, none⟩ = some x) ∧ w'.frozen? ⟨pb, 3, none⟩ = false ∧ (∃ a k c, mv' = .slice a k c) ∧ Mrk S base pb W v L (w'.setCell ⟨pb, 3, none⟩ mv') := by
  have H := h.old
  have sz : (w.alloc (.cells #[.int .u8 m, .int .u8 m, .int .u8 m, .int .u8 m] 5)).heap.size = w.heap.size + 1 := alloc_size' _ _
  have m1 : w.ownsRow base 5 1 L.mv L.es.length L.ms := own_keep H.mo fun g hg => h.keep g (H.mS g hg).1 (H.mS g hg).2
  have m2 := ownsRow_up m1 ((Up.refl w).alloc (.cells #[.int .u8 m, .int .u8 m, .int .u8 m, .int .u8 m] 5))
  have wsz := h.ch.size
  obtain ⟨mv', w2, hr, ho, hg, _, hb⟩ := run_append_own_at (P := Try.prog) (w.alloc (.cells #[.int .u8 m, .int .u8 m, .int .u8 m, .int .u8 m] 5)) base 25 25 5 Try.t5 (.int .u8 0) 1 1 Try.underlying25 (by kernel_rfl) (by kernel_rfl) (by kernel_rfl) (by kernel_rfl) rfl (by decide) L.mv L.es.length L.ms m2 ⟨w.heap.size, 0, none⟩ 4 4 [.int .u8 m, .int .u8 m, .int .u8 m, .int .u8 m] rfl (cell_four w _ _ _ _ _) (by intro u hu; simp at hu; subst hu; rfl) (by unfold maxLen; omega) (by omega) (by have := H.bs; omega)
  have hpm : some pb ≠ L.mv.ownBlock := fun e => by have := (H.sb pb (H.mS pb e.symm).1).1; have := H.bp; omega
  have pl := heap_at h.blk
  have b2 : w2.heap[pb]? = some (.cells #[L.x0, L.x1, lv', L.mv, L.hv, L.wv] 28 (0, 0)) := (hg.block pb (by omega) hpm).trans ((((Up.refl w).alloc _).block pb pl).trans h.blk)
  have b3 := heap_setCell_same w2 pb 3 _ _ mv' b2
  have zz : (w2.setCell ⟨pb, 3, none⟩ mv').heap.size = w2.heap.size := by simp
  have gs := hg.size
  have hlt : ∀ b, mv'.ownBlock = some b → base ≤ b ∧ b < w2.heap.size := fun b e => ho.lt b e
  have st : ∀ b, b < w.heap.size → b ≠ pb → L.mv.ownBlock ≠ some b → (w2.setCell ⟨pb, 3, none⟩ mv').heap[b]? = w.heap[b]? := fun b b1 b2 b3 =>
    (Below.heap_setCell w2 ⟨pb, 3, none⟩ mv' b b2).trans ((hg.block b (by omega) (fun e => b3 e.symm)).trans (((Up.refl w).alloc _).block b b1))
  have hp := H.bp
  have hbs := H.bs
  have llt : ∀ b, lv'.ownBlock = some b → base ≤ b ∧ b < w.heap.size ∧ (S b ∨ W.heap.size ≤ b) ∧ L.mv.ownBlock ≠ some b := fun b e => by
    refine ⟨(h.lo.lt b e).1, (h.lo.lt b e).2, ?_⟩
    rcases h.ll with e2 | ⟨b', e1, e2, e3⟩
    · rw [e2] at e
      exact ⟨Or.inl (H.ls b e), fun e3 => (H.mS b e3).2 e⟩
    · rw [e3] at e
      injection e with e
      subst e
      exact ⟨Or.inr e1, fun e3 => by have := (H.sb _ (H.mS _ e3).1).2; omega⟩
  have sS : ∀ b, S b → b < W.heap.size := fun b hb => (H.sb b hb).2
  have lvm : ∀ b, mv'.ownBlock = some b → lv'.ownBlock ≠ some b := fun b e e2 => by
    have q := llt b e2
    rcases hb with hb | hb
    · exact q.2.2.2 (hb.symm.trans e)
    · rw [hb] at e
      injection e with e
      omega
  refine ⟨mv', w2, hr, ⟨_, heap_cell b2 rfl⟩, heap_fz b2, own_slice3 ho, ⟨⟨{ L with lv := lv', mv := mv', es := L.es ++ l, ms := L.ms ++ [.int .u8 m, .int .u8 m, .int .u8 m, .int .u8 m] }, ⟨b3, hp, by rw [zz]; omega, ?_, ?_, ?_, ?_, ?_, ?_, ?_⟩, by rw [List.length_append, h.len], rfl, rfl, rfl, rfl⟩, ⟨hg.os.trans h.ch.os, hg.output.trans h.ch.output, by rw [zz]; omega, ?_⟩⟩⟩
  · intro b hb2
    rw [zz]
    rcases hb2 with q | q | q
    · have := H.sb b q; omega
    · have := h.bv b q; omega
    · rw [zz] at q; omega
  · show (L.ms ++ _).length = (L.es ++ l).length
    rw [List.length_append, List.length_append, h.len, H.len]
    rfl
  · show World.ownsRow _ base _ 1 lv' (L.es ++ l).length (L.es ++ l)
    rw [List.length_append, h.len]
    exact own_keep h.lo fun g hg => st g (llt g hg).2.1 (by have := (llt g hg).1; omega) (llt g hg).2.2.2
  · show World.ownsRow _ base _ 1 mv' (L.es ++ l).length _
    rw [List.length_append, h.len]
    exact own_keep ho fun g hg => Below.heap_setCell w2 ⟨pb, 3, none⟩ mv' g (by have := (hlt g hg).1; show g ≠ pb; omega)
  · intro b e
    have q := llt b e
    rcases q.2.2.1 with q2 | q2
    · exact Or.inl q2
    · exact Or.inr (Or.inr ⟨q2, by rw [zz]; omega⟩)
  · intro b e
    refine ⟨?_, lvm b e⟩
    rcases hb with hb | hb
    · exact Or.inl (H.mS b (hb.symm.trans e)).1
    · have := (hlt b e).2
      rw [hb] at e
      injection e with e
      exact Or.inr (Or.inr ⟨by omega, by rw [zz]; omega⟩)
  · intro i e x he hx
    have mvS : ∀ b, L.mv.ownBlock = some b → S b := fun b hb => (H.mS b hb).1
    by_cases hi : i < L.es.length
    · have he : (L.es ++ l)[i]? = some e := he
      have hx : (L.ms ++ _)[i]? = some x := hx
      rw [List.getElem?_append_left hi] at he
      rw [List.getElem?_append_left (by rw [H.len]; exact hi)] at hx
      obtain ⟨k, n, e1, e2, e3⟩ := H.en i e x he hx
      refine ⟨k, n, e1, e2.keep fun g hg => ?_, fun b hb => ?_⟩
      · obtain ⟨g1, g2, g3⟩ := e3 g hg
        have := H.sb g g1
        exact (st g (by omega) (by omega) g3).trans (h.keep g g1 g2)
      · obtain ⟨g1, g2, g3⟩ := e3 b hb
        have := sS b g1
        refine ⟨Or.inl g1, fun e => ?_, fun e => ?_⟩
        · have e : lv'.ownBlock = some b := e
          rcases h.ll with q | ⟨b', q1, q2, q3⟩
          · exact g2 (q.symm.trans e)
          · rw [q3] at e; injection e with e; omega
        · have e : mv'.ownBlock = some b := e
          rcases ‹mv'.ownBlock = L.mv.ownBlock ∨ _› with q | q
          · exact g3 (q.symm.trans e)
          · rw [q] at e; injection e with e; omega
    · have he : (L.es ++ l)[i]? = some e := he
      have hx : (L.ms ++ _)[i]? = some x := hx
      rw [List.getElem?_append_right (by omega)] at he
      rw [List.getElem?_append_right (by rw [H.len]; omega)] at hx
      have hx1 : x = .int .u8 m := by
        have := List.mem_of_getElem? hx
        simp at this
        exact this
      obtain ⟨⟨k, e1⟩, e2, e3⟩ := h.rd e (List.mem_of_getElem? he)
      have hgb : ∀ g, e.ownBlock = some g → g < w.heap.size ∧ base ≤ g ∧ ¬ S g ∧ (v.ownBlock = some g ∨ W.heap.size ≤ g) := fun g hg => by
        rcases e3 with q | ⟨b, q1, q2, q3⟩
        · rw [q] at hg
          have := h.bv g hg
          exact ⟨by omega, this.1, this.2.2, Or.inl hg⟩
        · rw [q3] at hg
          injection hg with hg
          subst hg
          exact ⟨q2, by omega, fun e => by have := sS _ e; omega, Or.inr q1⟩
      refine ⟨m, k, hx1, e1.keep fun g hg => st g (hgb g hg).1 (by have := (hgb g hg).2.1; omega) (fun e => (hgb g hg).2.2.1 (mvS g e)), fun b hb2 => ⟨?_, fun e => e2 (Eq.trans e hb2.symm), fun e => ?_⟩⟩
      · obtain ⟨q1, q2, q3, q4⟩ := hgb b hb2
        rcases q4 with q4 | q4
        · exact Or.inr (Or.inl q4)
        · exact Or.inr (Or.inr ⟨q4, by rw [zz]; omega⟩)
      · have e : mv'.ownBlock = some b := e
        obtain ⟨q1, q2, q3, q4⟩ := hgb b hb2
        rcases hb with q | q
        · exact q3 (mvS b (q.symm.trans e))
        · rw [q] at e; injection e with e; omega
  · intro b hb2 ⟨k1, k2, k3⟩
    exact (st b (by omega) k3 (fun e => k1 (H.mS b e).1)).trans (h.ch.block b hb2 ⟨k1, k2, k3⟩)
set_option maxRecDepth 100000 in
set_option maxHeartbeats 2000000 in
theorem markedB_any {xs : List Value} (h : Bl S base pb W L) (hv : W.ownsRow base 5 1 v n xs) (hn : n ≤ 4000000) (hS : ∀ b, v.ownBlock = some b → ¬ S b) (hN : L.es.length ≤ 20000000) : Calls Try.prog 38 #[.pointer (some ⟨pb, 0, none⟩), v] W fun e w' => e = .returned (.tuple #[]) ∧ Mrk S base pb W v L w' := by
  obtain ⟨va, vc, rfl, hc, hm⟩ : ∃ a c, v = .slice a n c ∧ n ≤ c ∧ c ≤ maxLen := by
    rcases own_cases hv with ⟨rfl, rfl, _⟩ | ⟨g, cap, rfl, h1, h2, _⟩
    · exact ⟨none, 0, rfl, Nat.le_refl _, Nat.zero_le _⟩
    · exact ⟨_, cap, rfl, h1, h2⟩
  obtain ⟨ma, mc, hmv, mc1, mc2⟩ : ∃ a c, L.mv = .slice a L.es.length c ∧ L.es.length ≤ c ∧ c ≤ maxLen := by
    rcases own_cases h.mo with ⟨e, e2, _⟩ | ⟨g, cap, e, h1, h2, _⟩
    · exact ⟨none, 0, by rw [e, e2], by omega, Nat.zero_le _⟩
    · exact ⟨_, cap, e, h1, h2⟩
  have km : W.cell? ⟨pb, 3, none⟩ = some (.slice ma L.es.length mc) := by rw [← hmv]; exact heap_cell h.blk rfl
  have HL : Hid (Bl S base pb W L) := h
  have HV : Hid (W.ownsRow base 5 1 (.slice va n vc) n xs) := hv
  generalize hNN : L.es.length = N at *
  have c9 : vc ≤ 9223372036854775807 := by unfold maxLen at hm; omega
  have m9 : mc ≤ 9223372036854775807 := by unfold maxLen at mc2; omega
  clear h hv
  go_enter Try.func38, Try.ntmps38
  go_wp2_with fail
  generalize hM : ((N : Int) * 37 + 11) % 256 = M
  have hbs : base ≤ W.heap.size := HL.out.bs
  go_loopw [5] (fun I wr => ∃ i : Nat, i ≤ n ∧ I = .int .i64 (i : Int) ∧ Hid (Mkg base M W (.slice va n vc) n xs i wr)) (fun I _ => n - (intOf I).toNat)
  case atStart => exact ⟨0, Nat.zero_le _, rfl, Mkg.start HV.out⟩
  case round =>
    obtain ⟨i, hi, rfl, M0⟩ := hrel
    by_cases hlt : i < n
    · have e1 : (i : Int) < (n : Int) := by omega
      obtain ⟨g, c, e2, c1, c2, ⟨x, kx⟩, kf, hs⟩ := M0.out.step hlt
      injection e2 with e2 _ e3
      have HS : Hid _ := hs
      clear M0 hs HV HL
      subst e2 e3
      go_wp2_with fail
      go_round
      case rel => exact ⟨i + 1, by omega, by go_num, HS⟩
      case measure => simp [intOf]; omega
    · have e1 : ¬ (i : Int) < (n : Int) := by omega
      obtain rfl : i = n := by omega
      have HQ : Hid _ := M0.out.done
      clear M0
      obtain ⟨u1, w1, r1, q1, a1, k1, c1, rfl⟩ := HQ.out.app1 hn hbs
      have HR1 : Hid _ := r1
      obtain ⟨u2, w2, r2, q2, a2, k2, c2, rfl⟩ := q1.app2 hn hbs
      have HR2 : Hid _ := r2
      have HQ2 : Hid _ := q2
      clear r1 r2 q1 q2 HQ
      go_wp2_with (first | (at_builtin; refine Lib.wpList_append_run _ rfl _ _ _ _ rfl _ _ rfl rfl _ _ HR1.out ?_; clear HR1) | (at_builtin; refine Lib.wpList_append_run _ rfl _ _ _ _ rfl _ _ rfl rfl _ _ HR2.out ?_; clear HR2))
      refine Calls.mono (grown_any HQ2.out.ov hn (Nat.le_trans hbs HQ2.out.size)) ?_
      rintro e w3 ⟨u3, rfl, g3⟩
      obtain ⟨a3, c3, rfl, _, _⟩ := own_val g3.ou
      have HQ3 : Hid _ := HQ2.out.more g3
      clear g3 HQ2
      obtain ⟨lv', w5, r5, ⟨x5, kx5⟩, kf5, ⟨a5, k5, c5, rfl⟩, hb5⟩ := HL.out.puts HQ3.out (fun b hb => ⟨(HV.out.lt b hb).1, (HV.out.lt b hb).2, hS b hb⟩) (by omega) (by intro u hu; simp at hu; rcases hu with rfl | rfl | rfl | rfl <;> rfl)
      have HR5 : Hid _ := r5
      obtain ⟨mv', w7, r7, ⟨x7, kx7⟩, kf7, ⟨a7, k7, c7, rfl⟩, hb7⟩ := hb5.marks (by omega)
      have HR7 : Hid _ := r7
      have HF : Hid _ := hb7
      obtain ⟨la, ln, lc, hlv⟩ := own_slice3 HL.out.lo
      have hb3 := HL.out.keep (K := fun b => (Value.slice va i vc).ownBlock ≠ some b) ⟨HQ3.out.os, HQ3.out.output, HQ3.out.size, HQ3.out.block⟩ (fun e => by have := (HV.out.lt _ e).1; have := HL.out.bp; omega) (fun b hb e => hS b e hb)
      have kl : w3.cell? ⟨pb, 2, none⟩ = some (.slice la ln lc) := by rw [← hlv]; exact heap_cell hb3.blk rfl
      rw [hlv] at HR5
      have km5 : (w5.setCell ⟨pb, 2, none⟩ (.slice a5 k5 c5)).cell? ⟨pb, 3, none⟩ = some (.slice ma N mc) := by rw [← hmv]; exact heap_cell hb5.blk rfl
      rw [hmv] at HR7
      clear r5 r7 hb5 hb7 hb3 hlv hmv km HQ3 HV HL
      go_upto_region 9 with (at_builtin; refine Lib.wpList_append_run _ rfl _ _ _ _ rfl _ _ rfl rfl _ _ HR5.out ?_; clear HR5)
      generalize hwE : World.setCell w5 _ _ = wE at km5 HR7 kx7 kf7 ⊢
      go_wp2_with (at_builtin; refine Lib.wpList_append_run _ rfl _ _ _ _ rfl _ _ rfl rfl _ _ HR7.out ?_; clear HR7)
      refine bodyPost_end (results_none rfl _ _ _) rfl ?_
      exact ⟨rfl, HF.out⟩
end Go.Proofs.Ytekffilokdmfgaa
