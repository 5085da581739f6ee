import Derived.Test.YtojlappgmckokaaDoorXmF
import Derived.Deep.Cut
import Derived.Laws.OwnMore
import Derived.Test.YtojlappgmckokaaDoorXmB
import Derived.Test.YtojlappgmckokaaDoorCbE
/- Cart: the law's book of lists that came out. -/
namespace Go.Proofs.YtojlappgmckokaaDoor
open Go.Shelf Go.RowKit
set_option linter.unusedVariables false
set_option linter.unusedSimpArgs false
variable {w w' W : World} {base pb n : Nat} {S K : Nat → Prop} {m : Int} {v u : Value}
theorem RdM.keep (h : RdM m w v n) (hk : ∀ g, v.ownBlock = some g → w'.heap[g]? = w.heap[g]?) : RdM m w' v n := by
  obtain ⟨a, c, rfl, h1, h2, h3⟩ := h
  refine ⟨a, c, rfl, h1, h2, fun h0 => ?_⟩
  obtain ⟨g, o, rfl, h4⟩ := h3 h0
  refine ⟨g, o, rfl, fun k hk' => ?_⟩
  have e : w'.heap[g]? = w.heap[g]? := hk g rfl
  unfold World.cell?
  rw [show (w'.heap[(⟨g, o + k, none⟩ : Addr).block]?) = w.heap[(⟨g, o + k, none⟩ : Addr).block]? from e]
  exact h4 k hk'
theorem rdM_own (h : w.ownsRow base 5 1 v n (rep m n)) : RdM m w v n := by
  rcases own_cases h with ⟨rfl, rfl, _⟩ | ⟨g, cap, rfl, h1, h2, h3, h4⟩
  · exact ⟨none, 0, rfl, Nat.le_refl _, Nat.zero_le _, fun h0 => absurd h0 (Nat.lt_irrefl _)⟩
  · refine ⟨_, cap, rfl, h1, h2, fun h0 => ⟨g, 0, rfl, fun k hk => ?_⟩⟩
    have := own_cell h k (by omega)
    rw [this]
    unfold rep
    rw [List.getElem?_replicate, if_pos hk]
/-- the book: its cells, its lists, their marks -/
structure Bd where
  x0 : Value
  x1 : Value
  x2 : Value
  lv : Value
  mv : Value
  hv : Value
  wv : Value
  es : List Value
  ms : List Value
/-- nothing that the book holds is written by others: all of it lies in S -/
structure Bl (S : Nat → Prop) (base pb : Nat) (w : World) (L : Bd) : Prop where
  blk : w.heap[pb]? = some (.cells #[L.x0, L.x1, L.x2, L.lv, L.mv, L.hv, L.wv] 65 (0, 0))
  bp : pb < base
  bs : base ≤ w.heap.size
  sb : ∀ b, S b → base ≤ b ∧ b < w.heap.size
  len : L.ms.length = L.es.length
  lo : w.ownsRow base 24 1 L.lv L.es.length L.es
  mo : w.ownsRow base 5 1 L.mv L.es.length L.ms
  ls : ∀ b, L.lv.ownBlock = some b → S b
  mS : ∀ b, L.mv.ownBlock = some b → S b ∧ L.lv.ownBlock ≠ some b
  en : ∀ (i : Nat) (e m : Value), L.es[i]? = some e → L.ms[i]? = some m → ∃ (k : Int) (n : Nat), m = .int .u8 k ∧ RdM k w e n ∧ ∀ b, e.ownBlock = some b → S b ∧ L.lv.ownBlock ≠ some b ∧ L.mv.ownBlock ≠ some b
variable {L : Bd}
theorem Bl.pl (h : Bl S base pb w L) : pb < w.heap.size := heap_at h.blk
theorem Bl.keep (h : Bl S base pb w L) (f : FK K w w') (hp : K pb) (hK : ∀ b, S b → K b) : Bl S base pb w' L := by
  have q : ∀ b, S b → w'.heap[b]? = w.heap[b]? := fun b hb => f.block b (h.sb b hb).2 (hK b hb)
  refine ⟨(f.block pb h.pl hp).trans h.blk, h.bp, Nat.le_trans h.bs f.size, fun b hb => ⟨(h.sb b hb).1, Nat.lt_of_lt_of_le (h.sb b hb).2 f.size⟩, h.len, own_keep h.lo fun g hg => q g (h.ls g hg), own_keep h.mo fun g hg => q g (h.mS g hg).1, h.ls, h.mS, fun i e m he hm => ?_⟩
  obtain ⟨k, n, h1, h2, h3⟩ := h.en i e m he hm
  exact ⟨k, n, h1, h2.keep fun g hg => q g (h3 g hg).1, h3⟩
theorem Bl.up (h : Bl S base pb w L) (f : Up w w') : Bl S base pb w' L := h.keep (K := fun _ => True) (FK.ofUp f) trivial (fun _ _ => trivial)
theorem Bl.wide {S' : Nat → Prop} (h : Bl S base pb w L) (hS : ∀ b, S b → S' b) (hb : ∀ b, S' b → base ≤ b ∧ b < w.heap.size) : Bl S' base pb w L :=
  ⟨h.blk, h.bp, h.bs, hb, h.len, h.lo, h.mo, fun b q => hS b (h.ls b q), fun b q => ⟨hS b (h.mS b q).1, (h.mS b q).2⟩, fun i e m he hm => by obtain ⟨k, n, h1, h2, h3⟩ := h.en i e m he hm; exact ⟨k, n, h1, h2, fun b hb => ⟨hS b (h3 b hb).1, (h3 b hb).2⟩⟩⟩
/-- a marked list, those grown from it, and all else as it was -/
structure Mq (base : Nat) (m : Int) (W : World) (v : Value) (n : Nat) (w : World) (l : List Value) : Prop where
  ov : w.ownsRow base 5 1 v n (rep m n)
  os : w.os = W.os
  output : w.output = W.output
  size : W.heap.size ≤ w.heap.size
  block : ∀ b, b < W.heap.size → v.ownBlock ≠ some b → w.heap[b]? = W.heap[b]?
  rd : ∀ e ∈ l, (∃ k, RdM m w e k) ∧ (e.ownBlock = v.ownBlock ∨ ∃ b, W.heap.size ≤ b ∧ b < w.heap.size ∧ e.ownBlock = some b)
variable {l : List Value}
theorem Mq.start (h : w.ownsRow base 5 1 v n (rep m n)) (os : w.os = W.os) (output : w.output = W.output) (size : W.heap.size ≤ w.heap.size) (block : ∀ b, b < W.heap.size → v.ownBlock ≠ some b → w.heap[b]? = W.heap[b]?) : Mq base m W v n w [v] :=
  ⟨h, os, output, size, block, fun e he => by rw [List.mem_singleton.1 he]; exact ⟨⟨n, rdM_own h⟩, Or.inl rfl⟩⟩
theorem Mq.up (h : Mq base m W v n w l) (f : Up w w') : Mq base m W v n w' l :=
  ⟨ownsRow_up h.ov f, f.os.trans h.os, f.output.trans h.output, Nat.le_trans h.size f.size, fun b hb hv => (f.block b (Nat.lt_of_lt_of_le hb h.size)).trans (h.block b hb hv), fun e he => by
    obtain ⟨⟨k, h1⟩, h2⟩ := h.rd e he
    refine ⟨⟨k, h1.up f⟩, h2.imp id fun ⟨b, b1, b2, b3⟩ => ⟨b, b1, Nat.lt_of_lt_of_le b2 f.size, b3⟩⟩⟩
theorem Mq.more {k : Nat} (h : Mq base m W v n w l) (g : Gn base m w v n k u w') : Mq base m W v n w' (l ++ [u]) := by
  refine ⟨g.ov, g.os.trans h.os, g.output.trans h.output, Nat.le_trans h.size g.size, fun b hb hv => (g.block b (Nat.lt_of_lt_of_le hb h.size) hv).trans (h.block b hb hv), fun e he => ?_⟩
  rcases List.mem_append.1 he with he | he
  · obtain ⟨⟨k', h1⟩, h2⟩ := h.rd e he
    exact ⟨⟨k', g.rd _ _ h1⟩, h2.imp id fun ⟨b, b1, b2, b3⟩ => ⟨b, b1, Nat.lt_of_lt_of_le b2 g.size, b3⟩⟩
  · rw [List.mem_singleton.1 he]
    refine ⟨⟨n + k, rdM_own g.ou⟩, g.loc.imp id fun ⟨b, b1, b2⟩ => ⟨b, Nat.le_trans h.size b1, (g.ou.lt b b2).2, b2⟩⟩
/-- the set that the book holds behind a list more -/
def Sx (S : Nat → Prop) (v : Value) (W w : World) : Nat → Prop := fun b => S b ∨ v.ownBlock = some b ∨ (W.heap.size ≤ b ∧ b < w.heap.size)
/-- what a list that was marked changes -/
def KxB (S : Nat → Prop) (v : Value) (pb : Nat) : Nat → Prop := fun b => ¬ S b ∧ v.ownBlock ≠ some b ∧ b ≠ pb
end Go.Proofs.YtojlappgmckokaaDoor
/- Cart: the law's marked. -/
namespace Go.Proofs.YtojlappgmckokaaDoor
open Go.Shelf Go.RowKit
set_option linter.unusedVariables false
set_option linter.unusedSimpArgs false
variable {w w' W : World} {base pb n : Nat} {S K : Nat → Prop} {m : Int} {v u : Value} {L : Bd}
/-- while a list is being marked -/
structure Mkg (base : Nat) (m : Int) (W : World) (v : Value) (n : Nat) (xs : List Value) (i : Nat) (w : World) : Prop where
  ov : w.ownsRow base 5 1 v n (rep m i ++ xs.drop i)
  os : w.os = W.os
  output : w.output = W.output
  size : w.heap.size = W.heap.size
  block : ∀ b, b < W.heap.size → v.ownBlock ≠ some b → w.heap[b]? = W.heap[b]?
theorem Mkg.start {xs : List Value} (h : W.ownsRow base 5 1 v n xs) : Mkg base m W v n xs 0 W := ⟨by simpa [rep] using h, rfl, rfl, rfl, fun _ _ _ => rfl⟩
theorem Mkg.drew {xs : List Value} {i k : Nat} (h : Mkg base m W v n xs i w) : Mkg base m W v n xs i (w.drewN k) := ⟨ownsRow_up h.ov (Up.drewN w k), h.os, h.output, h.size, h.block⟩
theorem Mkg.step {xs : List Value} {i : Nat} (h : Mkg base m W v n xs i w) (hi : i < n) : ∃ g c, v = .slice (some ⟨g, 0, none⟩) n c ∧ n ≤ c ∧ c ≤ maxLen ∧ (∃ x, w.cell? ⟨g, i, none⟩ = some x) ∧ w.frozen? ⟨g, i, none⟩ = false ∧ Mkg base m W v n xs (i + 1) (w.setCell ⟨g, i, none⟩ (.int .u8 m)) := by
  have hx : xs.length = n := by
    have := h.ov.1
    simp [rep] at this
    omega
  rcases own_cases h.ov with ⟨_, hn, _⟩ | ⟨g, cap, rfl, h1, h2, h3, h4⟩
  · omega
  obtain ⟨cur, hg, hb, hc, hm, hs, ht⟩ := own_open h.ov
  refine ⟨g, cap, rfl, h1, h2, ⟨cur[i]'(by omega), heap_cell hg (Array.getElem?_eq_getElem (by omega))⟩, heap_fz hg, own_of (heap_setCell_same w g i _ _ _ hg) hb hc hm (by rw [Array.size_setIfInBounds]; exact hs) (by simp [rep]; omega) (fun t ht2 => ?_), h.os, h.output, by simpa using h.size, fun b hb hv => (Below.heap_setCell _ _ _ _ (fun e => hv (by rw [h4]; exact congrArg some e.symm))).trans (h.block b hb hv)⟩
  rw [Array.getElem?_setIfInBounds]
  by_cases e : i = t
  · subst e
    rw [if_pos rfl, if_pos (by omega), List.getElem?_append_left (by simp [rep])]
    unfold rep
    rw [List.getElem?_replicate, if_pos (by omega)]
  · rw [if_neg e, own_at ht.1 t ht2]
    unfold rep
    by_cases e2 : t < i
    · rw [List.getElem?_append_left (by simp; omega), List.getElem?_append_left (by simp; omega), List.getElem?_replicate, List.getElem?_replicate, if_pos e2, if_pos (by omega)]
    · rw [List.getElem?_append_right (by simp; omega), List.getElem?_append_right (by simp; omega), List.getElem?_drop, List.getElem?_drop]
      simp only [List.length_replicate]
      congr 1
      omega
theorem Mkg.done {xs : List Value} (h : Mkg base m W v n xs n w) : Mq base m W v n w [v] := by
  have hx : xs.length ≤ n := by
    have := h.ov.1
    simp [rep] at this
    omega
  refine Mq.start ?_ h.os h.output (by rw [h.size]; exact Nat.le_refl _) h.block
  have := h.ov
  rw [List.drop_eq_nil_of_le (by omega), List.append_nil] at this
  exact this
theorem repB_two (w : World) (m : Int) : ∀ i x, (rep m 2)[i]? = some x → (w.alloc (.cells #[.int .u8 m, .int .u8 m] 5)).cell? ((⟨w.heap.size, 0, none⟩ : Addr).add i) = some x := by
  intro j x h
  match j, h with
  | 0, h => simp [rep] at h; subst h; rw [Addr.add_lit]; exact heap_cell (heap_alloc_new w _) rfl
  | 1, h => simp [rep] at h; subst h; rw [Addr.add_lit]; exact heap_cell (heap_alloc_new w _) rfl
  | j + 2, h => simp [rep] at h
/-- what a marked list leaves -/
structure Mrk (S : Nat → Prop) (base pb : Nat) (W : World) (v : Value) (L : Bd) (w : World) : Prop where
  ex : ∃ L', Bl (Sx S v W w) base pb w L' ∧ L'.es.length = L.es.length + 4 ∧ L'.x0 = L.x0 ∧ L'.x1 = L.x1 ∧ L'.x2 = L.x2 ∧ L'.hv = L.hv ∧ L'.wv = L.wv
  ch : FK (KxB S v pb) W w
theorem Mq.app1 {l : List Value} (h : Mq base m W v n w l) (hn : n ≤ 4000000) (hbase : base ≤ W.heap.size) : ∃ u w', (Builtin.append_ #[24, 24] 24 #[v, .slice (some ⟨w.heap.size, 0, none⟩) 1 1]).run Tryd.prog (w.alloc (.cells #[.int .u8 m] 5)) = .ok u w' ∧ Mq base m W v n w' (l ++ [u]) ∧ ∃ a k c, u = .slice a k c := by
  have q := h.up ((Up.refl w).alloc (.cells #[.int .u8 m] 5))
  obtain ⟨u, w', hr, g⟩ := (Gn.start q.ov).step (j := 1) (c := 1) (rep_new w m) (by decide) (by omega) (Nat.le_trans hbase q.size)
  exact ⟨u, w', hr, q.more g, by obtain ⟨a, c, e, _⟩ := own_val g.ou; exact ⟨_, _, _, e⟩⟩
theorem Mq.app2 {l : List Value} (h : Mq base m W v n w l) (hn : n ≤ 4000000) (hbase : base ≤ W.heap.size) : ∃ u w', (Builtin.append_ #[24, 24] 24 #[v, .slice (some ⟨w.heap.size, 0, none⟩) 2 2]).run Tryd.prog (w.alloc (.cells #[.int .u8 m, .int .u8 m] 5)) = .ok u w' ∧ Mq base m W v n w' (l ++ [u]) ∧ ∃ a k c, u = .slice a k c := by
  have q := h.up ((Up.refl w).alloc (.cells #[.int .u8 m, .int .u8 m] 5))
  obtain ⟨u, w', hr, g⟩ := (Gn.start q.ov).step (j := 2) (c := 2) (repB_two w m) (by decide) (by omega) (Nat.le_trans hbase q.size)
  exact ⟨u, w', hr, q.more g, by obtain ⟨a, c, e, _⟩ := own_val g.ou; exact ⟨_, _, _, e⟩⟩
theorem cell_four (w : World) (a b c d : Value) (ty : TypeId) : ∀ j u, ([a, b, c, d] : List Value)[j]? = some u → (w.alloc (.cells #[a, b, c, d] ty)).cell? ((⟨w.heap.size, 0, none⟩ : Addr).add j) = some u := by
  intro j u h
  rw [Addr.add_lit]
  match j, h with
  | 0, h => simp at h; subst h; exact heap_cell (heap_alloc_new w _) rfl
  | 1, h => simp at h; subst h; exact heap_cell (heap_alloc_new w _) rfl
  | 2, h => simp at h; subst h; exact heap_cell (heap_alloc_new w _) rfl
  | 3, h => simp at h; subst h; exact heap_cell (heap_alloc_new w _) rfl
/-- the book behind four lists more, whose marks are not there yet -/
structure Bh (S : Nat → Prop) (base pb : Nat) (W : World) (v : Value) (L : Bd) (m : Int) (l : List Value) (lv' : Value) (w : World) : Prop where
  old : Bl S base pb W L
  bv : ∀ b, v.ownBlock = some b → base ≤ b ∧ b < W.heap.size ∧ ¬ S b
  blk : w.heap[pb]? = some (.cells #[L.x0, L.x1, L.x2, lv', L.mv, L.hv, L.wv] 65 (0, 0))
  lo : w.ownsRow base 24 1 lv' (L.es.length + 4) (L.es ++ l)
  len : l.length = 4
  ll : lv'.ownBlock = L.lv.ownBlock ∨ ∃ b, W.heap.size ≤ b ∧ b < w.heap.size ∧ lv'.ownBlock = some b
  ch : FK (KxB S v pb) W w
  keep : ∀ b, S b → L.lv.ownBlock ≠ some b → w.heap[b]? = W.heap[b]?
  rd : ∀ e ∈ l, (∃ k, RdM m w e k) ∧ lv'.ownBlock ≠ e.ownBlock ∧ (e.ownBlock = v.ownBlock ∨ ∃ b, W.heap.size ≤ b ∧ b < w.heap.size ∧ e.ownBlock = some b)
theorem Bl.puts {a c d : Value} (h : Bl S base pb W L) (q : Mq base m W v n w [v, a, c, d]) (hv : ∀ b, v.ownBlock = some b → base ≤ b ∧ b < W.heap.size ∧ ¬ S b) (hN : L.es.length ≤ 20000000)
    (hone : ∀ u ∈ [v, a, c, d], u.oneCell' = true) :
    ∃ lv' w', (Builtin.append_ #[61, 61] 61 #[L.lv, .slice (some ⟨w.heap.size, 0, none⟩) 4 4]).run Tryd.prog (w.alloc (.cells #[v, a, c, d] 24)) = .ok lv' w' ∧ (∃ x, w'.cell? ⟨pb, 3, none⟩ = some x) ∧ w'.frozen? ⟨pb, 3, none⟩ = false ∧ (∃ a k c, lv' = .slice a k c) ∧ Bh S base pb W v L m [v, a, c, d] lv' (w'.setCell ⟨pb, 3, none⟩ lv') := by
  have h3 := h.keep (K := fun b => v.ownBlock ≠ some b) ⟨q.os, q.output, q.size, q.block⟩ (fun e => by have := (hv _ e).1; have := h.bp; omega) (fun b hb e => (hv b e).2.2 hb)
  have h4 := h3.up ((Up.refl w).alloc (.cells #[v, a, c, d] 24))
  have sz : (w.alloc (.cells #[v, a, c, d] 24)).heap.size = w.heap.size + 1 := alloc_size' _ _
  obtain ⟨lv', w2, hr, ho, hg, _, hb⟩ := run_append_own_at (P := Tryd.prog) (w.alloc (.cells #[v, a, c, d] 24)) base 61 61 24 Tryd.t24 (.slice none 0 0) 1 24 Tryd.underlying61 (by kernel_rfl) (by kernel_rfl) (by kernel_rfl) (by kernel_rfl) rfl (by decide) L.lv L.es.length L.es h4.lo ⟨w.heap.size, 0, none⟩ 4 4 [v, a, c, d] rfl (cell_four w v a c d _) hone (by unfold maxLen; omega) (by omega) h4.bs
  have hS : ∀ b, L.lv.ownBlock = some b → S b := h.ls
  have hpl : some pb ≠ L.lv.ownBlock := fun e => by have := (h.sb pb (hS pb e.symm)).1; have := h.bp; omega
  have b2 : w2.heap[pb]? = some (.cells #[L.x0, L.x1, L.x2, L.lv, L.mv, L.hv, L.wv] 65 (0, 0)) := (hg.block pb h4.pl hpl).trans h4.blk
  have b3 := heap_setCell_same w2 pb 3 _ _ lv' b2
  have zz : (w2.setCell ⟨pb, 3, none⟩ lv').heap.size = w2.heap.size := by simp
  have hlt : ∀ b, lv'.ownBlock = some b → base ≤ b ∧ b < w2.heap.size := fun b e => ho.lt b e
  have hsome : lv'.ownBlock ≠ none := fun e => by
    rcases own_cases ho with ⟨_, hn, _⟩ | ⟨g, cap, _, _, _, _, h4⟩
    · omega
    · rw [h4] at e; cases e
  have st : ∀ b, b < w.heap.size → b ≠ pb → L.lv.ownBlock ≠ some b → (w2.setCell ⟨pb, 3, none⟩ lv').heap[b]? = w.heap[b]? := fun b b1 b2 b3 => by
    refine (Below.heap_setCell w2 ⟨pb, 3, none⟩ lv' b b2).trans ((hg.block b (by omega) (fun e => b3 e.symm)).trans ?_)
    exact ((Up.refl w).alloc _).block b b1
  have qs := q.size
  refine ⟨lv', w2, hr, ⟨_, heap_cell b2 rfl⟩, heap_fz b2, own_slice3 ho, h, hv, b3, own_keep ho (fun g hg2 => Below.heap_setCell w2 ⟨pb, 3, none⟩ lv' g (by have := (hlt g hg2).1; have := h.bp; show g ≠ pb; omega)), rfl, ?_, ⟨hg.os.trans q.os, hg.output.trans q.output, ?_, ?_⟩, ?_, ?_⟩
  · refine hb.imp id fun e => ⟨_, ?_, ?_, e⟩
    · omega
    · rw [zz]; exact (hlt _ e).2
  · rw [zz]; have := hg.size; omega
  · intro b hb2 ⟨k1, k2, k3⟩
    exact (st b (by omega) k3 (fun e => k1 (hS b e))).trans (q.block b hb2 k2)
  · intro b hb2 hb3
    have hb4 := h.sb b hb2
    exact (st b (by omega) (by have := h.bp; omega) hb3).trans (q.block b hb4.2 (fun e => (hv b e).2.2 hb2))
  · intro e he
    obtain ⟨⟨k, h1⟩, h2⟩ := q.rd e he
    have hgb : ∀ g, e.ownBlock = some g → g < w.heap.size ∧ base ≤ g ∧ L.lv.ownBlock ≠ some g := fun g hg => by
      rcases h2 with e2 | ⟨b, e1, e2, e3⟩
      · rw [e2] at hg
        have := hv g hg
        exact ⟨by omega, this.1, fun e => this.2.2 (hS g e)⟩
      · rw [e3] at hg
        injection hg with hg
        subst hg
        exact ⟨e2, Nat.le_trans h.bs e1, fun e => by have := (h.sb b (hS b e)).2; omega⟩
    refine ⟨⟨k, h1.keep fun g hg => st g (hgb g hg).1 (by have := (hgb g hg).2.1; have := h.bp; omega) (hgb g hg).2.2⟩, fun e2 => ?_, h2.imp id fun ⟨b, e1, e2, e3⟩ => ⟨b, e1, by rw [zz]; have := hg.size; omega, e3⟩⟩
    rcases hb with hb | hb
    · rw [hb] at e2
      rcases hx : e.ownBlock with _ | g
      · rw [hb, e2, hx] at hsome; exact hsome rfl
      · exact (hgb g hx).2.2 (e2.trans hx)
    · rw [hb] at e2
      have := (hgb _ e2.symm).1
      omega
theorem Bh.marks {l : List Value} {lv' : Value} (h : Bh S base pb W v L m l lv' w) (hN : L.es.length ≤ 20000000) :
    ∃ mv' w', (Builtin.append_ #[24, 24] 24 #[L.mv, .slice (some ⟨w.heap.size, 0, none⟩) 4 4]).run Tryd.prog (w.alloc (.cells #[.int .u8 m, .int .u8 m, .int .u8 m, .int .u8 m] 5)) = .ok mv' w' ∧ (∃ x, w'.cell? ⟨pb, 4, none⟩ = some x) ∧ w'.frozen? ⟨pb, 4, none⟩ = false ∧ (∃ a k c, mv' = .slice a k c) ∧ Mrk S base pb W v L (w'.setCell ⟨pb, 4, none⟩ mv') := by
  have H := h.old
  have sz : (w.alloc (.cells #[.int .u8 m, .int .u8 m, .int .u8 m, .int .u8 m] 5)).heap.size = w.heap.size + 1 := alloc_size' _ _
  have m1 : w.ownsRow base 5 1 L.mv L.es.length L.ms := own_keep H.mo fun g hg => h.keep g (H.mS g hg).1 (H.mS g hg).2
  have m2 := ownsRow_up m1 ((Up.refl w).alloc (.cells #[.int .u8 m, .int .u8 m, .int .u8 m, .int .u8 m] 5))
  have wsz := h.ch.size
  obtain ⟨mv', w2, hr, ho, hg, _, hb⟩ := run_append_own_at (P := Tryd.prog) (w.alloc (.cells #[.int .u8 m, .int .u8 m, .int .u8 m, .int .u8 m] 5)) base 24 24 5 Tryd.t5 (.int .u8 0) 1 1 Tryd.underlying24 (by kernel_rfl) (by kernel_rfl) (by kernel_rfl) (by kernel_rfl) rfl (by decide) L.mv L.es.length L.ms m2 ⟨w.heap.size, 0, none⟩ 4 4 [.int .u8 m, .int .u8 m, .int .u8 m, .int .u8 m] rfl (cell_four w _ _ _ _ _) (by intro u hu; simp at hu; subst hu; rfl) (by unfold maxLen; omega) (by omega) (by have := H.bs; omega)
  have hpm : some pb ≠ L.mv.ownBlock := fun e => by have := (H.sb pb (H.mS pb e.symm).1).1; have := H.bp; omega
  have pl := heap_at h.blk
  have b2 : w2.heap[pb]? = some (.cells #[L.x0, L.x1, L.x2, lv', L.mv, L.hv, L.wv] 65 (0, 0)) := (hg.block pb (by omega) hpm).trans ((((Up.refl w).alloc _).block pb pl).trans h.blk)
  have b3 := heap_setCell_same w2 pb 4 _ _ mv' b2
  have zz : (w2.setCell ⟨pb, 4, none⟩ mv').heap.size = w2.heap.size := by simp
  have gs := hg.size
  have hlt : ∀ b, mv'.ownBlock = some b → base ≤ b ∧ b < w2.heap.size := fun b e => ho.lt b e
  have st : ∀ b, b < w.heap.size → b ≠ pb → L.mv.ownBlock ≠ some b → (w2.setCell ⟨pb, 4, none⟩ mv').heap[b]? = w.heap[b]? := fun b b1 b2 b3 =>
    (Below.heap_setCell w2 ⟨pb, 4, none⟩ mv' b b2).trans ((hg.block b (by omega) (fun e => b3 e.symm)).trans (((Up.refl w).alloc _).block b b1))
  have hp := H.bp
  have hbs := H.bs
  have llt : ∀ b, lv'.ownBlock = some b → base ≤ b ∧ b < w.heap.size ∧ (S b ∨ W.heap.size ≤ b) ∧ L.mv.ownBlock ≠ some b := fun b e => by
    refine ⟨(h.lo.lt b e).1, (h.lo.lt b e).2, ?_⟩
    rcases h.ll with e2 | ⟨b', e1, e2, e3⟩
    · rw [e2] at e
      exact ⟨Or.inl (H.ls b e), fun e3 => (H.mS b e3).2 e⟩
    · rw [e3] at e
      injection e with e
      subst e
      exact ⟨Or.inr e1, fun e3 => by have := (H.sb _ (H.mS _ e3).1).2; omega⟩
  have sS : ∀ b, S b → b < W.heap.size := fun b hb => (H.sb b hb).2
  have lvm : ∀ b, mv'.ownBlock = some b → lv'.ownBlock ≠ some b := fun b e e2 => by
    have q := llt b e2
    rcases hb with hb | hb
    · exact q.2.2.2 (hb.symm.trans e)
    · rw [hb] at e
      injection e with e
      omega
  refine ⟨mv', w2, hr, ⟨_, heap_cell b2 rfl⟩, heap_fz b2, own_slice3 ho, ⟨⟨{ L with lv := lv', mv := mv', es := L.es ++ l, ms := L.ms ++ [.int .u8 m, .int .u8 m, .int .u8 m, .int .u8 m] }, ⟨b3, hp, by rw [zz]; omega, ?_, ?_, ?_, ?_, ?_, ?_, ?_⟩, by rw [List.length_append, h.len], rfl, rfl, rfl, rfl, rfl⟩, ⟨hg.os.trans h.ch.os, hg.output.trans h.ch.output, by rw [zz]; omega, ?_⟩⟩⟩
  · intro b hb2
    rw [zz]
    rcases hb2 with q | q | q
    · have := H.sb b q; omega
    · have := h.bv b q; omega
    · rw [zz] at q; omega
  · show (L.ms ++ _).length = (L.es ++ l).length
    rw [List.length_append, List.length_append, h.len, H.len]
    rfl
  · show World.ownsRow _ base _ 1 lv' (L.es ++ l).length (L.es ++ l)
    rw [List.length_append, h.len]
    exact own_keep h.lo fun g hg => st g (llt g hg).2.1 (by have := (llt g hg).1; omega) (llt g hg).2.2.2
  · show World.ownsRow _ base _ 1 mv' (L.es ++ l).length _
    rw [List.length_append, h.len]
    exact own_keep ho fun g hg => Below.heap_setCell w2 ⟨pb, 4, none⟩ mv' g (by have := (hlt g hg).1; show g ≠ pb; omega)
  · intro b e
    have q := llt b e
    rcases q.2.2.1 with q2 | q2
    · exact Or.inl q2
    · exact Or.inr (Or.inr ⟨q2, by rw [zz]; omega⟩)
  · intro b e
    refine ⟨?_, lvm b e⟩
    rcases hb with hb | hb
    · exact Or.inl (H.mS b (hb.symm.trans e)).1
    · have := (hlt b e).2
      rw [hb] at e
      injection e with e
      exact Or.inr (Or.inr ⟨by omega, by rw [zz]; omega⟩)
  · intro i e x he hx
    have mvS : ∀ b, L.mv.ownBlock = some b → S b := fun b hb => (H.mS b hb).1
    by_cases hi : i < L.es.length
    · have he : (L.es ++ l)[i]? = some e := he
      have hx : (L.ms ++ _)[i]? = some x := hx
      rw [List.getElem?_append_left hi] at he
      rw [List.getElem?_append_left (by rw [H.len]; exact hi)] at hx
      obtain ⟨k, n, e1, e2, e3⟩ := H.en i e x he hx
      refine ⟨k, n, e1, e2.keep fun g hg => ?_, fun b hb => ?_⟩
      · obtain ⟨g1, g2, g3⟩ := e3 g hg
        have := H.sb g g1
        exact (st g (by omega) (by omega) g3).trans (h.keep g g1 g2)
      · obtain ⟨g1, g2, g3⟩ := e3 b hb
        have := sS b g1
        refine ⟨Or.inl g1, fun e => ?_, fun e => ?_⟩
        · have e : lv'.ownBlock = some b := e
          rcases h.ll with q | ⟨b', q1, q2, q3⟩
          · exact g2 (q.symm.trans e)
          · rw [q3] at e; injection e with e; omega
        · have e : mv'.ownBlock = some b := e
          rcases ‹mv'.ownBlock = L.mv.ownBlock ∨ _› with q | q
          · exact g3 (q.symm.trans e)
          · rw [q] at e; injection e with e; omega
    · have he : (L.es ++ l)[i]? = some e := he
      have hx : (L.ms ++ _)[i]? = some x := hx
      rw [List.getElem?_append_right (by omega)] at he
      rw [List.getElem?_append_right (by rw [H.len]; omega)] at hx
      have hx1 : x = .int .u8 m := by
        have := List.mem_of_getElem? hx
        simp at this
        exact this
      obtain ⟨⟨k, e1⟩, e2, e3⟩ := h.rd e (List.mem_of_getElem? he)
      have hgb : ∀ g, e.ownBlock = some g → g < w.heap.size ∧ base ≤ g ∧ ¬ S g ∧ (v.ownBlock = some g ∨ W.heap.size ≤ g) := fun g hg => by
        rcases e3 with q | ⟨b, q1, q2, q3⟩
        · rw [q] at hg
          have := h.bv g hg
          exact ⟨by omega, this.1, this.2.2, Or.inl hg⟩
        · rw [q3] at hg
          injection hg with hg
          subst hg
          exact ⟨q2, by omega, fun e => by have := sS _ e; omega, Or.inr q1⟩
      refine ⟨m, k, hx1, e1.keep fun g hg => st g (hgb g hg).1 (by have := (hgb g hg).2.1; omega) (fun e => (hgb g hg).2.2.1 (mvS g e)), fun b hb2 => ⟨?_, fun e => e2 (Eq.trans e hb2.symm), fun e => ?_⟩⟩
      · obtain ⟨q1, q2, q3, q4⟩ := hgb b hb2
        rcases q4 with q4 | q4
        · exact Or.inr (Or.inl q4)
        · exact Or.inr (Or.inr ⟨q4, by rw [zz]; omega⟩)
      · have e : mv'.ownBlock = some b := e
        obtain ⟨q1, q2, q3, q4⟩ := hgb b hb2
        rcases hb with q | q
        · exact q3 (mvS b (q.symm.trans e))
        · rw [q] at e; injection e with e; omega
  · intro b hb2 ⟨k1, k2, k3⟩
    exact (st b (by omega) k3 (fun e => k1 (H.mS b e).1)).trans (h.ch.block b hb2 ⟨k1, k2, k3⟩)
set_option maxRecDepth 100000 in
set_option maxHeartbeats 2000000 in
theorem markedB_any {xs : List Value} (h : Bl S base pb W L) (hv : W.ownsRow base 5 1 v n xs) (hn : n ≤ 4000000) (hS : ∀ b, v.ownBlock = some b → ¬ S b) (hN : L.es.length ≤ 20000000) : Calls Tryd.prog 66 #[.pointer (some ⟨pb, 3, none⟩), v] W fun e w' => e = .returned (.tuple #[]) ∧ Mrk S base pb W v L w' := by
  obtain ⟨va, vc, rfl, hc, hm⟩ : ∃ a c, v = .slice a n c ∧ n ≤ c ∧ c ≤ maxLen := by
    rcases own_cases hv with ⟨rfl, rfl, _⟩ | ⟨g, cap, rfl, h1, h2, _⟩
    · exact ⟨none, 0, rfl, Nat.le_refl _, Nat.zero_le _⟩
    · exact ⟨_, cap, rfl, h1, h2⟩
  obtain ⟨ma, mc, hmv, mc1, mc2⟩ : ∃ a c, L.mv = .slice a L.es.length c ∧ L.es.length ≤ c ∧ c ≤ maxLen := by
    rcases own_cases h.mo with ⟨e, e2, _⟩ | ⟨g, cap, e, h1, h2, _⟩
    · exact ⟨none, 0, by rw [e, e2], by omega, Nat.zero_le _⟩
    · exact ⟨_, cap, e, h1, h2⟩
  have km : W.cell? ⟨pb, 4, none⟩ = some (.slice ma L.es.length mc) := by rw [← hmv]; exact heap_cell h.blk rfl
  have HL : Hid (Bl S base pb W L) := h
  have HV : Hid (W.ownsRow base 5 1 (.slice va n vc) n xs) := hv
  generalize hNN : L.es.length = N at *
  have c9 : vc ≤ 9223372036854775807 := by unfold maxLen at hm; omega
  have m9 : mc ≤ 9223372036854775807 := by unfold maxLen at mc2; omega
  clear h hv
  go_enter Tryd.func66, Tryd.ntmps66
  go_wp2_with fail
  generalize hM : ((N : Int) * 37 + 11) % 256 = M
  have hbs : base ≤ W.heap.size := HL.out.bs
  go_loopw [5] (fun I wr => ∃ i : Nat, i ≤ n ∧ I = .int .i64 (i : Int) ∧ Hid (Mkg base M W (.slice va n vc) n xs i wr)) (fun I _ => n - (intOf I).toNat)
  case atStart => exact ⟨0, Nat.zero_le _, rfl, Mkg.start HV.out⟩
  case round =>
    obtain ⟨i, hi, rfl, M0⟩ := hrel
    by_cases hlt : i < n
    · have e1 : (i : Int) < (n : Int) := by omega
      obtain ⟨g, c, e2, c1, c2, ⟨x, kx⟩, kf, hs⟩ := M0.out.step hlt
      injection e2 with e2 _ e3
      have HS : Hid _ := hs
      clear M0 hs HV HL
      subst e2 e3
      go_wp2_with fail
      go_round
      case rel => exact ⟨i + 1, by omega, by go_num, HS⟩
      case measure => simp [intOf]; omega
    · have e1 : ¬ (i : Int) < (n : Int) := by omega
      obtain rfl : i = n := by omega
      have HQ : Hid _ := M0.out.done
      clear M0
      obtain ⟨u1, w1, r1, q1, a1, k1, c1, rfl⟩ := HQ.out.app1 hn hbs
      have HR1 : Hid _ := r1
      obtain ⟨u2, w2, r2, q2, a2, k2, c2, rfl⟩ := q1.app2 hn hbs
      have HR2 : Hid _ := r2
      have HQ2 : Hid _ := q2
      clear r1 r2 q1 q2 HQ
      go_wp2_with (first | (at_builtin; refine Lib.wpList_append_run _ rfl _ _ _ _ rfl _ _ rfl rfl _ _ HR1.out ?_; clear HR1) | (at_builtin; refine Lib.wpList_append_run _ rfl _ _ _ _ rfl _ _ rfl rfl _ _ HR2.out ?_; clear HR2))
      refine Calls.mono (grown_any HQ2.out.ov hn (Nat.le_trans hbs HQ2.out.size)) ?_
      rintro e w3 ⟨u3, rfl, g3⟩
      obtain ⟨a3, c3, rfl, _, _⟩ := own_val g3.ou
      have HQ3 : Hid _ := HQ2.out.more g3
      clear g3 HQ2
      obtain ⟨lv', w5, r5, ⟨x5, kx5⟩, kf5, ⟨a5, k5, c5, rfl⟩, hb5⟩ := HL.out.puts HQ3.out (fun b hb => ⟨(HV.out.lt b hb).1, (HV.out.lt b hb).2, hS b hb⟩) (by omega) (by intro u hu; simp at hu; rcases hu with rfl | rfl | rfl | rfl <;> rfl)
      have HR5 : Hid _ := r5
      obtain ⟨mv', w7, r7, ⟨x7, kx7⟩, kf7, ⟨a7, k7, c7, rfl⟩, hb7⟩ := hb5.marks (by omega)
      have HR7 : Hid _ := r7
      have HF : Hid _ := hb7
      obtain ⟨la, ln, lc, hlv⟩ := own_slice3 HL.out.lo
      have hb3 := HL.out.keep (K := fun b => (Value.slice va i vc).ownBlock ≠ some b) ⟨HQ3.out.os, HQ3.out.output, HQ3.out.size, HQ3.out.block⟩ (fun e => by have := (HV.out.lt _ e).1; have := HL.out.bp; omega) (fun b hb e => hS b e hb)
      have kl : w3.cell? ⟨pb, 3, none⟩ = some (.slice la ln lc) := by rw [← hlv]; exact heap_cell hb3.blk rfl
      rw [hlv] at HR5
      have km5 : (w5.setCell ⟨pb, 3, none⟩ (.slice a5 k5 c5)).cell? ⟨pb, 4, none⟩ = some (.slice ma N mc) := by rw [← hmv]; exact heap_cell hb5.blk rfl
      rw [hmv] at HR7
      clear r5 r7 hb5 hb7 hb3 hlv hmv km HQ3 HV HL
      go_upto_region 9 with (at_builtin; refine Lib.wpList_append_run _ rfl _ _ _ _ rfl _ _ rfl rfl _ _ HR5.out ?_; clear HR5)
      generalize hwE : World.setCell w5 _ _ = wE at km5 HR7 kx7 kf7 ⊢
      go_wp2_with (at_builtin; refine Lib.wpList_append_run _ rfl _ _ _ _ rfl _ _ rfl rfl _ _ HR7.out ?_; clear HR7)
      refine bodyPost_end (results_none rfl _ _ _) rfl ?_
      exact ⟨rfl, HF.out⟩
end Go.Proofs.YtojlappgmckokaaDoor
/- Cart: the law's put. -/
namespace Go.Proofs.YtojlappgmckokaaDoor
open Go.Shelf Go.RowKit
set_option linter.unusedVariables false
set_option linter.unusedSimpArgs false
variable {w w' W : World} {base pb n : Nat} {S K : Nat → Prop} {m : Int} {v u : Value} {L : Bd} {f hf : Nat → Int} {H : Nat}
/-- a row of one's own, as bytes to be read -/
theorem byts_own (h : w.ownsRow base 5 1 v n (byL f n)) (h8 : ∀ k, 0 ≤ f k ∧ f k ≤ 255) : ∃ a b o c, v = .slice a n c ∧ Byts w a b o n c f ∧ (0 < n → v.ownBlock = some b) := by
  rcases own_cases h with ⟨rfl, rfl, _⟩ | ⟨g, cap, rfl, h1, h2, h3, h4⟩
  · exact ⟨none, 0, 0, 0, rfl, ⟨Nat.le_refl _, Nat.zero_le _, fun h0 => absurd h0 (Nat.lt_irrefl _), h8, fun k hk => absurd hk (Nat.not_lt_zero _)⟩, fun h0 => absurd h0 (Nat.lt_irrefl _)⟩
  · refine ⟨_, g, 0, cap, rfl, ⟨h1, h2, fun _ => rfl, h8, fun k hk => ?_⟩, fun _ => h4⟩
    have := own_cell h k (by omega)
    rw [this]
    exact byL_at hk
/-- a copy of a row behind an empty list -/
theorem want_run (h : w.ownsRow base 5 1 v n (byL f n)) (hn : n ≤ 4000000) : ∃ u w', (Builtin.append_ #[24, 24] 24 #[.slice (some ⟨w.heap.size, 0, none⟩) 0 0, v]).run Tryd.prog (w.alloc (.cells #[] 5)) = .ok u w' ∧ w'.ownsRow w.heap.size 5 1 u n (byL f n) ∧ Up w w' := by
  have sz : (w.alloc (.cells #[] 5)).heap.size = w.heap.size + 1 := alloc_size' _ _
  have ho : (w.alloc (.cells #[] 5)).ownsRow w.heap.size 5 1 (.slice (some ⟨w.heap.size, 0, none⟩) 0 0) 0 [] := own_of (heap_alloc_new w _) (Nat.le_refl _) (Nat.le_refl _) (Nat.zero_le _) rfl rfl (fun k hk => by omega)
  have h1 := ownsRow_up h ((Up.refl w).alloc (.cells #[] 5))
  rcases own_cases h1 with ⟨rfl, rfl, _⟩ | ⟨g, cap, rfl, q1, q2, q3, q4⟩
  · exact ⟨_, _, run_append_owned_none (P := Tryd.prog) (w := w.alloc (.cells #[] 5)) w.heap.size 24 24 5 Tryd.t5 1 Tryd.underlying24 (by kernel_rfl) _ 0 [] ho, ho, (Up.refl w).alloc _⟩
  · obtain ⟨v', w', hr, h2, h3, _, h5⟩ := run_append_own_at (P := Tryd.prog) _ w.heap.size 24 24 5 Tryd.t5 (.int .u8 0) 1 1 Tryd.underlying24 (by kernel_rfl) (by kernel_rfl) (by kernel_rfl) (by kernel_rfl) rfl (by decide) _ 0 [] ho ⟨g, 0, none⟩ n cap (byL f n) (by rw [byL_len, Nat.mul_one]) (fun j u hj => by
      have hjn : j < n := by have := (List.getElem?_eq_some_iff.1 hj).1; rwa [byL_len] at this
      rw [Addr.add_lit, own_cell h1 j (by omega)]
      exact hj) (byL_one f n) (by unfold maxLen; omega) (by omega) (by omega)
    rw [Nat.zero_add, List.nil_append] at h2
    exact ⟨v', w', hr, h2, grown_upB ((Up.refl w).alloc _) ho h3⟩
/-- the book with the list that came out last -/
structure Bf (S : Nat → Prop) (base pb : Nat) (w : World) (L : Bd) (H : Nat) (hf : Nat → Int) : Prop where
  bl : Bl S base pb w L
  ho : w.ownsRow base 5 1 L.hv H (byL hf H)
  wo : w.ownsRow base 5 1 L.wv H (byL hf H)
  hn : H ≤ 4000000
  h8 : ∀ k, 0 ≤ hf k ∧ hf k ≤ 255
  hS : ∀ b, L.hv.ownBlock = some b → ¬ S b
  wS : ∀ b, L.wv.ownBlock = some b → ¬ S b
/-- all that the book holds -/
def Al (S : Nat → Prop) (L : Bd) : Nat → Prop := fun b => S b ∨ L.hv.ownBlock = some b ∨ L.wv.ownBlock = some b
theorem Bf.keep (h : Bf S base pb w L H hf) (f : FK K w w') (hp : K pb) (hK : ∀ b, Al S L b → K b) : Bf S base pb w' L H hf :=
  ⟨h.bl.keep f hp fun b hb => hK b (Or.inl hb), own_keep h.ho fun g hg => f.block g (h.ho.lt g hg).2 (hK g (Or.inr (Or.inl hg))), own_keep h.wo fun g hg => f.block g (h.wo.lt g hg).2 (hK g (Or.inr (Or.inr hg))), h.hn, h.h8, h.hS, h.wS⟩
theorem Bf.up (h : Bf S base pb w L H hf) (f : Up w w') : Bf S base pb w' L H hf := h.keep (K := fun _ => True) (FK.ofUp f) trivial (fun _ _ => trivial)
theorem Bf.al (h : Bf S base pb w L H hf) {b : Nat} (hb : Al S L b) : base ≤ b ∧ b < w.heap.size := by
  rcases hb with q | q | q
  · exact h.bl.sb b q
  · exact h.ho.lt b q
  · exact h.wo.lt b q
/-- what put leaves -/
structure Pt (S : Nat → Prop) (base pb : Nat) (W : World) (L : Bd) (v : Value) (n : Nat) (f : Nat → Int) (w : World) : Prop where
  ex : ∃ S' L', Bf S' base pb w L' n f ∧ L'.hv = v ∧ L'.es.length = L.es.length + 4 ∧ L'.x0 = L.x0 ∧ L'.x1 = L.x1 ∧ L'.x2 = L.x2 ∧ (∀ b, Al S' L' b → Al S L b ∨ v.ownBlock = some b ∨ W.heap.size ≤ b)
  ch : FK (fun b => ¬ Al S L b ∧ b ≠ pb) W w
theorem same_own {b1 b2 : Nat} (h1 : w.ownsRow b1 5 1 v n (byL f n)) (h2 : w.ownsRow b2 5 1 u n (byL f n)) (h8 : ∀ k, 0 ≤ f k ∧ f k ≤ 255) : Calls Tryd.prog 21 #[v, u] w fun e w' => e = .returned (.bool true) ∧ Up w w' := by
  obtain ⟨a, b, o, c, rfl, hb, _⟩ := byts_own h1 h8
  obtain ⟨a', b', o', c', rfl, hb', _⟩ := byts_own h2 h8
  exact same_yes hb hb' (fun _ _ => rfl)
theorem Bl.cells {L2 : Bd} (h : Bl S base pb w L) (f : Fr pb w w') (hb : w'.heap[pb]? = some (.cells #[L2.x0, L2.x1, L2.x2, L2.lv, L2.mv, L2.hv, L2.wv] 65 (0, 0))) (h1 : L2.lv = L.lv) (h2 : L2.mv = L.mv) (h3 : L2.es = L.es) (h4 : L2.ms = L.ms) : Bl S base pb w' L2 := by
  have hp := h.bp
  have q : ∀ b, S b → w'.heap[b]? = w.heap[b]? := fun b hb => f.block b (h.sb b hb).2 (by have := (h.sb b hb).1; omega)
  refine ⟨hb, h.bp, Nat.le_trans h.bs f.size, fun b hb => ⟨(h.sb b hb).1, Nat.lt_of_lt_of_le (h.sb b hb).2 f.size⟩, by rw [h3, h4]; exact h.len, by rw [h1, h3]; exact own_keep h.lo fun g hg => q g (h.ls g hg), by rw [h2, h3, h4]; exact own_keep h.mo fun g hg => q g (h.mS g hg).1, by rw [h1]; exact h.ls, by rw [h1, h2]; exact h.mS, ?_⟩
  rw [h1, h2, h3, h4]
  intro i e m he hm
  obtain ⟨k, n, e1, e2, e3⟩ := h.en i e m he hm
  exact ⟨k, n, e1, e2.keep fun g hg => q g (e3 g hg).1, e3⟩
theorem Bf.ptOf {w2 w3 : World} (h : Bf S base pb W L H hf) (hv : W.ownsRow base 5 1 v n (byL f n)) (h8 : ∀ k, 0 ≤ f k ∧ f k ≤ 255) (hn : n ≤ 4000000) (hA : ∀ b, v.ownBlock = some b → ¬ Al S L b) (u0 : Up W w2) (hu : w2.ownsRow W.heap.size 5 1 u n (byL f n)) (hm : Mrk S base pb w2 L.hv L w3) :
    w3.ownsRow base 5 1 v n (byL f n) ∧ w3.ownsRow W.heap.size 5 1 u n (byL f n) ∧ ∀ w4, Up w3 w4 → (∃ x, w4.cell? ⟨pb, 5, none⟩ = some x) ∧ w4.frozen? ⟨pb, 5, none⟩ = false ∧ (∃ x, (w4.setCell ⟨pb, 5, none⟩ v).cell? ⟨pb, 6, none⟩ = some x) ∧ (w4.setCell ⟨pb, 5, none⟩ v).frozen? ⟨pb, 6, none⟩ = false ∧ Pt S base pb W L v n f ((w4.setCell ⟨pb, 5, none⟩ v).setCell ⟨pb, 6, none⟩ u) := by
  obtain ⟨L', b1, e1, ex0, ex1, ex2, ehv, ewv⟩ := hm.ex
  have c := hm.ch
  have hp := h.bl.bp
  have hbs := h.bl.bs
  have s2 := u0.size
  have s3 := c.size
  have hvl : ∀ b, L.hv.ownBlock = some b → b < W.heap.size := fun b hb => (h.ho.lt b hb).2
  have hSl : ∀ b, S b → b < W.heap.size := fun b hb => (h.bl.sb b hb).2
  have v3 : w3.ownsRow base 5 1 v n (byL f n) := own_keep hv fun g hg => by
    have := hv.lt g hg
    exact (c.block g (by omega) ⟨fun e => hA g hg (Or.inl e), fun e => hA g hg (Or.inr (Or.inl e)), by omega⟩).trans (u0.block g this.2)
  have u3 : w3.ownsRow W.heap.size 5 1 u n (byL f n) := own_keep hu fun g hg => by
    have := hu.lt g hg
    exact c.block g this.2 ⟨fun e => by have := hSl g e; omega, fun e => by have := hvl g e; omega, by omega⟩
  refine ⟨v3, u3, fun w4 u4 => ?_⟩
  have b4 := b1.up u4
  have k5 := heap_setCell_same w4 pb 5 _ _ v b4.blk
  have k6 := heap_setCell_same _ pb 6 _ _ u k5
  have fr : Fr pb w4 ((w4.setCell ⟨pb, 5, none⟩ v).setCell ⟨pb, 6, none⟩ u) := ((Fr.refl pb w4).setCell).setCell
  have b6 : Bl (Sx S L.hv w2 w3) base pb ((w4.setCell ⟨pb, 5, none⟩ v).setCell ⟨pb, 6, none⟩ u) { L' with hv := v, wv := u } := b4.cells fr k6 rfl rfl rfl rfl
  have s4 := u4.size
  refine ⟨⟨_, heap_cell b4.blk rfl⟩, heap_fz b4.blk, ⟨_, heap_cell k5 rfl⟩, heap_fz k5, ⟨⟨_, _, ⟨b6, ?_, ?_, hn, h8, ?_, ?_⟩, rfl, e1, ex0, ex1, ex2, ?_⟩, ?_⟩⟩
  · exact own_keep (ownsRow_up v3 u4) fun g hg => fr.block g (ownsRow_up v3 u4 |>.lt g hg).2 (by have := (v3.lt g hg).1; omega)
  · exact own_base (own_keep (ownsRow_up u3 u4) fun g hg => fr.block g (ownsRow_up u3 u4 |>.lt g hg).2 (by have := (u3.lt g hg).1; omega)) hbs
  · intro b hb q
    have := (hv.lt b hb).2
    rcases q with q | q | q
    · exact hA b hb (Or.inl q)
    · exact hA b hb (Or.inr (Or.inl q))
    · omega
  · intro b hb q
    have := hu.lt b hb
    rcases q with q | q | q
    · have := hSl b q; omega
    · have := hvl b q; omega
    · omega
  · intro b hb
    rcases hb with (q | q | q) | q | q
    · exact Or.inl (Or.inl q)
    · exact Or.inl (Or.inr (Or.inl q))
    · exact Or.inr (Or.inr (by omega))
    · exact Or.inr (Or.inl q)
    · exact Or.inr (Or.inr (hu.lt b q).1)
  · refine ⟨(fr.os.trans u4.os).trans (c.os.trans u0.os), (fr.output.trans u4.output).trans (c.output.trans u0.output), by have := fr.size; omega, fun b hb ⟨k1, k2⟩ => ?_⟩
    exact (fr.block b (by omega) k2).trans ((u4.block b (by omega)).trans ((c.block b (by omega) ⟨fun e => k1 (Or.inl e), fun e => k1 (Or.inr (Or.inl e)), k2⟩).trans (u0.block b hb)))
set_option maxRecDepth 100000 in
set_option maxHeartbeats 2000000 in
theorem putB_any (h : Bf S base pb W L H hf) (hv : W.ownsRow base 5 1 v n (byL f n)) (h8 : ∀ k, 0 ≤ f k ∧ f k ≤ 255) (hn : n ≤ 4000000) (hA : ∀ b, v.ownBlock = some b → ¬ Al S L b) (hN : L.es.length ≤ 20000000) : Calls Tryd.prog 51 #[.pointer (some ⟨pb, 3, none⟩), v] W fun e w' => e = .returned (.bool true) ∧ Pt S base pb W L v n f w' := by
  obtain ⟨u, w1, r1, o1, u1⟩ := want_run hv hn
  have HR : Hid _ := r1
  have hbs := h.bl.bs
  obtain ⟨ha, hb, hoo, hc, ehv, hby, _⟩ := byts_own h.ho h.h8
  obtain ⟨wa, wb, woo, wc, ewv, wby, _⟩ := byts_own h.wo h.h8
  obtain ⟨va, vb, vo, vc, rfl, vby, vbl⟩ := byts_own hv h8
  obtain ⟨ua, ub, uo, uc, rfl, uby, ubl⟩ := byts_own o1 h8
  have HSame : Hid (∀ w, Up w1 w → Calls Tryd.prog 21 #[.slice ha H hc, .slice wa H wc] w fun e w' => e = .returned (.bool true) ∧ Up w w') := fun w u => by
    exact same_yes (hby.upB (u1.trans u)) (wby.upB (u1.trans u)) (fun _ _ => rfl)
  have HMark : Hid (∀ w, Up W w → Calls Tryd.prog 66 #[.pointer (some ⟨pb, 3, none⟩), .slice ha H hc] w fun e w' => e = .returned (.tuple #[]) ∧ Mrk S base pb w L.hv L w') := fun w u => by rw [← ehv]; exact markedB_any (h.bl.up u) (ownsRow_up h.ho u) h.hn h.hS hN
  have HBf : Hid (Bf S base pb W L H hf) := h
  have HV : Hid (W.ownsRow base 5 1 (.slice va n vc) n (byL f n)) := hv
  have HU : Hid (w1.ownsRow W.heap.size 5 1 (.slice ua n uc) n (byL f n) ∧ Up W w1) := ⟨o1, u1⟩
  have kh : w1.cell? ⟨pb, 5, none⟩ = some (.slice ha H hc) := by rw [← ehv]; exact heap_cell (h.bl.up u1).blk rfl
  have kw : w1.cell? ⟨pb, 6, none⟩ = some (.slice wa H wc) := by rw [← ewv]; exact heap_cell (h.bl.up u1).blk rfl
  clear h hv r1 o1 u1 hby wby uby vby
  go_enter Tryd.func51, Tryd.ntmps51
  go_wp2_with (at_builtin; refine Lib.wpList_append_run _ rfl _ _ _ _ rfl _ _ rfl rfl _ _ HR.out ?_; clear HR)
  refine wp_region_held_drew (S := fun w => w.cell? ⟨pb, 5, none⟩ = some (.slice ha H hc) ∧ w.cell? ⟨pb, 6, none⟩ = some (.slice wa H wc)) (by kernel_rfl) ⟨kh, kw⟩ (fun hHeld => ?_)
  have HU2 : Hid (Up w1 w1.drew) := (Up.refl w1).drew
  generalize World.drew w1 = wd at HU2 hHeld ⊢
  refine wpAnyH_take (i := 0) (v := ?_) (by simp only [List.getElem?_toArray, List.getElem?_cons_zero]; rfl) (by kernel_rfl) (by kernel_rfl) (by kernel_rfl) (by intro _ _ _ h; exact h) (Or.inl ⟨by rfl, ?_⟩) (by assumption) ?_
  rotate_left
  · (intro w hSw; (try dsimp only at hSw); obtain ⟨hSa, hSb⟩ := hSw; go_simp <;> with_reducible rfl)
  try simp only [Act.put, List.setIfInBounds_toArray, List.set_cons_zero, List.set_cons_succ]
  refine wpAnyH_take (i := 1) (v := ?_) (by simp only [List.getElem?_toArray, List.getElem?_cons_succ, List.getElem?_cons_zero]; rfl) (by kernel_rfl) (by kernel_rfl) (by kernel_rfl) (by intro _ _ _ h; exact h) (Or.inl ⟨by rfl, ?_⟩) (by assumption) ?_
  rotate_left
  · (intro w hSw; (try dsimp only at hSw); obtain ⟨hSa, hSb⟩ := hSw; go_simp <;> with_reducible rfl)
  try simp only [Act.put, List.setIfInBounds_toArray, List.set_cons_zero, List.set_cons_succ]
  refine wpAnyH_take (i := 2) (v := ?_) (by simp only [List.getElem?_toArray, List.getElem?_cons_succ, List.getElem?_cons_zero]; rfl) (by kernel_rfl) (by kernel_rfl) (by kernel_rfl) (by intro _ _ _ h; exact h) (Or.inl ⟨by rfl, ?_⟩) (by assumption) ?_
  rotate_left
  · (intro w hSw; (try dsimp only at hSw); obtain ⟨hSa, hSb⟩ := hSw; go_simp <;> with_reducible rfl)
  try simp only [Act.put, List.setIfInBounds_toArray, List.set_cons_zero, List.set_cons_succ]
  refine wpAnyH_take (i := 3) (v := ?_) (by simp only [List.getElem?_toArray, List.getElem?_cons_succ, List.getElem?_cons_zero]; rfl) (by kernel_rfl) (by kernel_rfl) (by kernel_rfl) (by intro _ _ _ h; exact h) (Or.inl ⟨by rfl, ?_⟩) (by assumption) ?_
  rotate_left
  · (intro w hSw; (try dsimp only at hSw); obtain ⟨hSa, hSb⟩ := hSw; go_simp <;> with_reducible rfl)
  try simp only [Act.put, List.setIfInBounds_toArray, List.set_cons_zero, List.set_cons_succ]
  refine wpAnyH_take (i := 4) (v := ?_) (by simp only [List.getElem?_toArray, List.getElem?_cons_succ, List.getElem?_cons_zero]; rfl) (by kernel_rfl) (by kernel_rfl) (by kernel_rfl) (by intro _ _ _ h; exact h) (Or.inl ⟨by rfl, ?_⟩) (by assumption) ?_
  rotate_left
  · (intro w hSw; (try dsimp only at hSw); obtain ⟨hSa, hSb⟩ := hSw; go_simp <;> with_reducible rfl)
  try simp only [Act.put, List.setIfInBounds_toArray, List.set_cons_zero, List.set_cons_succ]
  refine wpAnyH_take (i := 5) (v := ?_) (by simp only [List.getElem?_toArray, List.getElem?_cons_succ, List.getElem?_cons_zero]; rfl) (by kernel_rfl) (by kernel_rfl) (by kernel_rfl) (by intro _ _ _ h; exact h) (Or.inl ⟨by rfl, ?_⟩) (by assumption) ?_
  rotate_left
  · (intro w hSw; (try dsimp only at hSw); obtain ⟨hSa, hSb⟩ := hSw; go_simp <;> with_reducible rfl)
  try simp only [Act.put, List.setIfInBounds_toArray, List.set_cons_zero, List.set_cons_succ]
  refine wpAnyH_take (i := 6) (v := ?_) (by simp only [List.getElem?_toArray, List.getElem?_cons_succ, List.getElem?_cons_zero]; rfl) (by kernel_rfl) (by kernel_rfl) (by kernel_rfl) (by intro _ _ _ h; exact h) (Or.inl ⟨by rfl, ?_⟩) (by assumption) ?_
  rotate_left
  · (intro w hSw; (try dsimp only at hSw); obtain ⟨hSa, hSb⟩ := hSw; go_simp <;> with_reducible rfl)
  try simp only [Act.put, List.setIfInBounds_toArray, List.set_cons_zero, List.set_cons_succ]
  refine wpAnyH_take (i := 7) (v := ?_) (by simp only [List.getElem?_toArray, List.getElem?_cons_succ, List.getElem?_cons_zero]; rfl) (by kernel_rfl) (by kernel_rfl) (by kernel_rfl) (by intro _ _ _ h; exact h) (Or.inl ⟨by rfl, ?_⟩) (by assumption) ?_
  rotate_left
  · (intro w hSw; (try dsimp only at hSw); obtain ⟨hSa, hSb⟩ := hSw; go_simp <;> with_reducible rfl)
  try simp only [Act.put, List.setIfInBounds_toArray, List.set_cons_zero, List.set_cons_succ]
  refine wpAnyH_ready (rs := [8]) (by kernel_rfl) (by simp) ?_
  refine AllReadyH.cons (by simp only [List.getElem?_toArray, List.getElem?_cons_succ, List.getElem?_cons_zero]; rfl) (fun KK hK => ?_) AllReadyH.nil
  go_simp
  refine Calls.mono (HSame.out wd HU2.out) ?_
  rintro e w2 ⟨rfl, u2⟩
  refine hK.out _ _ ⟨cell_up (HU2.out.trans u2) kh, cell_up (HU2.out.trans u2) kw⟩ (fun hHeld => ?_)
  have HU3 : Hid (Up w1 w2) := HU2.out.trans u2
  clear hK KK u2 HU2
  try simp only [Act.put, List.setIfInBounds_toArray, List.set_cons_zero, List.set_cons_succ]
  refine wpAnyH_take (i := 9) (v := ?_) (by simp only [List.getElem?_toArray, List.getElem?_cons_succ, List.getElem?_cons_zero]; rfl) (by kernel_rfl) (by kernel_rfl) (by kernel_rfl) (by intro _ _ _ h; exact h) (Or.inl ⟨by rfl, ?_⟩) (by assumption) ?_
  rotate_left
  · (intro w hSw; (try dsimp only at hSw); obtain ⟨hSa, hSb⟩ := hSw; go_simp <;> with_reducible rfl)
  try simp only [Act.put, List.setIfInBounds_toArray, List.set_cons_zero, List.set_cons_succ]
  refine wpAnyH_done (by kernel_rfl) ?_ _
  clear hHeld
  have kh2 : w2.cell? ⟨pb, 5, none⟩ = some (.slice ha H hc) := cell_up HU3.out kh
  clear kh kw HSame
  go_wp2_with fail
  refine Calls.mono (HMark.out w2 (HU.out.2.trans HU3.out)) ?_
  rintro e w3 ⟨rfl, hm⟩
  obtain ⟨v3, u3, hfin⟩ := HBf.out.ptOf HV.out h8 hn hA (HU.out.2.trans HU3.out) (ownsRow_up HU.out.1 HU3.out) hm
  have HS : Hid _ := same_own v3 u3 h8
  have HFin : Hid _ := hfin
  clear hm v3 u3 hfin HMark kh2
  go_wp2_with fail
  refine Calls.mono HS.out ?_
  rintro e w4 ⟨rfl, u4⟩
  obtain ⟨⟨x4, kx4⟩, kf4, ⟨x5, kx5⟩, kf5, hpt⟩ := HFin.out w4 u4
  have HP : Hid _ := hpt
  clear hpt HFin HS u4
  go_wp2_with fail
  go_ret
  exact ⟨by first | rfl | (simp; done), HP.out⟩
end Go.Proofs.YtojlappgmckokaaDoor
/- Cart: the law's looks. -/
namespace Go.Proofs.YtojlappgmckokaaDoor
open Go.Shelf Go.RowKit
set_option linter.unusedVariables false
set_option linter.unusedSimpArgs false
variable {w w' W : World} {base pb n : Nat} {S K : Nat → Prop} {m : Int} {v u : Value} {L : Bd} {f hf : Nat → Int} {H : Nat}
/-- a cell of a row of one cell each -/
theorem own_at1 {j : Nat} {ty : TypeId} {x : Value} {xs : List Value} (h : w.ownsRow base ty 1 v n xs) (hj : xs[j]? = some x) : ∃ g c, v = .slice (some ⟨g, 0, none⟩) n c ∧ w.cell? ⟨g, j, none⟩ = some x := by
  have hl := (List.getElem?_eq_some_iff.1 hj).1
  have h1 := h.1
  rcases own_cases h with ⟨_, hn, _⟩ | ⟨g, cap, rfl, c1, c2, _⟩
  · omega
  · have := own_cell h j (by omega)
    rw [Nat.zero_add] at this
    exact ⟨g, cap, rfl, by rw [this]; exact hj⟩
theorem own_sl {ty : TypeId} {xs : List Value} (h : w.ownsRow base ty 1 v n xs) : ∃ a c, v = .slice a n c ∧ n ≤ c ∧ c ≤ 9223372036854775807 := by
  rcases own_cases h with ⟨rfl, rfl, _⟩ | ⟨g, cap, rfl, h1, h2, _⟩
  · exact ⟨_, _, rfl, Nat.le_refl _, Nat.zero_le _⟩
  · exact ⟨_, _, rfl, h1, by unfold maxLen at h2; omega⟩
set_option maxRecDepth 100000 in
set_option maxHeartbeats 2000000 in
theorem looksB_any (h : Bf S base pb W L H hf) : Calls Tryd.prog 27 #[.pointer (some ⟨pb, 3, none⟩)] W fun e w' => e = .returned (.bool true) ∧ Up W w' := by
  obtain ⟨sa, sc, hsv, s1, s2⟩ := own_sl h.bl.lo
  obtain ⟨ma, mc, hmv, m1, m2⟩ := own_sl h.bl.mo
  obtain ⟨ha, hc, hhv, h1, h2⟩ := own_sl h.ho
  obtain ⟨wa, wc, hwv, w1, w2⟩ := own_sl h.wo
  have HSame : Hid (∀ w, Up W w → Calls Tryd.prog 21 #[.slice ha H hc, .slice wa H wc] w fun e w' => e = .returned (.bool true) ∧ Up w w') := fun w u => by
    rw [← hhv, ← hwv]
    exact same_own (ownsRow_up h.ho u) (ownsRow_up h.wo u) h.h8
  obtain ⟨N, hN⟩ : ∃ N, N = L.es.length := ⟨_, rfl⟩
  have HK : Hid (∀ w, Up W w → w.cell? ⟨pb, 3, none⟩ = some (.slice sa N sc) ∧ w.cell? ⟨pb, 4, none⟩ = some (.slice ma N mc)) := fun w u => ⟨cell_up u (by rw [hN, ← hsv]; exact heap_cell h.bl.blk rfl), cell_up u (by rw [hN, ← hmv]; exact heap_cell h.bl.blk rfl)⟩
  have kh : W.cell? ⟨pb, 5, none⟩ = some (.slice ha H hc) := by rw [← hhv]; exact heap_cell h.bl.blk rfl
  have kw : W.cell? ⟨pb, 6, none⟩ = some (.slice wa H wc) := by rw [← hwv]; exact heap_cell h.bl.blk rfl
  have HR : Hid (∀ (i : Nat), i < N → ∃ m gs gm la ln lc b o, sa = some ⟨gs, 0, none⟩ ∧ ma = some ⟨gm, 0, none⟩ ∧ ln ≤ lc ∧ lc ≤ 9223372036854775807 ∧ (∀ w, Up W w → w.cell? ⟨gs, i, none⟩ = some (.slice la ln lc) ∧ w.cell? ⟨gm, i, none⟩ = some (.int .u8 m)) ∧ (0 < ln → la = some ⟨b, o, none⟩) ∧ (∀ k, k < ln → ∀ w, Up W w → w.cell? ⟨b, o + k, none⟩ = some (.int .u8 m))) := fun i hi => by
    obtain ⟨e, he⟩ : ∃ e, L.es[i]? = some e := ⟨_, List.getElem?_eq_getElem (by omega)⟩
    obtain ⟨x, hx⟩ : ∃ x, L.ms[i]? = some x := ⟨_, List.getElem?_eq_getElem (by rw [h.bl.len]; omega)⟩
    obtain ⟨m, n, rfl, ⟨la, lc, rfl, l1, l2, l3⟩, _⟩ := h.bl.en i e x he hx
    obtain ⟨gs, cs, e1, k1⟩ := own_at1 h.bl.lo he
    obtain ⟨gm, cm, e2, k2⟩ := own_at1 h.bl.mo hx
    rw [hsv] at e1
    rw [hmv] at e2
    injection e1 with e1
    injection e2 with e2
    have l9 : lc ≤ 9223372036854775807 := by unfold maxLen at l2; omega
    by_cases h0 : 0 < n
    · obtain ⟨g, o, e3, l4⟩ := l3 h0
      exact ⟨m, gs, gm, la, n, lc, g, o, e1, e2, l1, l9, fun w u => ⟨cell_up u k1, cell_up u k2⟩, fun _ => e3, fun k hk w u => cell_up u (l4 k hk)⟩
    · exact ⟨m, gs, gm, la, n, lc, 0, 0, e1, e2, l1, l9, fun w u => ⟨cell_up u k1, cell_up u k2⟩, fun q => absurd q h0, fun k hk => absurd hk (by omega)⟩
  rw [← hN] at s1 m1
  clear h hsv hmv hhv hwv hN
  go_enter Tryd.func27, Tryd.ntmps27
  go_wp2_with fail
  refine wp_region_held_drew (S := fun w => w.cell? ⟨pb, 5, none⟩ = some (.slice ha H hc) ∧ w.cell? ⟨pb, 6, none⟩ = some (.slice wa H wc)) (by kernel_rfl) ⟨kh, kw⟩ (fun hHeld => ?_)
  have HU2 : Hid (Up W W.drew) := (Up.refl W).drew
  generalize World.drew W = wd at HU2 hHeld ⊢
  refine wpAnyH_take (i := 0) (v := ?_) (by simp only [List.getElem?_toArray, List.getElem?_cons_zero]; rfl) (by kernel_rfl) (by kernel_rfl) (by kernel_rfl) (by intro _ _ _ h; exact h) (Or.inl ⟨by rfl, ?_⟩) (by assumption) ?_
  rotate_left
  · (intro w hSw; (try dsimp only at hSw); obtain ⟨hSa, hSb⟩ := hSw; go_simp <;> with_reducible rfl)
  try simp only [Act.put, List.setIfInBounds_toArray, List.set_cons_zero, List.set_cons_succ]
  refine wpAnyH_take (i := 1) (v := ?_) (by simp only [List.getElem?_toArray, List.getElem?_cons_succ, List.getElem?_cons_zero]; rfl) (by kernel_rfl) (by kernel_rfl) (by kernel_rfl) (by intro _ _ _ h; exact h) (Or.inl ⟨by rfl, ?_⟩) (by assumption) ?_
  rotate_left
  · (intro w hSw; (try dsimp only at hSw); obtain ⟨hSa, hSb⟩ := hSw; go_simp <;> with_reducible rfl)
  try simp only [Act.put, List.setIfInBounds_toArray, List.set_cons_zero, List.set_cons_succ]
  refine wpAnyH_take (i := 2) (v := ?_) (by simp only [List.getElem?_toArray, List.getElem?_cons_succ, List.getElem?_cons_zero]; rfl) (by kernel_rfl) (by kernel_rfl) (by kernel_rfl) (by intro _ _ _ h; exact h) (Or.inl ⟨by rfl, ?_⟩) (by assumption) ?_
  rotate_left
  · (intro w hSw; (try dsimp only at hSw); obtain ⟨hSa, hSb⟩ := hSw; go_simp <;> with_reducible rfl)
  try simp only [Act.put, List.setIfInBounds_toArray, List.set_cons_zero, List.set_cons_succ]
  refine wpAnyH_take (i := 3) (v := ?_) (by simp only [List.getElem?_toArray, List.getElem?_cons_succ, List.getElem?_cons_zero]; rfl) (by kernel_rfl) (by kernel_rfl) (by kernel_rfl) (by intro _ _ _ h; exact h) (Or.inl ⟨by rfl, ?_⟩) (by assumption) ?_
  rotate_left
  · (intro w hSw; (try dsimp only at hSw); obtain ⟨hSa, hSb⟩ := hSw; go_simp <;> with_reducible rfl)
  try simp only [Act.put, List.setIfInBounds_toArray, List.set_cons_zero, List.set_cons_succ]
  refine wpAnyH_take (i := 4) (v := ?_) (by simp only [List.getElem?_toArray, List.getElem?_cons_succ, List.getElem?_cons_zero]; rfl) (by kernel_rfl) (by kernel_rfl) (by kernel_rfl) (by intro _ _ _ h; exact h) (Or.inl ⟨by rfl, ?_⟩) (by assumption) ?_
  rotate_left
  · (intro w hSw; (try dsimp only at hSw); obtain ⟨hSa, hSb⟩ := hSw; go_simp <;> with_reducible rfl)
  try simp only [Act.put, List.setIfInBounds_toArray, List.set_cons_zero, List.set_cons_succ]
  refine wpAnyH_take (i := 5) (v := ?_) (by simp only [List.getElem?_toArray, List.getElem?_cons_succ, List.getElem?_cons_zero]; rfl) (by kernel_rfl) (by kernel_rfl) (by kernel_rfl) (by intro _ _ _ h; exact h) (Or.inl ⟨by rfl, ?_⟩) (by assumption) ?_
  rotate_left
  · (intro w hSw; (try dsimp only at hSw); obtain ⟨hSa, hSb⟩ := hSw; go_simp <;> with_reducible rfl)
  try simp only [Act.put, List.setIfInBounds_toArray, List.set_cons_zero, List.set_cons_succ]
  refine wpAnyH_take (i := 6) (v := ?_) (by simp only [List.getElem?_toArray, List.getElem?_cons_succ, List.getElem?_cons_zero]; rfl) (by kernel_rfl) (by kernel_rfl) (by kernel_rfl) (by intro _ _ _ h; exact h) (Or.inl ⟨by rfl, ?_⟩) (by assumption) ?_
  rotate_left
  · (intro w hSw; (try dsimp only at hSw); obtain ⟨hSa, hSb⟩ := hSw; go_simp <;> with_reducible rfl)
  try simp only [Act.put, List.setIfInBounds_toArray, List.set_cons_zero, List.set_cons_succ]
  refine wpAnyH_take (i := 7) (v := ?_) (by simp only [List.getElem?_toArray, List.getElem?_cons_succ, List.getElem?_cons_zero]; rfl) (by kernel_rfl) (by kernel_rfl) (by kernel_rfl) (by intro _ _ _ h; exact h) (Or.inl ⟨by rfl, ?_⟩) (by assumption) ?_
  rotate_left
  · (intro w hSw; (try dsimp only at hSw); obtain ⟨hSa, hSb⟩ := hSw; go_simp <;> with_reducible rfl)
  try simp only [Act.put, List.setIfInBounds_toArray, List.set_cons_zero, List.set_cons_succ]
  refine wpAnyH_ready (rs := [8]) (by kernel_rfl) (by simp) ?_
  refine AllReadyH.cons (by simp only [List.getElem?_toArray, List.getElem?_cons_succ, List.getElem?_cons_zero]; rfl) (fun KK hK => ?_) AllReadyH.nil
  go_simp
  refine Calls.mono (HSame.out wd HU2.out) ?_
  rintro e w2 ⟨rfl, u2⟩
  refine hK.out _ _ ⟨cell_up (HU2.out.trans u2) kh, cell_up (HU2.out.trans u2) kw⟩ (fun hHeld => ?_)
  have HU3 : Hid (Up W w2) := HU2.out.trans u2
  clear hK KK u2 HU2 kh kw HSame
  try simp only [Act.put, List.setIfInBounds_toArray, List.set_cons_zero, List.set_cons_succ]
  refine wpAnyH_take (i := 9) (v := ?_) (by simp only [List.getElem?_toArray, List.getElem?_cons_succ, List.getElem?_cons_zero]; rfl) (by kernel_rfl) (by kernel_rfl) (by kernel_rfl) (by intro _ _ _ h; exact h) (Or.inl ⟨by rfl, ?_⟩) (by assumption) ?_
  rotate_left
  · (intro w hSw; (try dsimp only at hSw); obtain ⟨hSa, hSb⟩ := hSw; go_simp <;> with_reducible rfl)
  try simp only [Act.put, List.setIfInBounds_toArray, List.set_cons_zero, List.set_cons_succ]
  refine wpAnyH_done (by kernel_rfl) ?_ _
  clear hHeld
  go_wp2_with fail
  go_loopw [3, 4] (fun I _ wr => ∃ i : Nat, i ≤ N ∧ I = .int .i64 (i : Int) ∧ Hid (Up W wr)) (fun I _ _ => N - (intOf I).toNat)
  case atStart => exact ⟨0, by omega, rfl, HU3⟩
  case round =>
    clear HU3
    obtain ⟨i, hi, rfl, HU⟩ := hrel
    obtain ⟨k3, k4⟩ := HK.out wr HU.out
    by_cases hlt : i < N
    · have d1 : (i : Int) < (N : Int) := by omega
      obtain ⟨m, gs, gm, la, ln, lc, b, o, rfl, rfl, l1, l2, hc, hla, hk⟩ := HR.out i hlt
      have HC : Hid _ := hc
      have HL : Hid _ := hk
      have HA : Hid _ := hla
      clear hc hk hla HR
      go_wp2_with fail
      obtain ⟨w0, hw0⟩ : ∃ w0, w0 = wr := ⟨_, rfl⟩
      have HU0 : Hid (Up W w0) := by rw [hw0]; exact HU.out
      rw [← hw0] at *
      clear HU
      clear hw0
      go_loopw [4] (fun J wr => ∃ j : Nat, j ≤ ln ∧ J = .int .i64 (j : Int) ∧ Hid (Up W wr)) (fun J _ => ln - (intOf J).toNat)
      case atStart => exact ⟨0, by omega, rfl, HU0⟩
      case round =>
        clear HU0
        obtain ⟨j, hj, rfl, HU⟩ := hrel
        clear k3 k4
        obtain ⟨k3, k4⟩ := HK.out wr HU.out
        obtain ⟨k5, k6⟩ := HC.out wr HU.out
        by_cases hjl : j < ln
        · have d2 : (j : Int) < (ln : Int) := by omega
          obtain rfl := HA.out (by omega)
          by_cases hj1 : j = 1000 ∧ 2000 < ln
          · obtain ⟨rfl, hj2⟩ := hj1
            have d3 : (2000 : Int) < (ln : Int) := by omega
            have k7 := HL.out (ln - 1000) (by omega) wr HU.out
            obtain ⟨J, hJ⟩ : ∃ J, J = ln - 1000 := ⟨_, rfl⟩
            have hJ2 : (ln : Int) - 1000 = (J : Int) := by omega
            rw [← hJ] at k7
            have d4 : (J : Int) < (ln : Int) := by omega
            have d5 : J < ln := by omega
            have d6 : 1000 < J := by omega
            clear HL hJ
            go_wp2_with fail
            go_quiet (fail)
            have HV : Hid (Up W (wr.drewN nq)) := HU.out.trans (Up.drewN wr nq)
            clear HU
            go_wp2_with fail
            refine ⟨⟨J + 1, by omega, by first | rfl | (simp; done), HV⟩, ?_⟩
            simp [intOf]
            omega
          · have k7 := HL.out j hjl wr HU.out
            clear HL
            by_cases hj2 : j = 1000
            · subst hj2
              have d3 : ¬ (2000 : Int) < (ln : Int) := by omega
              go_wp2_with fail
              go_quiet (fail)
              have HV : Hid (Up W (wr.drewN nq)) := HU.out.trans (Up.drewN wr nq)
              clear HU
              go_wp2_with fail
              refine ⟨⟨1000 + 1, by omega, by first | rfl | (simp; done), HV⟩, ?_⟩
              simp [intOf]
              omega
            · have d3 : ¬ (j : Int) = 1000 := by omega
              have d4 : ((j : Int) == 1000) = false := by simpa using d3
              go_wp2_with fail
              go_quiet (fail)
              have HV : Hid (Up W (wr.drewN nq)) := HU.out.trans (Up.drewN wr nq)
              clear HU
              go_wp2_with fail
              refine ⟨⟨j + 1, by omega, by first | rfl | (simp; done), HV⟩, ?_⟩
              simp [intOf]
              omega
        · have d2 : ¬ (j : Int) < (ln : Int) := by omega
          go_wp2_with fail
          refine ⟨⟨i + 1, by omega, by first | rfl | (simp; done), HU⟩, ?_⟩
          simp [intOf]
          omega
    · have d1 : ¬ (i : Int) < (N : Int) := by omega
      go_wp2_with fail
      go_ret
      exact ⟨by first | rfl | (simp; done), HU.out⟩
end Go.Proofs.YtojlappgmckokaaDoor
