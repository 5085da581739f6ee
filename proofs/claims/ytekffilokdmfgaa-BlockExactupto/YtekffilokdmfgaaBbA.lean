/- Block: the law's book of lists that came out. -/
import Derived.Test.YtekffilokdmfgaaBbG
namespace Go.Proofs.Ytekffilokdmfgaa
open Go.RowKit
set_option linter.unusedVariables false
set_option linter.unusedSimpArgs false
variable {w w' W : World} {base pb n : Nat} {S K : Nat → Prop} {m : Int} {v u : Value}
theorem RdM.keep (h : RdM m w v n) (hk : ∀ g, v.ownBlock = some g → w'.heap[g]? = w.heap[g]?) : RdM m w' v n := by
  obtain ⟨a, c, rfl, h1, h2, h3⟩ := h
  refine ⟨a, c, rfl, h1, h2, fun h0 => ?_⟩
  obtain ⟨g, o, rfl, h4⟩ := h3 h0
  refine ⟨g, o, rfl, fun k hk' => ?_⟩
  have e : w'.heap[g]? = w.heap[g]? := hk g rfl
  unfold World.cell?
  rw [show (w'.heap[(⟨g, o + k, none⟩ : Addr).block]?) = w.heap[(⟨g, o + k, none⟩ : Addr).block]? from e]
  exact h4 k hk'
theorem rdM_own (h : w.ownsRow base 5 1 v n (rep m n)) : RdM m w v n := by
  rcases own_cases h with ⟨rfl, rfl, _⟩ | ⟨g, cap, rfl, h1, h2, h3, h4⟩
  · exact ⟨none, 0, rfl, Nat.le_refl _, Nat.zero_le _, fun h0 => absurd h0 (Nat.lt_irrefl _)⟩
  · refine ⟨_, cap, rfl, h1, h2, fun h0 => ⟨g, 0, rfl, fun k hk => ?_⟩⟩
    have := own_cell h k (by omega)
    rw [this]
    unfold rep
    rw [List.getElem?_replicate, if_pos hk]
/-- the book: its cells, its lists, their marks -/
structure Bd where
  x0 : Value
  x1 : Value
  lv : Value
  mv : Value
  hv : Value
  wv : Value
  es : List Value
  ms : List Value
/-- nothing that the book holds is written by others: all of it lies in S -/
structure Bl (S : Nat → Prop) (base pb : Nat) (w : World) (L : Bd) : Prop where
  blk : w.heap[pb]? = some (.cells #[L.x0, L.x1, L.lv, L.mv, L.hv, L.wv] 28 (0, 0))
  bp : pb < base
  bs : base ≤ w.heap.size
  sb : ∀ b, S b → base ≤ b ∧ b < w.heap.size
  len : L.ms.length = L.es.length
  lo : w.ownsRow base 25 1 L.lv L.es.length L.es
  mo : w.ownsRow base 5 1 L.mv L.es.length L.ms
  ls : ∀ b, L.lv.ownBlock = some b → S b
  mS : ∀ b, L.mv.ownBlock = some b → S b ∧ L.lv.ownBlock ≠ some b
  en : ∀ (i : Nat) (e m : Value), L.es[i]? = some e → L.ms[i]? = some m → ∃ (k : Int) (n : Nat), m = .int .u8 k ∧ RdM k w e n ∧ ∀ b, e.ownBlock = some b → S b ∧ L.lv.ownBlock ≠ some b ∧ L.mv.ownBlock ≠ some b
variable {L : Bd}
theorem Bl.pl (h : Bl S base pb w L) : pb < w.heap.size := heap_at h.blk
theorem Bl.keep (h : Bl S base pb w L) (f : FK K w w') (hp : K pb) (hK : ∀ b, S b → K b) : Bl S base pb w' L := by
  have q : ∀ b, S b → w'.heap[b]? = w.heap[b]? := fun b hb => f.block b (h.sb b hb).2 (hK b hb)
  refine ⟨(f.block pb h.pl hp).trans h.blk, h.bp, Nat.le_trans h.bs f.size, fun b hb => ⟨(h.sb b hb).1, Nat.lt_of_lt_of_le (h.sb b hb).2 f.size⟩, h.len, own_keep h.lo fun g hg => q g (h.ls g hg), own_keep h.mo fun g hg => q g (h.mS g hg).1, h.ls, h.mS, fun i e m he hm => ?_⟩
  obtain ⟨k, n, h1, h2, h3⟩ := h.en i e m he hm
  exact ⟨k, n, h1, h2.keep fun g hg => q g (h3 g hg).1, h3⟩
theorem Bl.up (h : Bl S base pb w L) (f : Up w w') : Bl S base pb w' L := h.keep (K := fun _ => True) (FK.ofUp f) trivial (fun _ _ => trivial)
theorem Bl.wide {S' : Nat → Prop} (h : Bl S base pb w L) (hS : ∀ b, S b → S' b) (hb : ∀ b, S' b → base ≤ b ∧ b < w.heap.size) : Bl S' base pb w L :=
  ⟨h.blk, h.bp, h.bs, hb, h.len, h.lo, h.mo, fun b q => hS b (h.ls b q), fun b q => ⟨hS b (h.mS b q).1, (h.mS b q).2⟩, fun i e m he hm => by obtain ⟨k, n, h1, h2, h3⟩ := h.en i e m he hm; exact ⟨k, n, h1, h2, fun b hb => ⟨hS b (h3 b hb).1, (h3 b hb).2⟩⟩⟩
/-- a marked list, those grown from it, and all else as it was -/
structure Mq (base : Nat) (m : Int) (W : World) (v : Value) (n : Nat) (w : World) (l : List Value) : Prop where
  ov : w.ownsRow base 5 1 v n (rep m n)
  os : w.os = W.os
  output : w.output = W.output
  size : W.heap.size ≤ w.heap.size
  block : ∀ b, b < W.heap.size → v.ownBlock ≠ some b → w.heap[b]? = W.heap[b]?
  rd : ∀ e ∈ l, (∃ k, RdM m w e k) ∧ (e.ownBlock = v.ownBlock ∨ ∃ b, W.heap.size ≤ b ∧ b < w.heap.size ∧ e.ownBlock = some b)
variable {l : List Value}
theorem Mq.start (h : w.ownsRow base 5 1 v n (rep m n)) (os : w.os = W.os) (output : w.output = W.output) (size : W.heap.size ≤ w.heap.size) (block : ∀ b, b < W.heap.size → v.ownBlock ≠ some b → w.heap[b]? = W.heap[b]?) : Mq base m W v n w [v] :=
  ⟨h, os, output, size, block, fun e he => by rw [List.mem_singleton.1 he]; exact ⟨⟨n, rdM_own h⟩, Or.inl rfl⟩⟩
theorem Mq.up (h : Mq base m W v n w l) (f : Up w w') : Mq base m W v n w' l :=
  ⟨ownsRow_up h.ov f, f.os.trans h.os, f.output.trans h.output, Nat.le_trans h.size f.size, fun b hb hv => (f.block b (Nat.lt_of_lt_of_le hb h.size)).trans (h.block b hb hv), fun e he => by
    obtain ⟨⟨k, h1⟩, h2⟩ := h.rd e he
    refine ⟨⟨k, h1.up f⟩, h2.imp id fun ⟨b, b1, b2, b3⟩ => ⟨b, b1, Nat.lt_of_lt_of_le b2 f.size, b3⟩⟩⟩
theorem Mq.more {k : Nat} (h : Mq base m W v n w l) (g : Gn base m w v n k u w') : Mq base m W v n w' (l ++ [u]) := by
  refine ⟨g.ov, g.os.trans h.os, g.output.trans h.output, Nat.le_trans h.size g.size, fun b hb hv => (g.block b (Nat.lt_of_lt_of_le hb h.size) hv).trans (h.block b hb hv), fun e he => ?_⟩
  rcases List.mem_append.1 he with he | he
  · obtain ⟨⟨k', h1⟩, h2⟩ := h.rd e he
    exact ⟨⟨k', g.rd _ _ h1⟩, h2.imp id fun ⟨b, b1, b2, b3⟩ => ⟨b, b1, Nat.lt_of_lt_of_le b2 g.size, b3⟩⟩
  · rw [List.mem_singleton.1 he]
    refine ⟨⟨n + k, rdM_own g.ou⟩, g.loc.imp id fun ⟨b, b1, b2⟩ => ⟨b, Nat.le_trans h.size b1, (g.ou.lt b b2).2, b2⟩⟩
/-- the set that the book holds behind a list more -/
def SxB (S : Nat → Prop) (v : Value) (W w : World) : Nat → Prop := fun b => S b ∨ v.ownBlock = some b ∨ (W.heap.size ≤ b ∧ b < w.heap.size)
/-- what a list that was marked changes -/
def KxB (S : Nat → Prop) (v : Value) (pb : Nat) : Nat → Prop := fun b => ¬ S b ∧ v.ownBlock ≠ some b ∧ b ≠ pb
end Go.Proofs.Ytekffilokdmfgaa
