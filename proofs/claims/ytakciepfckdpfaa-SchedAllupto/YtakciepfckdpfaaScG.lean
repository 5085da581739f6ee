/- Sched: as it lies in memory. -/
import Derived.Test.YtakciepfckdpfaaScF
namespace Go.Proofs.Ytakciepfckdpfaa
open Go.RowKit
set_option linter.unusedVariables false
variable {w w' W : World} {K K' : Nat → Prop} {sb sg sc : Nat} {rv rv' : Value} {S S' : Sd}
theorem own_lt {ty : TypeId} {size n : Nat} {v : Value} {xs : List Value} {b : Nat} (h : w.ownsRow 0 ty size v n xs) (e : v.ownBlock = some b) : b < w.heap.size := by
  rcases own_cases h with ⟨rfl, _, _⟩ | ⟨g, cap, rfl, _, _, hg, he⟩
  · cases e
  · rw [he] at e
    injection e with e
    omega
/-- a sched; the blocks of K are none of its -/
structure SdR (K : Nat → Prop) (w : World) (sb sg sc : Nat) (rv : Value) (S : Sd) : Prop where
  kn : ∀ b, K b → b ≠ sb ∧ b ≠ sg ∧ rv.ownBlock ≠ some b
  kb : ∀ b, K b → b < w.heap.size
  blk : w.heap[sb]? = some (.cells #[rv, .slice (some ⟨sg, 0, none⟩) S.slo.length sc] 64 (0, 0))
  slo : w.ownsRow 0 60 2 (.slice (some ⟨sg, 0, none⟩) S.slo.length sc) S.slo.length (memCells S.slo)
  row : w.ownsRow 0 69 2 rv S.rnd.length (memCells S.rnd)
  a1 : sb ≠ sg
  a2 : rv.ownBlock ≠ some sb
  a3 : rv.ownBlock ≠ some sg
  len : S.rnd.length ≤ 64
def SdAt (K : Nat → Prop) (w : World) (sb : Nat) (S : Sd) : Prop := ∃ sg sc rv, SdR K w sb sg sc rv S
theorem SdR.sglt (h : SdR K w sb sg sc rv S) : sg < w.heap.size := own_lt h.slo rfl
/-- whatever a call changes -/
theorem SdR.chg (h : SdR K w sb sg sc rv S) (os : w'.os = w.os) (out : w'.output = w.output) (size : w.heap.size ≤ w'.heap.size)
    (hB : ∀ b, b < w.heap.size → b ≠ sb → b ≠ sg → rv.ownBlock ≠ some b → w'.heap[b]? = w.heap[b]?) (hv : ∀ b, rv'.ownBlock = some b → rv.ownBlock = some b ∨ w.heap.size ≤ b)
    (blk : w'.heap[sb]? = some (.cells #[rv', .slice (some ⟨sg, 0, none⟩) S'.slo.length sc] 64 (0, 0)))
    (slo : w'.ownsRow 0 60 2 (.slice (some ⟨sg, 0, none⟩) S'.slo.length sc) S'.slo.length (memCells S'.slo))
    (row : w'.ownsRow 0 69 2 rv' S'.rnd.length (memCells S'.rnd)) (len : S'.rnd.length ≤ 64) : SdR K w' sb sg sc rv' S' ∧ FK K w w' := by
  have l1 := heap_at h.blk
  have l2 := h.sglt
  refine ⟨⟨fun b hb => ⟨(h.kn b hb).1, (h.kn b hb).2.1, fun e => ?_⟩, fun b hb => Nat.lt_of_lt_of_le (h.kb b hb) size, blk, slo, row, h.a1, fun e => ?_, fun e => ?_, len⟩, ⟨os, out, size, fun b hb hk => hB b hb (h.kn b hk).1 (h.kn b hk).2.1 (h.kn b hk).2.2⟩⟩
  · have := h.kb b hb
    rcases hv b e with e | e
    · exact (h.kn b hb).2.2 e
    · omega
  · rcases hv sb e with e | e
    · exact h.a2 e
    · omega
  · rcases hv sg e with e | e
    · exact h.a3 e
    · omega
/-- where none of its blocks has changed -/
theorem SdR.keep (h : SdR K w sb sg sc rv S) (hk : ∀ b, K' b → b ≠ sb ∧ b ≠ sg ∧ rv.ownBlock ≠ some b) (hkb : ∀ b, K' b → b < w'.heap.size) (e1 : w'.heap[sb]? = w.heap[sb]?) (e2 : w'.heap[sg]? = w.heap[sg]?) (e3 : ∀ b, rv.ownBlock = some b → w'.heap[b]? = w.heap[b]?) : SdR K' w' sb sg sc rv S :=
  ⟨hk, hkb, e1.trans h.blk, ownsRow_block h.slo (fun g hg => by injection hg with hg; subst hg; exact e2), ownsRow_block h.row e3, h.a1, h.a2, h.a3, h.len⟩
theorem SdR.up (h : SdR K w sb sg sc rv S) (u : Up w w') : SdR K w' sb sg sc rv S :=
  h.keep h.kn (fun b hb => Nat.lt_of_lt_of_le (h.kb b hb) u.size) (u.block _ (heap_at h.blk)) (u.block _ h.sglt) (fun b e => u.block b (own_lt h.row e))
theorem SdR.upK (h : SdR K w sb sg sc rv S) (u : Up w w') (hk : ∀ b, K' b → K b ∨ (w.heap.size ≤ b ∧ b < w'.heap.size)) : SdR K' w' sb sg sc rv S := by
  have l1 := heap_at h.blk
  have l2 := h.sglt
  refine h.keep (fun b hb => ?_) (fun b hb => ?_) (u.block _ l1) (u.block _ l2) (fun b e => u.block b (own_lt h.row e))
  · rcases hk b hb with h1 | h1
    · exact h.kn b h1
    · exact ⟨by omega, by omega, fun e => by have := own_lt h.row e; omega⟩
  · rcases hk b hb with h1 | h1
    · exact Nat.lt_of_lt_of_le (h.kb b h1) u.size
    · exact h1.2
theorem SdAt.up (h : SdAt K w sb S) (u : Up w w') : SdAt K w' sb S := by
  obtain ⟨sg, sc, rv, h⟩ := h
  exact ⟨sg, sc, rv, h.up u⟩
theorem SdAt.upK (h : SdAt K w sb S) (u : Up w w') (hk : ∀ b, K' b → K b ∨ (w.heap.size ≤ b ∧ b < w'.heap.size)) : SdAt K' w' sb S := by
  obtain ⟨sg, sc, rv, h⟩ := h
  exact ⟨sg, sc, rv, h.upK u hk⟩
/-- blocks of K may change, if no one looks at them -/
theorem SdAt.fk (h : SdAt K w sb S) (u : FK (fun b => ¬ K b) w w') : SdAt K w' sb S := by
  obtain ⟨sg, sc, rv, h⟩ := h
  exact ⟨sg, sc, rv, h.keep h.kn (fun b hb => Nat.lt_of_lt_of_le (h.kb b hb) u.size) (u.block _ (heap_at h.blk) (fun e => (h.kn _ e).1 rfl)) (u.block _ h.sglt (fun e => (h.kn _ e).2.1 rfl)) (fun b e => u.block b (own_lt h.row e) (fun k => (h.kn _ k).2.2 e))⟩
theorem SdAt.fr {b : Nat} (h : SdAt K w sb S) (u : Fr b w w') (hb : K b) : SdAt K w' sb S :=
  h.fk ⟨u.os, u.output, u.size, fun c hc hk => u.block c hc (fun e => hk (e ▸ hb))⟩
theorem SdAt.kb (h : SdAt K w sb S) : ∀ b, K b → b < w.heap.size := by
  obtain ⟨sg, sc, rv, h⟩ := h
  exact h.kb
theorem SdAt.len (h : SdAt K w sb S) : S.rnd.length ≤ 64 := by
  obtain ⟨sg, sc, rv, h⟩ := h
  exact h.len
theorem SdR.k0 (h : SdR K w sb sg sc rv S) : w.cell? ⟨sb, 0, none⟩ = some rv := heap_cell h.blk rfl
theorem SdR.k1 (h : SdR K w sb sg sc rv S) : w.cell? ⟨sb, 1, none⟩ = some (.slice (some ⟨sg, 0, none⟩) S.slo.length sc) := heap_cell h.blk rfl
theorem SdR.fz (h : SdR K w sb sg sc rv S) (k : Nat) : w.frozen? ⟨sb, k, none⟩ = false := heap_fz h.blk
theorem SdR.scl (h : SdR K w sb sg sc rv S) : S.slo.length ≤ sc ∧ sc ≤ 9223372036854775807 := by
  obtain ⟨cur, _, _, hc, hm, _⟩ := own_open h.slo
  unfold maxLen at hm
  exact ⟨hc, by omega⟩
theorem SdR.rvl (h : SdR K w sb sg sc rv S) : ∃ ra rc, rv = .slice ra S.rnd.length rc ∧ S.rnd.length ≤ rc ∧ rc ≤ 9223372036854775807 := by
  rcases own_cases h.row with ⟨hv, hn, _⟩ | ⟨g, cap, hv, h1, h2, _⟩
  · exact ⟨none, 0, by rw [hv, hn], by omega, by omega⟩
  · exact ⟨_, cap, hv, h1, by unfold maxLen at h2; omega⟩
/-- one cell of a row is set -/
theorem own_set {ty : TypeId} {g n cap i r : Nat} {l : List Mem} {x : Mem} {v : Value} (h : w.ownsRow 0 ty 2 (.slice (some ⟨g, 0, none⟩) n cap) n (memCells l)) (hn : l.length = n) (hi : l[i]? = some x) {y : Mem} (hy : ∀ k, k < 2 → y.cells[k]? = if k = r then some v else x.cells[k]?) (hr : r < 2) :
    (w.setCell ⟨g, i * 2 + r, none⟩ v).ownsRow 0 ty 2 (.slice (some ⟨g, 0, none⟩) n cap) n (memCells (l.set i y)) := by
  have hil := (List.getElem?_eq_some_iff.1 hi).1
  obtain ⟨cur, hg, hb, hc, hm, hs, ht, hl⟩ := own_open h
  refine own_of (heap_setCell_same w g (i * 2 + r) _ _ v hg) hb hc hm (by rw [Array.size_setIfInBounds]; exact hs) (by rw [memCells_len, List.length_set, hn]) (fun k hk => ?_)
  rw [memCells_set l i k y (by omega), Array.getElem?_setIfInBounds, own_at ht k hk]
  by_cases e : i * 2 + r = k
  · subst e
    rw [if_pos rfl, if_pos (by omega), if_pos (by omega), hy _ (by omega), if_pos (by omega)]
  · rw [if_neg e]
    by_cases e2 : k / 2 = i
    · rw [if_pos e2, hy _ (by omega), if_neg (by omega)]
      have := memCells_at l i (k % 2) x hi (by omega)
      rw [show i * 2 + k % 2 = k by omega] at this
      exact this
    · rw [if_neg e2]
/-- both cells of one are set -/
theorem own_set2 {ty : TypeId} {g n cap i : Nat} {l : List Mem} {y : Mem} (h : w.ownsRow 0 ty 2 (.slice (some ⟨g, 0, none⟩) n cap) n (memCells l)) (hn : l.length = n) (hi : i < n) :
    (w.setCells g (i * 2) y.cells).ownsRow 0 ty 2 (.slice (some ⟨g, 0, none⟩) n cap) n (memCells (l.set i y)) := by
  obtain ⟨cur, hg, hb, hc, hm, hs, ht, hl⟩ := own_open h
  have hyl : y.cells.length = 2 := rfl
  refine own_of (heap_setCells_same g _ _ _ _ w hg) hb hc hm (by rw [putL_size]; exact hs) (by rw [memCells_len, List.length_set, hn]) (fun k hk => ?_)
  rw [memCells_set l i k y (by omega), putL_at _ _ _ _ (by rw [hyl, hs]; omega), own_at ht k hk, hyl]
  by_cases e2 : k / 2 = i
  · rw [if_pos (by omega), if_pos e2, show k - i * 2 = k % 2 by omega]
  · rw [if_neg (by omega), if_neg e2]
theorem own_there {ty : TypeId} {g n cap i : Nat} {l : List Value} (h : w.ownsRow 0 ty 2 (.slice (some ⟨g, 0, none⟩) n cap) n l) (hi : i < n) (k : Nat) (hk : k < 2) : (w.cell? ⟨g, i * 2 + k, none⟩).isSome = true ∧ w.frozen? ⟨g, i * 2 + k, none⟩ = false := by
  obtain ⟨cur, hg, hb, hc, hm, hs, ht, hl⟩ := own_open h
  refine ⟨?_, heap_fz hg⟩
  rw [cell_of_row _ _ _ _ _ _ hg, Array.getElem?_eq_getElem (by omega)]
  rfl
theorem SdR.refl (h : SdR K w sb sg sc rv S) : SdAt K w sb S ∧ FK K w w := ⟨⟨_, _, _, h⟩, FK.ofUp (Up.refl w)⟩
theorem SdR.refl_up (h : SdR K w sb sg sc rv S) (u : Up w w') : SdAt K w' sb S ∧ FK K w w' := ⟨⟨_, _, _, h.up u⟩, FK.ofUp u⟩
end Go.Proofs.Ytakciepfckdpfaa
