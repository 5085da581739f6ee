/- Arena: what the law holds beside the pool. -/
import Derived.Test.YteijdcidemajfaaAsI
namespace Go.Proofs.Yteijdcidemajfaa
open Go.RowKit
set_option linter.unusedVariables false
variable {K K' O : Nat → Prop} {w w' W : World} {pb : Nat} {P P' : Pl} {lv bv : Value} {ll bl : List Loan}
def byteCells (ls : List Loan) : List Value := ls.map fun l => .slice (some ⟨l.blk, 0, none⟩) l.size l.size
theorem byteCells_at {ls : List Loan} {j : Nat} {l : Loan} (h : ls[j]? = some l) : (byteCells ls)[j]? = some (.slice (some ⟨l.blk, 0, none⟩) l.size l.size) := by
  unfold byteCells
  rw [List.getElem?_map, h]
  rfl
theorem byteCells_snoc (ls : List Loan) (l : Loan) : byteCells (ls ++ [l]) = byteCells ls ++ [.slice (some ⟨l.blk, 0, none⟩) l.size l.size] := by
  unfold byteCells
  rw [List.map_append]
  rfl
/-- rows of leases and of bytes, and the bytes -/
structure Ht (O : Nat → Prop) (w : World) (lv bv : Value) (ll bl : List Loan) : Prop where
  lo : w.ownsRow 0 38 3 lv ll.length (leaseCells ll)
  bo : w.ownsRow 0 45 1 bv bl.length (byteCells bl)
  by' : ∀ l ∈ bl, NmAt w l.blk l.size l.f
  ol : ∀ b, lv.ownBlock = some b → O b
  ob : ∀ b, bv.ownBlock = some b → O b
  oy : ∀ l ∈ bl, O l.blk
  n1 : ∀ b, lv.ownBlock = some b → bv.ownBlock ≠ some b
  n2 : ∀ l ∈ bl, lv.ownBlock ≠ some l.blk ∧ bv.ownBlock ≠ some l.blk
  n3 : (bl.map (·.blk)).Nodup
theorem own_lt0 {ty : TypeId} {size n base : Nat} {v : Value} {xs : List Value} {b : Nat} (h : w.ownsRow base ty size v n xs) (e : v.ownBlock = some b) : base ≤ b ∧ b < w.heap.size := by
  rcases h.2 with ⟨rfl, _⟩ | ⟨g, cap, cur, rfl, hb, hg, _⟩
  · cases e
  · have e : g = b := Option.some.inj (show some g = some b from e)
    subst e
    exact ⟨hb, heap_at hg⟩
theorem Ht.lt (h : Ht O w lv bv ll bl) : (∀ b, lv.ownBlock = some b → b < w.heap.size) ∧ (∀ b, bv.ownBlock = some b → b < w.heap.size) ∧ ∀ l ∈ bl, l.blk < w.heap.size :=
  ⟨fun b e => (own_lt0 h.lo e).2, fun b e => (own_lt0 h.bo e).2, fun l hl => (h.by' l hl).lt⟩
/-- .. where none of these blocks has changed -/
theorem Ht.same (h : Ht O w lv bv ll bl) (e : ∀ b, b < w.heap.size → O b → w'.heap[b]? = w.heap[b]?) : Ht O w' lv bv ll bl :=
  ⟨ownsRow_block h.lo (fun b hb => e b (h.lt.1 b hb) (h.ol b hb)), ownsRow_block h.bo (fun b hb => e b (h.lt.2.1 b hb) (h.ob b hb)), fun l hl => (h.by' l hl).of_block (e _ (h.lt.2.2 l hl) (h.oy l hl)), h.ol, h.ob, h.oy, h.n1, h.n2, h.n3⟩
theorem Ht.mono {O' : Nat → Prop} (h : Ht O w lv bv ll bl) (e : ∀ b, O b → O' b) : Ht O' w lv bv ll bl :=
  ⟨h.lo, h.bo, h.by', fun b hb => e b (h.ol b hb), fun b hb => e b (h.ob b hb), fun l hl => e _ (h.oy l hl), h.n1, h.n2, h.n3⟩
/-- one lease more -/
theorem Ht.lease {x : Loan} {v' : Value} (h : Ht O w lv bv ll bl) (own : w'.ownsRow 0 38 3 v' (ll.length + 1) (leaseCells ll ++ x.lease)) (sz : w.heap.size ≤ w'.heap.size) (gr : ∀ b, b < w.heap.size → lv.ownBlock ≠ some b → w'.heap[b]? = w.heap[b]?) (at' : ∀ b, v'.ownBlock = some b → lv.ownBlock = some b ∨ w.heap.size ≤ b) :
    Ht (fun b => O b ∨ (w.heap.size ≤ b ∧ b < w'.heap.size)) w' v' bv (ll ++ [x]) bl := by
  refine ⟨by rw [leaseCells_snoc, List.length_append]; exact own, ownsRow_block h.bo (fun b hb => gr b (h.lt.2.1 b hb) (fun e => h.n1 b e hb)), fun l hl => (h.by' l hl).of_block (gr _ (h.lt.2.2 l hl) (h.n2 l hl).1), fun b hb => ?_, fun b hb => Or.inl (h.ob b hb), fun l hl => Or.inl (h.oy l hl), fun b hb hc => ?_, fun l hl => ⟨fun e => ?_, (h.n2 l hl).2⟩, h.n3⟩
  · rcases at' b hb with e | e
    · exact Or.inl (h.ol b e)
    · exact Or.inr ⟨e, (own_lt0 own hb).2⟩
  · rcases at' b hb with e | e
    · exact h.n1 b e hc
    · have := h.lt.2.1 b hc
      omega
  · rcases at' _ e with e | e
    · exact (h.n2 l hl).1 e
    · have := h.lt.2.2 l hl
      omega
/-- one list of bytes more: block zb is new behind w -/
theorem Ht.bytes {x : Loan} {v' : Value} (h : Ht O w lv bv ll bl) (hz : w.heap.size ≤ x.blk) (nz : NmAt w' x.blk x.size x.f) (hzv : v'.ownBlock ≠ some x.blk) (own : w'.ownsRow 0 45 1 v' (bl.length + 1) (byteCells bl ++ [.slice (some ⟨x.blk, 0, none⟩) x.size x.size])) (gr : ∀ b, b < w.heap.size → bv.ownBlock ≠ some b → w'.heap[b]? = w.heap[b]?) (at' : ∀ b, v'.ownBlock = some b → bv.ownBlock = some b ∨ w.heap.size ≤ b) :
    Ht (fun b => O b ∨ (w.heap.size ≤ b ∧ b < w'.heap.size)) w' lv v' ll (bl ++ [x]) := by
  refine ⟨ownsRow_block h.lo (fun b hb => gr b (h.lt.1 b hb) (h.n1 b hb)), by rw [byteCells_snoc, List.length_append]; exact own, fun l hl => ?_, fun b hb => Or.inl (h.ol b hb), fun b hb => ?_, fun l hl => ?_, fun b hb hc => ?_, fun l hl => ?_, ?_⟩
  · rcases List.mem_append.1 hl with hl | hl
    · exact (h.by' l hl).of_block (gr _ (h.lt.2.2 l hl) (h.n2 l hl).2)
    · rw [List.mem_singleton.1 hl]
      exact nz
  · rcases at' b hb with e | e
    · exact Or.inl (h.ob b e)
    · exact Or.inr ⟨e, (own_lt0 own hb).2⟩
  · rcases List.mem_append.1 hl with hl | hl
    · exact Or.inl (h.oy l hl)
    · rw [List.mem_singleton.1 hl]
      exact Or.inr ⟨hz, nz.lt⟩
  · rcases at' b hc with e | e
    · exact h.n1 b hb e
    · have := h.lt.1 b hb
      omega
  · rcases List.mem_append.1 hl with hl | hl
    · refine ⟨(h.n2 l hl).1, fun e => ?_⟩
      rcases at' _ e with e | e
      · exact (h.n2 l hl).2 e
      · have := h.lt.2.2 l hl
        omega
    · rw [List.mem_singleton.1 hl]
      exact ⟨fun e => by have := h.lt.1 _ e; omega, hzv⟩
  · rw [List.map_append, List.nodup_append]
    refine ⟨h.n3, by simp, fun b hb c hc => ?_⟩
    obtain ⟨l, hl, rfl⟩ := List.mem_map.1 hb
    simp at hc
    have := h.lt.2.2 l hl
    omega
/-- a byte of the k-th list is written -/
theorem Ht.stored {k a : Nat} {l : Loan} {v : Int} (h : Ht O w lv bv ll bl) (hk : bl[k]? = some l) (ha : a < l.size) : Ht O (w.setCell ⟨l.blk, a, none⟩ (.int .u8 v)) lv bv ll (bl.set k (l.stored a 1 (fun _ => v))) := by
  have hlm := List.mem_of_getElem? hk
  have hf : Fr l.blk w (w.setCell ⟨l.blk, a, none⟩ (.int .u8 v)) := (Fr.refl l.blk w).setCell
  have hbl : (bl.set k (l.stored a 1 (fun _ => v))).map (·.blk) = bl.map (·.blk) := blks_stored hk a 1 _
  have hmem : ∀ m ∈ bl.set k (l.stored a 1 (fun _ => v)), m = l.stored a 1 (fun _ => v) ∨ (m ∈ bl ∧ m.blk ≠ l.blk) := fun m hm => by
    obtain ⟨j, hj⟩ := List.mem_iff_getElem?.1 hm
    rw [List.getElem?_set] at hj
    by_cases e : k = j
    · rw [if_pos e] at hj
      split at hj
      · injection hj with hj
        exact Or.inl hj.symm
      · cases hj
    · rw [if_neg e] at hj
      refine Or.inr ⟨List.mem_of_getElem? hj, fun e2 => e ?_⟩
      have hpl := (List.getElem?_eq_some_iff.1 hk).1
      have hjl := (List.getElem?_eq_some_iff.1 hj).1
      have e3 : (bl.map (·.blk))[k]'(by simpa using hpl) = (bl.map (·.blk))[j]'(by simpa using hjl) := by
        rw [List.getElem_map, List.getElem_map, (List.getElem?_eq_some_iff.1 hk).2, (List.getElem?_eq_some_iff.1 hj).2]
        exact e2.symm
      exact (List.getElem_inj h.n3).1 e3
  have hbc : byteCells (bl.set k (l.stored a 1 (fun _ => v))) = byteCells bl := by
    unfold byteCells
    rw [List.map_set]
    refine List.ext_getElem? fun j => ?_
    rw [List.getElem?_set]
    by_cases e : k = j
    · subst e
      rw [if_pos rfl, List.getElem?_map, hk]
      simp
      have := (List.getElem?_eq_some_iff.1 hk).1
      exact ⟨this, rfl, rfl⟩
    · rw [if_neg e]
  refine ⟨ownsRow_block h.lo (fun b hb => hf.block b (h.lt.1 b hb) (fun e => (h.n2 l hlm).1 (e ▸ hb))), ?_, fun m hm => ?_, h.ol, h.ob, fun m hm => ?_, h.n1, fun m hm => ?_, by rw [hbl]; exact h.n3⟩
  · rw [hbc, List.length_set]
    exact ownsRow_block h.bo (fun b hb => hf.block b (h.lt.2.1 b hb) (fun e => (h.n2 l hlm).2 (e ▸ hb)))
  · rcases hmem m hm with rfl | ⟨hm, hne⟩
    · have := (h.by' l hlm).set a ha v
      refine this.congr (fun j hj => ?_)
      show (if j = a then v else l.f j) = (if a ≤ j ∧ j < a + 1 then v else l.f j)
      by_cases e : j = a
      · rw [if_pos e, if_pos (by omega)]
      · rw [if_neg e, if_neg (by omega)]
    · exact (h.by' m hm).of_block (hf.block _ (h.lt.2.2 m hm) hne)
  · rcases hmem m hm with rfl | ⟨hm, _⟩
    · exact h.oy l hlm
    · exact h.oy m hm
  · rcases hmem m hm with rfl | ⟨hm, _⟩
    · exact h.n2 l hlm
    · exact h.n2 m hm
/-- nothing is held -/
theorem Ht.nil (O : Nat → Prop) (w : World) : Ht O w (.slice none 0 0) (.slice none 0 0) [] [] :=
  ⟨⟨rfl, Or.inl ⟨rfl, rfl⟩⟩, ⟨rfl, Or.inl ⟨rfl, rfl⟩⟩, fun l hl => by (cases hl), fun b hb => by (cases hb), fun b hb => by (cases hb), fun l hl => by (cases hl), fun b hb => by (cases hb), fun l hl => by (cases hl), by simp⟩
/-- new rows of leases and bytes, of some of those that were there -/
theorem Ht.rows {l2 b2 : List Loan} {v1 v2 : Value} (h : Ht O w lv bv ll bl) (u : Up w w') (h1 : w'.ownsRow w.heap.size 38 3 v1 l2.length (leaseCells l2)) (h2 : w'.ownsRow w.heap.size 45 1 v2 b2.length (byteCells b2)) (hs : b2.Sublist bl) (ne : ∀ b, v1.ownBlock = some b → v2.ownBlock ≠ some b) :
    Ht (fun b => O b ∨ (w.heap.size ≤ b ∧ b < w'.heap.size)) w' v1 v2 l2 b2 := by
  have hm : ∀ l ∈ b2, l ∈ bl := fun l hl => hs.subset hl
  refine ⟨⟨h1.1, h1.2.imp id fun ⟨g, cap, cur, q1, q2, q3⟩ => ⟨g, cap, cur, q1, Nat.zero_le _, q3⟩⟩, ⟨h2.1, h2.2.imp id fun ⟨g, cap, cur, q1, q2, q3⟩ => ⟨g, cap, cur, q1, Nat.zero_le _, q3⟩⟩, fun l hl => (h.by' l (hm l hl)).of_block (u.block _ (h.lt.2.2 l (hm l hl))), fun b hb => Or.inr (own_lt0 h1 hb), fun b hb => Or.inr (own_lt0 h2 hb), fun l hl => Or.inl (h.oy l (hm l hl)), ne, fun l hl => ?_, (hs.map _).nodup h.n3⟩
  have := h.lt.2.2 l (hm l hl)
  exact ⟨fun e => by have := (own_lt0 h1 e).1; omega, fun e => by have := (own_lt0 h2 e).1; omega⟩
end Go.Proofs.Yteijdcidemajfaa
