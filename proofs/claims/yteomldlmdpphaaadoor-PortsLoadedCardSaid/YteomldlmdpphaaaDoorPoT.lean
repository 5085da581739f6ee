/- The bytes that were sent: a row of the ports' own; the first one is taken away, one is put behind. -/
import Derived.Test.YteomldlmdpphaaaDoorPoM
import Derived.Test.YteomldlmdpphaaaDoorPoS
import Derived.Laws.OwnMore
import Derived.OwnWalk
import Derived.Below
namespace Go.Proofs.YteomldlmdpphaaaDoor
open Go.RowKit
set_option linter.unusedVariables false
/-- a row of bytes of its own -/
def SeAt (W : World) (base : Nat) (v : Value) (zs : List Int) : Prop := W.ownsRow base 5 1 v zs.length (zs.map (Value.int .u8))
/-- all but one block and one row -/
structure FrS (b : Nat) (r : Option Nat) (w w' : World) : Prop where
  os : w'.os = w.os
  output : w'.output = w.output
  size : w.heap.size ≤ w'.heap.size
  block : ∀ k, k < w.heap.size → k ≠ b → some k ≠ r → w'.heap[k]? = w.heap[k]?
/-- the row is where it was, or new -/
def Moved (w : World) (r r' : Option Nat) : Prop := r' = r ∨ r' = none ∨ ∃ g, r' = some g ∧ w.heap.size ≤ g
theorem FrS.ofFr {b : Nat} {r : Option Nat} {w w' : World} (h : Fr b w w') : FrS b r w w' := ⟨h.os, h.output, h.size, fun k hk hb _ => h.block k hk hb⟩
theorem FrS.trans {b : Nat} {r r' : Option Nat} {x y z : World} (h : FrS b r x y) (m : Moved x r r') (k : FrS b r' y z) : FrS b r x z :=
  ⟨k.os.trans h.os, k.output.trans h.output, Nat.le_trans h.size k.size, fun j hj hb hr => (k.block j (Nat.lt_of_lt_of_le hj h.size) hb (by
    rcases m with e | e | ⟨g, e, hg⟩
    · rw [e]; exact hr
    · rw [e]; intro h; cases h
    · rw [e]; intro h; injection h with h; omega)).trans (h.block j hj hb hr)⟩
theorem Moved.refl (w : World) (r : Option Nat) : Moved w r r := Or.inl rfl
theorem Moved.trans {x y : World} {r r1 r2 : Option Nat} (h : Moved x r r1) (hs : x.heap.size ≤ y.heap.size) (k : Moved y r1 r2) : Moved x r r2 := by
  rcases k with e | e | ⟨g, e, hg⟩
  · rw [e]; exact h
  · exact Or.inr (Or.inl e)
  · exact Or.inr (Or.inr ⟨g, e, Nat.le_trans hs hg⟩)
theorem SeAt.of_block {W W' : World} {base : Nat} {v : Value} {zs : List Int} (h : SeAt W base v zs) (hb : ∀ k, v.ownBlock = some k → W'.heap[k]? = W.heap[k]?) : SeAt W' base v zs := by
  refine ⟨h.1, ?_⟩
  rcases h.2 with h0 | ⟨g, cap, cur, rfl, h1, h2, h3⟩
  · exact Or.inl h0
  · exact Or.inr ⟨g, cap, cur, rfl, h1, (hb g rfl).trans h2, h3⟩
theorem SeAt.fr {W W' : World} {base b : Nat} {v : Value} {zs : List Int} (h : SeAt W base v zs) (u : Fr b W W') (hb : b < base) : SeAt W' base v zs :=
  h.of_block fun k hk => u.block k (h.lt k hk).2 (by have := (h.lt k hk).1; omega)
theorem SeAt.up {W W' : World} {base : Nat} {v : Value} {zs : List Int} (h : SeAt W base v zs) (u : Up W W') : SeAt W' base v zs :=
  h.of_block fun k hk => u.block k (h.lt k hk).2
theorem take_put (cur : Array Value) (ts : List Int) (m : Nat) (hm : m ≤ ts.length) (h : ts.length ≤ cur.size) : (Sort.putCells (Value.int .u8) 0 ts.toArray cur).toList.take m = (ts.take m).map (Value.int .u8) := by
  apply List.ext_getElem?
  intro j
  by_cases hj : j < m
  · rw [List.getElem?_take_of_lt hj, Array.getElem?_toList]
    simp [Sort.putCells, hj, show j < ts.length by omega, show j < cur.size by omega]
  · rw [List.getElem?_take_eq_none (by omega), List.getElem?_eq_none (by simp; omega)]
/-- the first one is taken away -/
theorem drop_any (g cap base : Nat) (zs : List Int) (hl : zs.length = 256) (W : World) (h : SeAt W base (.slice (some ⟨g, 0, none⟩) 256 cap) zs) :
    Calls Tryd.prog 71 #[.slice (some ⟨g, 0, none⟩) 256 cap, .int .i64 0, .int .i64 1] W fun e w' => e = .returned (.slice (some ⟨g, 0, none⟩) 255 cap) ∧ SeAt w' base (.slice (some ⟨g, 0, none⟩) 255 cap) (zs.drop 1) ∧ FrS g none W w' := by
  obtain ⟨h0, hh⟩ := h
  rcases hh with ⟨hv, _⟩ | ⟨g', cap', cur, hv, hbase, hg, hn, hcm, hcs, htk⟩
  · cases hv
  injection hv with e1 e2 e3
  injection e1 with e1
  injection e1 with e1
  subst e1 e3
  have hz : zs.toArray.size = 256 := by simp [hl]
  have hH : Sort.Holds (Value.int .u8) W g 0 zs.toArray := by
    intro j hj
    have hj' : j < zs.length := by simpa using hj
    refine ⟨?_, by simp [World.frozen?, hg]⟩
    have h1 : (cur.toList.take (zs.length * 1))[j]? = (zs.map (Value.int .u8))[j]? := by rw [htk]
    rw [Nat.mul_one, List.getElem?_take_of_lt hj'] at h1
    simp only [World.cell?, hg, Nat.zero_add]
    simp only [Option.isSome_none, Bool.false_eq_true, if_false]
    rw [← Array.getElem?_toList, h1]
    simp [hj']
  have := delete_any g 0 cap 0 1 zs.toArray W hH (by rw [hz]; omega) (by have := hcm; unfold maxLen at this; omega) (by decide) (by rw [hz]; decide)
  rw [hz] at this
  refine this.mono ?_
  rintro e w' ⟨rfl, q, rfl⟩
  have hd : (zs.toArray.toList.take 0 ++ zs.toArray.toList.drop 1 ++ List.replicate (1 - 0) 0) = zs.drop 1 ++ [0] := by simp
  rw [hd]
  have hlen : (zs.drop 1 ++ [(0 : Int)]).length = 256 := by simp [hl]
  have hcur : 256 ≤ cur.size := by omega
  refine ⟨rfl, ⟨by simp, Or.inr ⟨g, cap, Sort.putCells (Value.int .u8) 0 (zs.drop 1 ++ [0]).toArray cur, by simp [hl], hbase, ?_, by simp; omega, hcm, by simp [Sort.putCells, hcs], ?_⟩⟩, ⟨rfl, rfl, by simp [Sort.ahead], fun k hk hb _ => ?_⟩⟩
  · simp [Sort.putRow, Sort.mapBlock, Sort.ahead, Array.getElem?_modify, hg, Sort.onCells]
  · rw [Nat.mul_one, take_put cur _ _ (by simp) (by rw [hlen]; exact hcur)]
    simp
  · have : g ≠ k := fun e => hb e.symm
    simp [Sort.putRow, Sort.mapBlock, Sort.ahead, Array.getElem?_modify, this]
end Go.Proofs.YteomldlmdpphaaaDoor
