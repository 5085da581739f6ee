/- CpuMoves: what its loop keeps. -/
import Derived.Test.YtbfjihcnnefehaaGreatDoorKm
import Derived.Laws.OwnMore
import Derived.OwnWalk
import Derived.Below
namespace Go.Proofs.YtbfjihcnnefehaaGreatDoor
open Go.RowKit
set_option linter.unusedVariables false
structure MvAt (W4 : World) (pb : Nat) (C : Value) (l : List (Nat × Nat)) (p0 : Nat → Int) (W : World) : Prop where
  own : W.ownsRow (pb + 1) 5 1 C l.length ((mvC l).map (Value.int .u8))
  pl : ∀ k, k < 8 → W.cell? ⟨pb, k, none⟩ = some (.int .i64 (plP p0 l k)) ∧ W.frozen? ⟨pb, k, none⟩ = false
  fr : Fr pb W4 W
theorem MvAt.drew {W4 W : World} {pb : Nat} {C : Value} {l : List (Nat × Nat)} {p0 : Nat → Int} (h : MvAt W4 pb C l p0 W) : MvAt W4 pb C l p0 W.drew :=
  ⟨h.own, h.pl, ⟨h.fr.os, h.fr.output, h.fr.size, h.fr.block⟩⟩
/-- behind the append -/
structure MvMid (W4 : World) (pb : Nat) (C : Value) (l : List (Nat × Nat)) (ts : Nat × Nat) (p0 : Nat → Int) (W : World) : Prop where
  own : W.ownsRow (pb + 1) 5 1 C (l ++ [ts]).length ((mvC (l ++ [ts])).map (Value.int .u8))
  pl : ∀ k, k < 8 → W.cell? ⟨pb, k, none⟩ = some (.int .i64 (plP p0 l k)) ∧ W.frozen? ⟨pb, k, none⟩ = false
  fr : Fr pb W4 W
theorem MvMid.drew {W4 W : World} {pb : Nat} {C : Value} {l : List (Nat × Nat)} {ts : Nat × Nat} {p0 : Nat → Int} (h : MvMid W4 pb C l ts p0 W) : MvMid W4 pb C l ts p0 W.drew :=
  ⟨h.own, h.pl, ⟨h.fr.os, h.fr.output, h.fr.size, h.fr.block⟩⟩
theorem MvAt.app {W4 wr w' : World} {pb : Nat} {C C' : Value} {l : List (Nat × Nat)} {p0 : Nat → Int} (h : MvAt W4 pb C l p0 wr) (hW : W4.heap.size = pb + 1) (ts : Nat × Nat) (o : Obj) (hg : (wr.alloc o).grownBy w' C.ownBlock)
    (hown : w'.ownsRow (pb + 1) 5 1 C' (l.length + 1) ((mvC l).map (Value.int .u8) ++ [.int .u8 (ldOp ts.1 ts.2)])) : MvMid W4 pb C' l ts p0 w' := by
  have hs := h.fr.size
  have hu : Up wr (wr.alloc o) := (Up.refl wr).alloc o
  have hne : ∀ k, k < pb + 1 → some k ≠ C.ownBlock := fun k hk e => by
    have := (h.own.lt k e.symm).1
    omega
  have hb : ∀ k, k < pb + 1 → w'.heap[k]? = wr.heap[k]? := fun k hk =>
    (hg.block k (by simp; omega) (hne k hk)).trans (hu.block k (by omega))
  refine ⟨?_, fun k hk => ?_, ⟨hg.os.trans h.fr.os, hg.output.trans h.fr.output, ?_, fun k hk hkb => (hb k (by omega)).trans (h.fr.block k hk hkb)⟩⟩
  · rw [show (l ++ [ts]).length = l.length + 1 by simp, show (mvC (l ++ [ts])).map (Value.int .u8) = (mvC l).map (Value.int .u8) ++ [.int .u8 (ldOp ts.1 ts.2)] by simp [mvC]]
    exact hown
  · have e1 : w'.cell? ⟨pb, k, none⟩ = wr.cell? ⟨pb, k, none⟩ := World.cell?_of_block (hb pb (by omega))
    have e2 : w'.frozen? ⟨pb, k, none⟩ = wr.frozen? ⟨pb, k, none⟩ := World.frozen?_of_block (hb pb (by omega))
    rw [e1, e2]
    exact h.pl k hk
  · have := hg.size
    simp at this
    omega
theorem MvMid.put {W4 W : World} {pb : Nat} {C : Value} {l : List (Nat × Nat)} {t s : Nat} {p0 : Nat → Int} (h : MvMid W4 pb C l (t, s) p0 W) (ht : t < 8) : MvAt W4 pb C (l ++ [(t, s)]) p0 (W.setCell ⟨pb, t, none⟩ (.int .i64 (plP p0 l s))) := by
  refine ⟨ownsRow_setCell_below h.own (by show pb < pb + 1; omega) _, fun k hk => ?_, h.fr.setCell⟩
  refine ⟨?_, by rw [World.frozen?_setCell]; exact (h.pl k hk).2⟩
  rw [plP_app]
  unfold upd
  by_cases e : k = t
  · subst e
    rw [if_pos rfl]
    exact World.cell?_setCell_same (h := (h.pl k hk).1) ..
  · rw [if_neg e, show (W.setCell ⟨pb, t, none⟩ (.int .i64 (plP p0 l s))).cell? ⟨pb, k, none⟩ = W.cell? ⟨pb, k, none⟩ from World.cell?_setCell_other (h := by intro h; injection h with h1 h2; omega) ..]
    exact (h.pl k hk).1
theorem mvL_no (mv : Nat → Int) (i : Nat) (h : mvNo (mv i) = true) : mvL mv (i + 1) = mvL mv i := by
  show (if mvNo (mv i) then _ else _) = _
  rw [if_pos h]
theorem mvL_yes (mv : Nat → Int) (i : Nat) (h : mvNo (mv i) = false) : mvL mv (i + 1) = mvL mv i ++ [(mvT (mv i), mvS (mv i))] := by
  show (if mvNo (mv i) then _ else _) = _
  rw [if_neg (by rw [h]; decide)]
/-- the code as it lies -/
theorem own_code {W : World} {pb : Nat} {C : Value} {l : List (Nat × Nat)} (h : W.ownsRow (pb + 1) 5 1 C l.length ((mvC l).map (Value.int .u8))) (h0 : 0 < W.heap.size) :
    ∃ gb pa cp, C = .slice pa l.length cp ∧ gb < W.heap.size ∧ (0 < l.length → pa = some ⟨gb, 0, none⟩) ∧ ∀ k (hk : k < (mvC l).length), W.cell? ⟨gb, k, none⟩ = some (.int .u8 (mvC l)[k]) := by
  have hl : (mvC l).length = l.length := by simp [mvC]
  have h' := h
  rcases h.2 with ⟨rfl, hn⟩ | ⟨g, cap, cur, rfl, _, hg, hc, _, _, _⟩
  · refine ⟨0, none, 0, by rw [hn], h0, fun hlt => by omega, fun k hk => by omega⟩
  · refine ⟨g, _, cap, rfl, (Array.getElem?_eq_some_iff.1 hg).1, fun _ => rfl, fun k hk => ?_⟩
    rw [h'.cellAt k (by omega)]
    simp [hk]
theorem fz_new (w : World) (c : Array Value) (ty : TypeId) (k : Nat) : (w.alloc (.cells c ty)).frozen? ⟨w.heap.size, k, none⟩ = false := by
  have := heap_alloc_new w (.cells c ty)
  unfold World.frozen?
  rw [show (w.alloc (.cells c ty)).heap[(⟨w.heap.size, k, none⟩ : Addr).block]? = some (.cells c ty) from this]
  simp
theorem tdiv8 {z : Int} (h : I64 z) : I64 (z.tdiv 8) := by
  unfold I64 at *
  have := Int.tdiv_eq_ediv (a := z) (b := 8)
  rw [this]
  have e : Int.sign 8 = 1 := rfl
  split <;> omega
theorem i64w {z : Int} (h : I64 z) : IntKind.i64.wrap z = z := by
  unfold I64 at h
  simp [IntKind.wrap, IntKind.bits, IntKind.signed]
  omega
end Go.Proofs.YtbfjihcnnefehaaGreatDoor
