/- The picture's block in memory, plainly. -/
import Derived.Test.YtmjfccdhjhkocaaProg
import Derived.Test.YtmjfccdhjhkocaaPlain
import Derived.WalkKit
import Derived.LoopTactic
import Derived.BigCall
import Derived.Handy
import Derived.Lib.OthersKept
import Derived.Deep.QuietTactic
import Derived.BigQuiet
import Derived.Deep.RegionHeld3
import Derived.Laws.Tables
import Derived.Laws.EntriesVeiled
namespace Go.Proofs.Ytmjfccdhjhkocaa
open Go.RowKit
set_option linter.unusedVariables false
theorem retB {a b : Bool} (h : a = b) : Ending.returned (.bool a) = .returned (.bool b) := by rw [h]
theorem ret1 {k : IntKind} {a b : Int} (h : a = b) : Ending.returned (.int k a) = .returned (.int k b) := by rw [h]
/-- all that was there is there as it was -/
structure Up (w w' : World) : Prop where
  os : w'.os = w.os
  output : w'.output = w.output
  size : w.heap.size ≤ w'.heap.size
  block : ∀ k, k < w.heap.size → w'.heap[k]? = w.heap[k]?
/-- .. but for one block -/
structure Fr (b : Nat) (w w' : World) : Prop where
  os : w'.os = w.os
  output : w'.output = w.output
  size : w.heap.size ≤ w'.heap.size
  block : ∀ k, k < w.heap.size → k ≠ b → w'.heap[k]? = w.heap[k]?
theorem Up.refl (w : World) : Up w w := ⟨rfl, rfl, Nat.le_refl _, fun _ _ => rfl⟩
theorem Up.trans {x y z : World} (h : Up x y) (k : Up y z) : Up x z :=
  ⟨k.os.trans h.os, k.output.trans h.output, Nat.le_trans h.size k.size, fun j hj => (k.block j (Nat.lt_of_lt_of_le hj h.size)).trans (h.block j hj)⟩
theorem Up.drewN (w : World) (n : Nat) : Up w (w.drewN n) := ⟨rfl, rfl, Nat.le_refl _, fun _ _ => rfl⟩
theorem Up.drew {w w' : World} (h : Up w w') : Up w w'.drew := ⟨h.os, h.output, h.size, h.block⟩
theorem Up.alloc {w w' : World} (h : Up w w') (o : Obj) : Up w (w'.alloc o) :=
  h.trans ⟨rfl, rfl, by simp, fun k hk => Below.heap_alloc _ _ _ hk⟩
theorem Up.setCell {w w' : World} (h : Up w w') {p : Addr} (hp : w.heap.size ≤ p.block) (u : Value) : Up w (w'.setCell p u) :=
  ⟨h.os, h.output, by simpa using h.size, fun k hk => (Below.heap_setCell _ _ _ _ (by omega)).trans (h.block k hk)⟩
theorem Up.setRow {w w' : World} (h : Up w w') {g : Nat} (hp : w.heap.size ≤ g) (cs : Array Value) : Up w (w'.setRow g cs) :=
  ⟨h.os, h.output, by simp [World.setRow]; exact h.size, fun k hk => (setRow_other _ _ _ _ (by omega)).trans (h.block k hk)⟩
theorem Up.ofBelow {w w' : World} (h : Below w.heap.size w w') : Up w w' := ⟨h.os, h.output, h.size, h.block⟩
theorem Up.ofGrown {w w' : World} (h : Grown w w') : Up w w' := by
  refine ⟨h.1.1, h.1.2.1, h.2.2, fun k hk => ?_⟩
  have hh := h.1.2.2 k hk
  generalize h1 : w.heap[k]? = a at hh
  generalize h2 : w'.heap[k]? = c at hh
  split at hh
  · obtain ⟨rfl, rfl, hs, hj⟩ := hh
    have := Array.ext_getElem? (fun j => hj j (fun x => x))
    rw [this]
  · rcases hh with hf | ⟨rfl, rfl⟩
    · exact hf.elim
    · rfl
  · exact hh
theorem Fr.ofUp {b : Nat} {w w' : World} (h : Up w w') : Fr b w w' := ⟨h.os, h.output, h.size, fun k hk _ => h.block k hk⟩
theorem Fr.refl (b : Nat) (w : World) : Fr b w w := Fr.ofUp (Up.refl w)
theorem Fr.trans {b : Nat} {x y z : World} (h : Fr b x y) (k : Fr b y z) : Fr b x z :=
  ⟨k.os.trans h.os, k.output.trans h.output, Nat.le_trans h.size k.size, fun j hj hb => (k.block j (Nat.lt_of_lt_of_le hj h.size) hb).trans (h.block j hj hb)⟩
theorem Fr.setCell {b k : Nat} {v : Value} {x y : World} (h : Fr b x y) : Fr b x (y.setCell ⟨b, k, none⟩ v) :=
  ⟨h.os, h.output, by simpa using h.size, fun j hj hb => (Below.heap_setCell y ⟨b, k, none⟩ v j hb).trans (h.block j hj hb)⟩
theorem Fr.setRow {b : Nat} {cs : Array Value} {x y : World} (h : Fr b x y) : Fr b x (y.setRow b cs) :=
  ⟨h.os, h.output, by simp [World.setRow]; exact h.size, fun j hj hb => (setRow_other _ _ _ _ (by omega)).trans (h.block j hj hb)⟩
theorem Fr.up {b : Nat} {w x y : World} (h : Up w x) (hb : w.heap.size ≤ b) (k : Fr b x y) : Up w y :=
  ⟨k.os.trans h.os, k.output.trans h.output, Nat.le_trans h.size k.size, fun j hj => (k.block j (Nat.lt_of_lt_of_le hj h.size) (by omega)).trans (h.block j hj)⟩
theorem Up.cell {w w' : World} (h : Up w w') {g k : Nat} (hg : g < w.heap.size) : w'.cell? ⟨g, k, none⟩ = w.cell? ⟨g, k, none⟩ := by
  unfold World.cell?
  rw [show (w'.heap[(⟨g, k, none⟩ : Addr).block]?) = w.heap[(⟨g, k, none⟩ : Addr).block]? from h.block _ hg]
theorem Fr.cell {b : Nat} {w w' : World} (h : Fr b w w') {g k : Nat} (hg : g < w.heap.size) (hb : g ≠ b) : w'.cell? ⟨g, k, none⟩ = w.cell? ⟨g, k, none⟩ := by
  unfold World.cell?
  rw [show (w'.heap[(⟨g, k, none⟩ : Addr).block]?) = w.heap[(⟨g, k, none⟩ : Addr).block]? from h.block _ hg hb]
/-- a picture unit -/
structure Pic where
  vr : Nat → Int
  oa : Nat → Int
  rg : Nat → Int
  clk : Int
  met : Bool
  rows : Int
  dr : Nat → Int
  sh : Nat → Int
/-- its cells, by their places -/
def Pic.cell (p : Pic) (k : Nat) : Value :=
  if k < 8192 then .int .u8 (p.vr k) else if k < 8352 then .int .u8 (p.oa (k - 8192)) else if k < 8364 then .int .u8 (p.rg (k - 8352)) else if k = 8364 then .int .i64 p.clk else if k = 8365 then .bool p.met else if k = 8366 then .int .i64 p.rows else if k < 31407 then .int .u8 (p.dr (k - 8367)) else .int .u8 (p.sh (k - 31407))
structure PxAt (w : World) (b : Nat) (p : Pic) : Prop where
  row : ∃ cs, w.heap[b]? = some (.cells cs 74 (0, 0)) ∧ cs.size = 54447 ∧ ∀ k, k < 54447 → cs[k]? = some (p.cell k)
theorem PxAt.lt {w : World} {b : Nat} {p : Pic} (h : PxAt w b p) : b < w.heap.size := by
  obtain ⟨cs, h1, _⟩ := h.row
  exact (Array.getElem?_eq_some_iff.1 h1).1
theorem PxAt.up {w w' : World} {b : Nat} {p : Pic} (h : PxAt w b p) (u : Up w w') : PxAt w' b p := by
  have hl := h.lt
  obtain ⟨cs, h1, h2⟩ := h.row
  exact ⟨cs, (u.block b hl).trans h1, h2⟩
theorem PxAt.cell {w : World} {b : Nat} {p : Pic} (h : PxAt w b p) (k : Nat) (hk : k < 54447) : w.cell? ⟨b, k, none⟩ = some (p.cell k) := by
  obtain ⟨cs, h1, h2, h3⟩ := h.row
  rw [cell_of_row _ _ _ _ _ _ h1]
  exact h3 k hk
theorem PxAt.fz {w : World} {b : Nat} {p : Pic} (h : PxAt w b p) (k : Nat) : w.frozen? ⟨b, k, none⟩ = false := by
  obtain ⟨cs, h1, _⟩ := h.row
  simp [World.frozen?, h1]
theorem PxAt.set {w : World} {b : Nat} {p q : Pic} (h : PxAt w b p) (k : Nat) (v : Value) (e : ∀ j, j < 54447 → (if j = k then v else p.cell j) = q.cell j) : PxAt (w.setCell ⟨b, k, none⟩ v) b q := by
  obtain ⟨cs, h1, h2, h3⟩ := h.row
  refine ⟨cs.setIfInBounds k v, heap_setCell_same w b k _ _ v h1, by simp [h2], fun j hj => ?_⟩
  rw [← e j hj, Array.getElem?_setIfInBounds]
  by_cases hjk : j = k
  · subst hjk
    rw [if_pos rfl, if_pos (by omega), if_pos rfl]
  · rw [if_neg (fun e => hjk e.symm), if_neg hjk]
    exact h3 j hj
/-- nothing yet -/
def zeroPic : Pic := ⟨fun _ => 0, fun _ => 0, fun _ => 0, 0, false, 0, fun _ => 0, fun _ => 0⟩
theorem zc_size : Try.zeroCells74.size = 54447 := by kernel_rfl
end Go.Proofs.Ytmjfccdhjhkocaa
