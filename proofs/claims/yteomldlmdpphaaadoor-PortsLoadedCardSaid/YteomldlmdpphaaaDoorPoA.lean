/- The ports' block in memory, plainly, and the calls that read it or write one of its cells. -/
import Derived.Test.YteomldlmdpphaaaDoorProg
import Derived.Test.YteomldlmdpphaaaDoorPlain
import Derived.WalkKit
import Derived.LoopTactic
import Derived.BigCall
import Derived.Handy
import Derived.Lib.OthersKept
import Derived.Deep.QuietTactic
import Derived.BigQuiet
import Derived.Deep.RegionHeld3
import Derived.Laws.Tables
import Derived.Laws.EntriesVeiled
namespace Go.Proofs.YteomldlmdpphaaaDoor
open Go.RowKit
set_option linter.unusedVariables false
theorem retB {a b : Bool} (h : a = b) : Ending.returned (.bool a) = .returned (.bool b) := by rw [h]
theorem ret1 {k : IntKind} {a b : Int} (h : a = b) : Ending.returned (.int k a) = .returned (.int k b) := by rw [h]
/-- all that was there is there as it was -/
structure Up (w w' : World) : Prop where
  os : w'.os = w.os
  output : w'.output = w.output
  size : w.heap.size ≤ w'.heap.size
  block : ∀ k, k < w.heap.size → w'.heap[k]? = w.heap[k]?
/-- .. but for one block -/
structure Fr (b : Nat) (w w' : World) : Prop where
  os : w'.os = w.os
  output : w'.output = w.output
  size : w.heap.size ≤ w'.heap.size
  block : ∀ k, k < w.heap.size → k ≠ b → w'.heap[k]? = w.heap[k]?
theorem Up.refl (w : World) : Up w w := ⟨rfl, rfl, Nat.le_refl _, fun _ _ => rfl⟩
theorem Up.trans {x y z : World} (h : Up x y) (k : Up y z) : Up x z :=
  ⟨k.os.trans h.os, k.output.trans h.output, Nat.le_trans h.size k.size, fun j hj => (k.block j (Nat.lt_of_lt_of_le hj h.size)).trans (h.block j hj)⟩
theorem Up.drewN (w : World) (n : Nat) : Up w (w.drewN n) := ⟨rfl, rfl, Nat.le_refl _, fun _ _ => rfl⟩
theorem Up.drew {w w' : World} (h : Up w w') : Up w w'.drew := ⟨h.os, h.output, h.size, h.block⟩
theorem Up.alloc {w w' : World} (h : Up w w') (o : Obj) : Up w (w'.alloc o) :=
  h.trans ⟨rfl, rfl, by simp, fun k hk => Below.heap_alloc _ _ _ hk⟩
theorem Up.setCell {w w' : World} (h : Up w w') {p : Addr} (hp : w.heap.size ≤ p.block) (u : Value) : Up w (w'.setCell p u) :=
  ⟨h.os, h.output, by simpa using h.size, fun k hk => (Below.heap_setCell _ _ _ _ (by omega)).trans (h.block k hk)⟩
theorem Up.setRow {w w' : World} (h : Up w w') {g : Nat} (hp : w.heap.size ≤ g) (cs : Array Value) : Up w (w'.setRow g cs) :=
  ⟨h.os, h.output, by simp [World.setRow]; exact h.size, fun k hk => (setRow_other _ _ _ _ (by omega)).trans (h.block k hk)⟩
theorem Up.ofBelow {w w' : World} (h : Below w.heap.size w w') : Up w w' := ⟨h.os, h.output, h.size, h.block⟩
theorem Up.ofGrown {w w' : World} (h : Grown w w') : Up w w' := by
  refine ⟨h.1.1, h.1.2.1, h.2.2, fun k hk => ?_⟩
  have hh := h.1.2.2 k hk
  generalize h1 : w.heap[k]? = a at hh
  generalize h2 : w'.heap[k]? = c at hh
  split at hh
  · obtain ⟨rfl, rfl, hs, hj⟩ := hh
    have := Array.ext_getElem? (fun j => hj j (fun x => x))
    rw [this]
  · rcases hh with hf | ⟨rfl, rfl⟩
    · exact hf.elim
    · rfl
  · exact hh
theorem Fr.ofUp {b : Nat} {w w' : World} (h : Up w w') : Fr b w w' := ⟨h.os, h.output, h.size, fun k hk _ => h.block k hk⟩
theorem Fr.refl (b : Nat) (w : World) : Fr b w w := Fr.ofUp (Up.refl w)
theorem Fr.trans {b : Nat} {x y z : World} (h : Fr b x y) (k : Fr b y z) : Fr b x z :=
  ⟨k.os.trans h.os, k.output.trans h.output, Nat.le_trans h.size k.size, fun j hj hb => (k.block j (Nat.lt_of_lt_of_le hj h.size) hb).trans (h.block j hj hb)⟩
theorem Fr.setCell {b k : Nat} {v : Value} {x y : World} (h : Fr b x y) : Fr b x (y.setCell ⟨b, k, none⟩ v) :=
  ⟨h.os, h.output, by simpa using h.size, fun j hj hb => (Below.heap_setCell y ⟨b, k, none⟩ v j hb).trans (h.block j hj hb)⟩
theorem Fr.setRow {b : Nat} {cs : Array Value} {x y : World} (h : Fr b x y) : Fr b x (y.setRow b cs) :=
  ⟨h.os, h.output, by simp [World.setRow]; exact h.size, fun j hj hb => (setRow_other _ _ _ _ (by omega)).trans (h.block j hj hb)⟩
theorem Fr.up {b : Nat} {w x y : World} (h : Up w x) (hb : w.heap.size ≤ b) (k : Fr b x y) : Up w y :=
  ⟨k.os.trans h.os, k.output.trans h.output, Nat.le_trans h.size k.size, fun j hj => (k.block j (Nat.lt_of_lt_of_le hj h.size) (by omega)).trans (h.block j hj)⟩
/-- the ports, but for what was sent -/
structure Po where
  bu : Int
  ro : Int
  sh : Int
  li : Int
  co : Int
  ti : Int
  ag : Int
  ct : Int
  rq : Int
  al : Int
  tr : Int
  se : Int
structure Po.Ok (p : Po) : Prop where
  bu : 0 ≤ p.bu ∧ p.bu ≤ 255
  ro : p.ro = 0 ∨ p.ro = 16 ∨ p.ro = 32 ∨ p.ro = 48
  sh : 0 ≤ p.sh ∧ p.sh ≤ 255
  li : p.li = 0 ∨ p.li = 1 ∨ p.li = 128 ∨ p.li = 129
  co : 0 ≤ p.co ∧ p.co ≤ 65535
  ti : 0 ≤ p.ti ∧ p.ti ≤ 255
  ag : 0 ≤ p.ag ∧ p.ag ≤ 255
  ct : 0 ≤ p.ct ∧ p.ct ≤ 7
  rq : 0 ≤ p.rq ∧ p.rq ≤ 31
  al : 0 ≤ p.al ∧ p.al ≤ 4
  tr : 0 ≤ p.tr ∧ p.tr ≤ 4096
  se : 0 ≤ p.se ∧ p.se ≤ 255
def Po.cells (p : Po) (v : Value) : Array Value := #[.int .u8 p.bu, .int .u8 p.ro, .int .u8 p.sh, .int .u8 p.li, .int .u16 p.co, .int .u8 p.ti, .int .u8 p.ag, .int .u8 p.ct, .int .u8 p.rq, .int .i64 p.al, .int .i64 p.tr, .int .u8 p.se, v]
def PoAt (w : World) (b : Nat) (p : Po) (v : Value) : Prop := w.heap[b]? = some (.cells (p.cells v) 60 (0, 0))
theorem PoAt.lt {w : World} {b : Nat} {p : Po} {v : Value} (h : PoAt w b p v) : b < w.heap.size := (Array.getElem?_eq_some_iff.1 h).1
theorem PoAt.up {w w' : World} {b : Nat} {p : Po} {v : Value} (h : PoAt w b p v) (u : Up w w') : PoAt w' b p v := (u.block b h.lt).trans h
theorem PoAt.fr {w w' : World} {b c : Nat} {p : Po} {v : Value} (h : PoAt w b p v) (u : Fr c w w') (hc : b ≠ c) : PoAt w' b p v := (u.block b h.lt hc).trans h
theorem PoAt.cell {w : World} {b : Nat} {p : Po} {v : Value} (h : PoAt w b p v) (k : Nat) : w.cell? ⟨b, k, none⟩ = (p.cells v)[k]? := cell_of_row _ _ _ _ _ _ h
theorem PoAt.fz {w : World} {b : Nat} {p : Po} {v : Value} (h : PoAt w b p v) (k : Nat) : w.frozen? ⟨b, k, none⟩ = false := by unfold PoAt at h; simp [World.frozen?, h]
theorem PoAt.set {w : World} {b : Nat} {p q : Po} {v v' : Value} (h : PoAt w b p v) (k : Nat) (u : Value) (e : (p.cells v).setIfInBounds k u = q.cells v') : PoAt (w.setCell ⟨b, k, none⟩ u) b q v' := by
  unfold PoAt at h ⊢
  rw [← e]
  exact heap_setCell_same w b k _ _ u h
/-- all cells at once -/
theorem PoAt.all {w : World} {b : Nat} {p : Po} {v : Value} (h : PoAt w b p v) : w.cell? ⟨b, 0, none⟩ = some (.int .u8 p.bu) ∧ w.cell? ⟨b, 1, none⟩ = some (.int .u8 p.ro) ∧ w.cell? ⟨b, 2, none⟩ = some (.int .u8 p.sh) ∧ w.cell? ⟨b, 3, none⟩ = some (.int .u8 p.li) ∧ w.cell? ⟨b, 4, none⟩ = some (.int .u16 p.co) ∧ w.cell? ⟨b, 5, none⟩ = some (.int .u8 p.ti) ∧ w.cell? ⟨b, 6, none⟩ = some (.int .u8 p.ag) ∧ w.cell? ⟨b, 7, none⟩ = some (.int .u8 p.ct) ∧ w.cell? ⟨b, 8, none⟩ = some (.int .u8 p.rq) ∧ w.cell? ⟨b, 9, none⟩ = some (.int .i64 p.al) ∧ w.cell? ⟨b, 10, none⟩ = some (.int .i64 p.tr) ∧ w.cell? ⟨b, 11, none⟩ = some (.int .u8 p.se) ∧ w.cell? ⟨b, 12, none⟩ = some v := by
  refine ⟨?_, ?_, ?_, ?_, ?_, ?_, ?_, ?_, ?_, ?_, ?_, ?_, ?_⟩
  all_goals (rw [h.cell]; rfl)
end Go.Proofs.YteomldlmdpphaaaDoor
