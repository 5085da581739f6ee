/- What the cards of the ports share: how their arguments come in, and what stays. -/
import Derived.Test.YteomldlmdpphaaaDoorRows
import Derived.Test.YteomldlmdpphaaaDoorTie
import Derived.Test.YteomldlmdpphaaaDoorCards
import Derived.Test.YteomldlmdpphaaaDoorPpM
import Derived.LaidMore
import Derived.Stop.Joined
import Derived.Lib.LaidTab
import Derived.SevenTiedAt
import Derived.Deep.Slices
import Derived.Deep.SlicePairs
import Derived.Deep.Frames
import Derived.Carry
import Derived.WalkKit
import Derived.ProofKit
import Derived.OpenShut
import Derived.ChangeSlices
namespace Go.Proofs.YteomldlmdpphaaaDoor
open Go.ChangeShapes Go.WideShapes Go.ChangeAt Go.RowKit Go.Deep
set_option linter.unusedVariables false
theorem own : ownKnob Tryd.prog.godebug = none := by kernel_rfl
theorem cells3 : Tryd.prog.cellsOf 3 = 1 := by kernel_rfl
theorem cellsA : Tryd.prog.cellsOf 39 = 3 := by kernel_rfl
theorem laidOut : laidOutB Tryd.prog = true := by kernel_rfl
/-- What was there is as it was: the frame. -/
theorem grownOf {w w' : World} (h : Up w w') : w.keptBut w' (fun _ => False) := by
  refine ⟨h.os, h.output, fun i hi => ?_⟩
  rw [h.block i hi]
  split
  · rename_i h1 h2
    obtain ⟨rfl, rfl, rfl⟩ := by simpa using h1.symm.trans h2
    exact ⟨rfl, rfl, rfl, fun _ _ => rfl⟩
  · rename_i h1 h2
    obtain ⟨rfl, rfl⟩ := by simpa using h1.symm.trans h2
    exact Or.inr ⟨rfl, rfl⟩
  · rfl
theorem i64Of {z : Int} (h : (Lit.int .i64 z).wf = true) : I64 z := bounds_i64 h
theorem up_same {W W' : World} (h : Up W W') {p : MemPlace} (hp : p.block < W.heap.size) : W.sameAt W' p := by
  cases p with
  | cell b off => exact h.cell hp
  | map b => exact h.block b hp
set_option maxRecDepth 100000 in
/-- The acts as they come in. -/
theorem acts_of {H : Type} {enc : TypeId × Value → H} {W : World} {n : Nat} {aa : Option Addr} {len cap : Nat} {x : DataW H × List MemPlace}
    (h2 : DataW.trod enc Tryd.prog W 0 (fun _ => true) true n 22 [.slice aa len cap] = some x) :
    ∃ (ab ao : Nat) (f : Nat → Nat → Int), Acts W aa ab ao len cap f := by
  have z0 : I64 0 := by unfold I64; decide
  rcases open_slice Tryd.underlying22 h2 with ⟨hcs, hx⟩ | ⟨a, len', cap', m, n', D, Pl, hcs, hb, hl, hm, hmm, hx, hxx⟩
  · simp at hcs
    obtain ⟨rfl, rfl, rfl⟩ := hcs
    exact ⟨0, 0, fun _ _ => 0, Nat.le_refl _, Nat.zero_le _, fun h => by omega, fun _ _ => z0, fun k hk => by omega⟩
  · simp at hcs
    obtain ⟨rfl, rfl, rfl⟩ := hcs
    simp only [if_true] at hmm
    rw [hmm] at hxx
    have each : ∀ i, i < cap → ∃ q : Int × Int × Int, (I64 q.1 ∧ I64 q.2.1 ∧ I64 q.2.2) ∧ W.cell? (a.add (i * 3)) = some (.int .i64 q.1) ∧ W.cell? (a.add (i * 3 + 1)) = some (.int .i64 q.2.1) ∧ W.cell? (a.add (i * 3 + 2)) = some (.int .i64 q.2.2) := by
      intro i hi
      obtain ⟨cs', h1, h3⟩ := hxx i hi
      rw [cellsA] at h1
      obtain ⟨_, hlen, hcell⟩ := World.cells?_some h1
      obtain ⟨xs, k, hk, hxy, _, hxl, hf⟩ := DataW.trod_struct Tryd.underlying39 h3
      match xs, hxl, cs', hlen with
      | [y0, y1, y2], _, [v0, v1, v2], _ =>
        have g0 := hf 0 _ rfl
        have g1 := hf 1 _ rfl
        have g2 := hf 2 _ rfl
        simp [cells3] at g0 g1 g2
        obtain ⟨z0, e0, f0, w0⟩ := DataW.trod_int Tryd.underlying3 g0
        obtain ⟨z1, e1, f1, w1⟩ := DataW.trod_int Tryd.underlying3 g1
        obtain ⟨z2, e2, f2, w2⟩ := DataW.trod_int Tryd.underlying3 g2
        simp at e0 e1 e2
        subst e0 e1 e2
        have c0 := hcell 0 (by omega)
        have c1 := hcell 1 (by omega)
        have c2 := hcell 2 (by omega)
        rw [add_add] at c0 c1 c2
        exact ⟨(z0, z1, z2), ⟨i64Of w0, i64Of w1, i64Of w2⟩, by simpa using c0, by simpa using c1, by simpa using c2⟩
    by_cases h0 : cap = 0
    · subst h0
      exact ⟨0, 0, fun _ _ => 0, hl, hm, fun h => by omega, fun _ _ => z0, fun k hk => by omega⟩
    · have hq : ∃ q : Nat → Int × Int × Int, ∀ i, (I64 (q i).1 ∧ I64 (q i).2.1 ∧ I64 (q i).2.2) ∧ (i < cap → W.cell? (a.add (i * 3)) = some (.int .i64 (q i).1) ∧ W.cell? (a.add (i * 3 + 1)) = some (.int .i64 (q i).2.1) ∧ W.cell? (a.add (i * 3 + 2)) = some (.int .i64 (q i).2.2)) := by
        have : ∀ i, ∃ q : Int × Int × Int, (I64 q.1 ∧ I64 q.2.1 ∧ I64 q.2.2) ∧ (i < cap → W.cell? (a.add (i * 3)) = some (.int .i64 q.1) ∧ W.cell? (a.add (i * 3 + 1)) = some (.int .i64 q.2.1) ∧ W.cell? (a.add (i * 3 + 2)) = some (.int .i64 q.2.2)) := fun i => by
          by_cases hi : i < cap
          · obtain ⟨q, h1, h2⟩ := each i hi
            exact ⟨q, h1, fun _ => h2⟩
          · exact ⟨(0, 0, 0), ⟨z0, z0, z0⟩, fun h => by omega⟩
        exact ⟨fun i => Classical.choose (this i), fun i => Classical.choose_spec (this i)⟩
      obtain ⟨q, hq⟩ := hq
      obtain ⟨b, off, spot⟩ := a
      have hspot : spot = none := by simpa [Addr.add] using World.cell?_spot (((hq 0).2 (by omega)).1)
      subst hspot
      have ad : ∀ k, (⟨b, off, none⟩ : Addr).add k = ⟨b, off + k, none⟩ := fun k => by unfold Addr.add; split <;> simp_all
      refine ⟨b, off, fun k j => if j = 0 then (q k).1 else if j = 1 then (q k).2.1 else (q k).2.2, hl, hm, fun _ => rfl, fun k j => ?_, fun k hk j hj => ?_⟩
      · show I64 (if j = 0 then (q k).1 else if j = 1 then (q k).2.1 else (q k).2.2)
        split
        · exact (hq k).1.1
        · split
          · exact (hq k).1.2.1
          · exact (hq k).1.2.2
      · obtain ⟨c0, c1, c2⟩ := (hq k).2 (by omega)
        rw [ad] at c0 c1 c2
        have : j = 0 ∨ j = 1 ∨ j = 2 := by omega
        rcases this with rfl | rfl | rfl
        · exact c0
        · exact (show off + k * 3 + 1 = off + (k * 3 + 1) by omega) ▸ c1
        · exact (show off + k * 3 + 2 = off + (k * 3 + 2) by omega) ▸ c2
/-- What the condition gives the walk: the table's cells. -/
theorem of_laid (W : World) (h : laidMetH Tryd.prog [("arcade/ports.drivers", Rows.laid_arcade_ports_drivers)] W) : LaidP W := by
  rw [MakeChecks.laidMetH_plain _ _ _ (by kernel_rfl)] at h
  have t : Lib.TabIs Tryd.prog W "arcade/ports.drivers" .u64 [9, 3, 5, 7] :=
    Lib.tabIs_of_head (rest := []) (g := 0) (t := 96) (e := 71) (n := 4) (by kernel_rfl) (by kernel_rfl) Tryd.underlying96 Tryd.underlying71 (by kernel_rfl) (by kernel_rfl) h
  have c := fun i hi => t.cell (by kernel_rfl : Tryd.prog.globalNamed "arcade/ports.drivers" = some 0) i hi
  exact ⟨World.block_lt_of_cell? _ _ (c 0 (by decide)), c 0 (by decide), c 1 (by decide), c 2 (by decide), c 3 (by decide)⟩
end Go.Proofs.YteomldlmdpphaaaDoor
