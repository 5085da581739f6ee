/- What the card of CartKept has besides: how steps come in. -/
import Derived.Test.YtpiboooiofjigaaDoorCcU
import Derived.Test.YtpiboooiofjigaaDoorCbU
namespace Go.Proofs.YtpiboooiofjigaaDoor
open Go.ChangeShapes Go.WideShapes Go.ChangeAt Go.RowKit Go.Deep
set_option linter.unusedVariables false
theorem cO : Tryd.prog.cellsOf 52 = 4 := by kernel_rfl
set_option maxRecDepth 100000 in
/-- Steps as they come in. -/
theorem ops_of {H : Type} {enc : TypeId × Value → H} {W : World} {n : Nat} {aa : Option Addr} {len cap : Nat} {x : DataW H × List MemPlace}
    (h2 : DataW.trod enc Tryd.prog W 0 (fun _ => true) true n 50 [.slice aa len cap] = some x) :
    ∃ (ob oo : Nat) (q : Nat → Nat → Int), Ops4 W aa ob oo len cap q := by
  have z0 : I64 0 := by unfold I64; decide
  rcases open_slice Tryd.underlying50 h2 with ⟨hcs, hx⟩ | ⟨a, len', cap', m, n', D, Pl, hcs, _, hl, hm, hmm, hx, hxx⟩
  · simp at hcs
    obtain ⟨rfl, rfl, rfl⟩ := hcs
    exact ⟨0, 0, fun _ _ => 0, Nat.le_refl _, Nat.zero_le _, fun h => by omega, fun _ _ => z0, fun k hk => by omega⟩
  · simp at hcs
    obtain ⟨rfl, rfl, rfl⟩ := hcs
    simp only [if_true] at hmm
    rw [hmm] at hxx
    have each : ∀ i, i < len → ∃ z : Nat → Int, (∀ j, I64 (z j)) ∧ ∀ j, j < 4 → W.cell? (a.add (i * 4 + j)) = some (.int .i64 (z j)) := by
      intro i hi
      obtain ⟨cs', h1, h3⟩ := hxx i (by omega)
      rw [cO] at h1
      obtain ⟨_, hlen, hcell⟩ := World.cells?_some h1
      obtain ⟨xs, k, hk, hxy, _, hxl, hf⟩ := DataW.trod_struct Tryd.underlying52 h3
      match xs, hxl, cs', hlen with
      | [y0, y1, y2, y3], _, [v0, v1, v2, v3], _ =>
        have g0 := hf 0 _ rfl
        have g1 := hf 1 _ rfl
        have g2 := hf 2 _ rfl
        have g3 := hf 3 _ rfl
        simp [cells3] at g0 g1 g2 g3
        obtain ⟨a0, e0, f0, w0⟩ := DataW.trod_int Tryd.underlying3 g0
        obtain ⟨a1, e1, f1, w1⟩ := DataW.trod_int Tryd.underlying3 g1
        obtain ⟨a2, e2, f2, w2⟩ := DataW.trod_int Tryd.underlying3 g2
        obtain ⟨a3, e3, f3, w3⟩ := DataW.trod_int Tryd.underlying3 g3
        simp at e0 e1 e2 e3
        subst e0 e1 e2 e3
        refine ⟨fun j => if j = 0 then a0 else if j = 1 then a1 else if j = 2 then a2 else a3, fun j => ?_, fun j hj => ?_⟩
        · show I64 (if j = 0 then a0 else if j = 1 then a1 else if j = 2 then a2 else a3)
          split
          · exact i64Of w0
          · split
            · exact i64Of w1
            · split
              · exact i64Of w2
              · exact i64Of w3
        · have c := hcell j hj
          rw [add_add] at c
          rw [c]
          have : j = 0 ∨ j = 1 ∨ j = 2 ∨ j = 3 := by omega
          rcases this with rfl | rfl | rfl | rfl <;> rfl
    have all : ∀ i, ∃ z : Nat → Int, (∀ j, I64 (z j)) ∧ (i < len → ∀ j, j < 4 → W.cell? (a.add (i * 4 + j)) = some (.int .i64 (z j))) := fun i => by
      by_cases hi : i < len
      · obtain ⟨z, h1, h2⟩ := each i hi
        exact ⟨z, h1, fun _ => h2⟩
      · exact ⟨fun _ => 0, fun _ => z0, fun h => absurd h hi⟩
    obtain ⟨q, hq⟩ : ∃ q : Nat → Nat → Int, ∀ i, (∀ j, I64 (q i j)) ∧ (i < len → ∀ j, j < 4 → W.cell? (a.add (i * 4 + j)) = some (.int .i64 (q i j))) := ⟨fun i => Classical.choose (all i), fun i => Classical.choose_spec (all i)⟩
    by_cases h0 : len = 0
    · subst h0
      exact ⟨0, 0, q, hl, hm, fun h => by omega, fun k j => (hq k).1 j, fun k hk => by omega⟩
    · obtain ⟨b, off, spot⟩ := a
      have hspot : spot = none := by simpa [Addr.add] using World.cell?_spot ((hq 0).2 (by omega) 0 (by decide))
      subst hspot
      refine ⟨b, off, q, hl, hm, fun _ => rfl, fun k j => (hq k).1 j, fun k hk j hj => ?_⟩
      have := (hq k).2 hk j hj
      rw [addOf, ← Nat.add_assoc] at this
      exact this
end Go.Proofs.YtpiboooiofjigaaDoor
