/- Proved: for all arguments the law ArenaKept answers true. No condition. -/
import Derived.Test.YteijdcidemajfaaRows
import Derived.Test.YteijdcidemajfaaWKp
import Derived.Test.YteijdcidemajfaaMtF
import Derived.Deep.Slices
import Derived.Deep.SlicePairs
import Derived.Deep.Frames
import Derived.Carry
import Derived.WalkKit
import Derived.ProofKit
import Derived.OpenShut
import Derived.ChangeSlices
namespace Go.Proofs.Yteijdcidemajfaa.arenaKept
open Go.ChangeShapes Go.WideShapes Go.ChangeAt Go.RowKit Go.Deep
set_option linter.unusedVariables false
theorem own : ownKnob Try.prog.godebug = none := by kernel_rfl
theorem cells3 : Try.prog.cellsOf 3 = 1 := by kernel_rfl
theorem laidOut : laidOutB Try.prog = true := by kernel_rfl
/-- What was there is as it was: the frame. -/
theorem grownOf {w w' : World} (h : Up w w') : w.keptBut w' (fun _ => False) := by
  refine ⟨h.os, h.output, fun i hi => ?_⟩
  rw [h.block i hi]
  split
  · rename_i h1 h2
    obtain ⟨rfl, rfl, rfl⟩ := by simpa using h1.symm.trans h2
    exact ⟨rfl, rfl, rfl, fun _ _ => rfl⟩
  · rename_i h1 h2
    obtain ⟨rfl, rfl⟩ := by simpa using h1.symm.trans h2
    exact Or.inr ⟨rfl, rfl⟩
  · rfl
theorem i64Of {z : Int} (h : (Lit.int .i64 z).wf = true) : I64 z := bounds_i64 h
theorem up_same {W W' : World} (h : Up W W') {p : MemPlace} (hp : p.block < W.heap.size) : W.sameAt W' p := by
  cases p with
  | cell b off => exact h.cell hp
  | map b => exact h.block b hp
theorem cells3' : Try.prog.cellsOf 3 = 1 := by kernel_rfl
theorem cellsA6 : Try.prog.cellsOf 60 = 6 := by kernel_rfl
set_option maxRecDepth 100000 in
/-- Acts of six numbers as they come in. -/
theorem acts6_of {H : Type} {enc : TypeId × Value → H} {W : World} {n : Nat} {aa : Option Addr} {len cap : Nat} {x : DataW H × List MemPlace}
    (h2 : DataW.trod enc Try.prog W 0 (fun _ => true) true n 58 [.slice aa len cap] = some x) :
    ∃ (ab ao : Nat) (f : Nat → Nat → Int), Act6s W aa ab ao len cap f := by
  have z0 : I64 0 := by unfold I64; decide
  rcases open_slice Try.underlying58 h2 with ⟨hcs, hx⟩ | ⟨a, len', cap', m, n', D, Pl, hcs, hb, hl, hm, hmm, hx, hxx⟩
  · simp at hcs
    obtain ⟨rfl, rfl, rfl⟩ := hcs
    exact ⟨0, 0, fun _ _ => 0, Nat.le_refl _, Nat.zero_le _, fun h => by omega, fun _ _ => z0, fun k hk => by omega⟩
  · simp at hcs
    obtain ⟨rfl, rfl, rfl⟩ := hcs
    simp only [if_true] at hmm
    rw [hmm] at hxx
    have each : ∀ i, i < cap → ∃ q : Nat → Int, (∀ j, I64 (q j)) ∧ ∀ j, j < 6 → W.cell? (a.add (i * 6 + j)) = some (.int .i64 (q j)) := by
      intro i hi
      obtain ⟨cs', h1, h3⟩ := hxx i hi
      rw [cellsA6] at h1
      obtain ⟨_, hlen, hcell⟩ := World.cells?_some h1
      obtain ⟨xs, k, hk, hxy, _, hxl, hf⟩ := DataW.trod_struct Try.underlying60 h3
      match xs, hxl, cs', hlen with
      | [y0, y1, y2, y3, y4, y5], _, [v0, v1, v2, v3, v4, v5], _ =>
        have g0 := hf 0 _ rfl
        have g1 := hf 1 _ rfl
        have g2 := hf 2 _ rfl
        have g3 := hf 3 _ rfl
        have g4 := hf 4 _ rfl
        have g5 := hf 5 _ rfl
        simp [cells3'] at g0 g1 g2 g3 g4 g5
        obtain ⟨z0, e0, f0, w0⟩ := DataW.trod_int Try.underlying3 g0
        obtain ⟨z1, e1, f1, w1⟩ := DataW.trod_int Try.underlying3 g1
        obtain ⟨z2, e2, f2, w2⟩ := DataW.trod_int Try.underlying3 g2
        obtain ⟨z3, e3, f3, w3⟩ := DataW.trod_int Try.underlying3 g3
        obtain ⟨z4, e4, f4, w4⟩ := DataW.trod_int Try.underlying3 g4
        obtain ⟨z5, e5, f5, w5⟩ := DataW.trod_int Try.underlying3 g5
        simp at e0 e1 e2 e3 e4 e5
        subst e0 e1 e2 e3 e4 e5
        refine ⟨fun j => if j = 0 then z0 else if j = 1 then z1 else if j = 2 then z2 else if j = 3 then z3 else if j = 4 then z4 else z5, fun j => ?_, fun j hj => ?_⟩
        · dsimp only
          repeat' split
          · exact i64Of w0
          · exact i64Of w1
          · exact i64Of w2
          · exact i64Of w3
          · exact i64Of w4
          · exact i64Of w5
        · have c := hcell j (by omega)
          rw [add_add] at c
          rw [c]
          have : j = 0 ∨ j = 1 ∨ j = 2 ∨ j = 3 ∨ j = 4 ∨ j = 5 := by omega
          rcases this with rfl | rfl | rfl | rfl | rfl | rfl <;> rfl
    by_cases h0 : cap = 0
    · subst h0
      exact ⟨0, 0, fun _ _ => 0, hl, hm, fun h => by omega, fun _ _ => z0, fun k hk => by omega⟩
    · have hq : ∃ q : Nat → Nat → Int, ∀ i, (∀ j, I64 (q i j)) ∧ (i < cap → ∀ j, j < 6 → W.cell? (a.add (i * 6 + j)) = some (.int .i64 (q i j))) := by
        have : ∀ i, ∃ q : Nat → Int, (∀ j, I64 (q j)) ∧ (i < cap → ∀ j, j < 6 → W.cell? (a.add (i * 6 + j)) = some (.int .i64 (q j))) := fun i => by
          by_cases hi : i < cap
          · obtain ⟨q, h1, h2⟩ := each i hi
            exact ⟨q, h1, fun _ => h2⟩
          · exact ⟨fun _ => 0, fun _ => z0, fun h => by omega⟩
        exact ⟨fun i => Classical.choose (this i), fun i => Classical.choose_spec (this i)⟩
      obtain ⟨q, hq⟩ := hq
      obtain ⟨b, off, spot⟩ := a
      have hspot : spot = none := by simpa [Addr.add] using World.cell?_spot ((hq 0).2 (by omega) 0 (by omega))
      subst hspot
      have ad : ∀ k, (⟨b, off, none⟩ : Addr).add k = ⟨b, off + k, none⟩ := fun k => by unfold Addr.add; split <;> simp_all
      refine ⟨b, off, q, hl, hm, fun _ => rfl, fun k j => (hq k).1 j, fun k hk j hj => ?_⟩
      have c := (hq k).2 (by omega) j hj
      rw [ad] at c
      rw [Nat.add_assoc]
      exact c
set_option maxRecDepth 100000 in
theorem lifted (os : Os) (started : os.Started) (H : Type) (enc : TypeId × Value → H) :
    ReturnsInHanded {} Try.checked os 8 .any (Rows.arenaKeptSpec.pre6 enc Try.prog Try.f8 Rows.arenaKeptRow.domain false) (Rows.arenaKeptSpec.post enc Try.prog Try.f8 false true false false) := by
  refine returnsInHanded_of_change (C := Try.checked) own started (by kernel_rfl) Try.func8
    (ChangeSpec.witness6 (enc := enc) (C := Try.checked) false ⟨#[], #[.slice none 0 0, .int .i64 0, .int .i64 0], []⟩ 8 (by kernel_rfl) (by kernel_rfl) (by kernel_rfl) (by kernel_rfl)) ?_
  intro W base args ds gs before hval0 hW hcnd _
  have hval : ∀ (j : Nat) t v, Try.f8.params[j]? = some t → args[j]? = some v → Value.okWide Try.prog W .any base t v := hval0
  have hW' := hW
  obtain ⟨p, q, hA0, hV, rfl, hfz, hnd⟩ := hW
  have hA : DataW.TrodAll enc Try.prog W 0 (fun _ => true) true Try.f8.params.toList args.toList ds p := hA0
  rw [Try.params8] at hA hval
  obtain ⟨v0, vs0, d0, ds0, p0, q0, hargs, rfl, rfl, h0, r0⟩ := trodAll_cons hA
  obtain ⟨v1, vs1, d1, ds1, p1, q1, rfl, rfl, rfl, h1, r1⟩ := trodAll_cons r0
  obtain ⟨v2, vs2, d2, ds2, p2, q2, rfl, rfl, rfl, h2, r2⟩ := trodAll_cons r1
  obtain ⟨rfl, rfl, rfl⟩ := trodAll_nil r2
  obtain rfl : args = #[v0, v1, v2] := by cases args; simp_all
  obtain ⟨rfl, rfl⟩ := trodVars_none hV
  obtain ⟨aa0, len0, cap0, rfl⟩ := okWide_slice Try.underlying58 (hval 0 58 v0 rfl rfl)
  have k0 := h0
  obtain ⟨fuel0, hf0⟩ := h0
  have hlt0 : ∀ x ∈ p0, x.block < W.heap.size := fun x hx => by simpa using hW'.lt x (by simp [hx])
  obtain ⟨ab0, ao0, f0, A0⟩ := acts6_of (by simpa [Value.cells] using hf0)
  obtain ⟨a1, rfl, rfl, rfl, w1⟩ := open_int Try.underlying3 (hval 1 3 v1 rfl rfl) h1
  obtain ⟨a2, rfl, rfl, rfl, w2⟩ := open_int Try.underlying3 (hval 2 3 v2 rfl rfl) h2
  clear hA0 hval0
  refine (kept_walk acts_all A0 (i64Of w1) (i64Of w2)).mono fun e W' ⟨he, hu⟩ => ?_
  subst he
  have stay0 : DataW.Trod enc Try.prog W' 0 (fun b => decide (b < W.heap.size)) true 58 (.slice aa0 len0 cap0) d0 p0 :=
    WideElems.Trod_stays laidOut (by kernel_rfl) (of_decide_eq_true (by kernel_rfl)) k0 (fun x hx => up_same hu (hlt0 x hx)) (fun x hx => by simpa using hlt0 x hx)
  exact ⟨_, rfl, _, _, _, [], _, [], hW', trodAll_mk1 (shut_bool Try.underlying4 _), (trodAll_cons_mk stay0 (trodAll_cons_mk (shut_int Try.underlying3 w1) (trodAll_cons_mk (shut_int Try.underlying3 w2) trodAll_mk0))), rfl, World.keptBut_mono (fun _ f => f.elim) (grownOf hu), fun h => by cases h⟩
theorem over : Rows.arenaKeptRow.holds Try.pinned (OpenSpec.ofChange Rows.arenaKeptSpec) :=
  OpenClaim.holds_of_wide 8 Try.f8 rfl rfl rfl rfl rfl rfl rfl ⟨rfl, rfl, rfl, rfl, rfl⟩ rfl rfl rfl rfl rfl (by kernel_rfl) Try.func8 (by kernel_rfl)
    (of_decide_eq_true (by kernel_rfl)) (by unfold Func.isWrapper; first | (rw [if_pos (by decide +kernel)]; kernel_rfl) | (rw [if_neg (by decide +kernel)]; exact ⟨rfl, rfl⟩))
    (fun os started H enc _ => lifted os started H enc)
theorem proved : Rows.ArenaKeptSaid := over
end Go.Proofs.Yteijdcidemajfaa.arenaKept
namespace Go.Proofs.Yteijdcidemajfaa
theorem arenaKept_proved : Rows.ArenaKeptSaid := arenaKept.proved
#print axioms arenaKept_proved
end Go.Proofs.Yteijdcidemajfaa
