/- Proved: for all arguments the law SchedFair answers true. No condition. -/
import Derived.Test.YtakciepfckdpfaaRows
import Derived.Test.YtakciepfckdpfaaWFr
import Derived.Deep.Slices
import Derived.Deep.SlicePairs
import Derived.Deep.Frames
import Derived.Carry
import Derived.WalkKit
import Derived.ProofKit
import Derived.OpenShut
import Derived.ChangeSlices
namespace Go.Proofs.Ytakciepfckdpfaa.schedFair
open Go.ChangeShapes Go.WideShapes Go.ChangeAt Go.RowKit Go.Deep
set_option linter.unusedVariables false
theorem own : ownKnob Try.prog.godebug = none := by kernel_rfl
theorem cells3 : Try.prog.cellsOf 3 = 1 := by kernel_rfl
theorem laidOut : laidOutB Try.prog = true := by kernel_rfl
/-- What was there is as it was: the frame. -/
theorem grownOf {w w' : World} (h : Up w w') : w.keptBut w' (fun _ => False) := by
  refine ⟨h.os, h.output, fun i hi => ?_⟩
  rw [h.block i hi]
  split
  · rename_i h1 h2
    obtain ⟨rfl, rfl, rfl⟩ := by simpa using h1.symm.trans h2
    exact ⟨rfl, rfl, rfl, fun _ _ => rfl⟩
  · rename_i h1 h2
    obtain ⟨rfl, rfl⟩ := by simpa using h1.symm.trans h2
    exact Or.inr ⟨rfl, rfl⟩
  · rfl
theorem i64Of {z : Int} (h : (Lit.int .i64 z).wf = true) : I64 z := bounds_i64 h
theorem up_same {W W' : World} (h : Up W W') {p : MemPlace} (hp : p.block < W.heap.size) : W.sameAt W' p := by
  cases p with
  | cell b off => exact h.cell hp
  | map b => exact h.block b hp
theorem cells3' : Try.prog.cellsOf 3 = 1 := by kernel_rfl
theorem cellsA2 : Try.prog.cellsOf 29 = 2 := by kernel_rfl
set_option maxRecDepth 100000 in
/-- Acts of two numbers as they come in. -/
theorem acts2_of {H : Type} {enc : TypeId × Value → H} {W : World} {n : Nat} {aa : Option Addr} {len cap : Nat} {x : DataW H × List MemPlace}
    (h2 : DataW.trod enc Try.prog W 0 (fun _ => true) true n 22 [.slice aa len cap] = some x) :
    ∃ (ab ao : Nat) (f : Nat → Nat → Int), Act2s W aa ab ao len cap f := by
  have z0 : I64 0 := by unfold I64; decide
  rcases open_slice Try.underlying22 h2 with ⟨hcs, hx⟩ | ⟨a, len', cap', m, n', D, Pl, hcs, hb, hl, hm, hmm, hx, hxx⟩
  · simp at hcs
    obtain ⟨rfl, rfl, rfl⟩ := hcs
    exact ⟨0, 0, fun _ _ => 0, Nat.le_refl _, Nat.zero_le _, fun h => by omega, fun _ _ => z0, fun k hk => by omega⟩
  · simp at hcs
    obtain ⟨rfl, rfl, rfl⟩ := hcs
    simp only [if_true] at hmm
    rw [hmm] at hxx
    have each : ∀ i, i < cap → ∃ q : Nat → Int, (∀ j, I64 (q j)) ∧ ∀ j, j < 2 → W.cell? (a.add (i * 2 + j)) = some (.int .i64 (q j)) := by
      intro i hi
      obtain ⟨cs', h1, h3⟩ := hxx i hi
      rw [cellsA2] at h1
      obtain ⟨_, hlen, hcell⟩ := World.cells?_some h1
      obtain ⟨xs, k, hk, hxy, _, hxl, hf⟩ := DataW.trod_struct Try.underlying29 h3
      match xs, hxl, cs', hlen with
      | [y0, y1], _, [v0, v1], _ =>
        have g0 := hf 0 _ rfl
        have g1 := hf 1 _ rfl
        simp [cells3'] at g0 g1
        obtain ⟨z0, e0, f0, w0⟩ := DataW.trod_int Try.underlying3 g0
        obtain ⟨z1, e1, f1, w1⟩ := DataW.trod_int Try.underlying3 g1
        simp at e0 e1
        subst e0 e1
        refine ⟨fun j => if j = 0 then z0 else z1, fun j => ?_, fun j hj => ?_⟩
        · dsimp only
          repeat' split
          · exact i64Of w0
          · exact i64Of w1
        · have c := hcell j (by omega)
          rw [add_add] at c
          rw [c]
          have : j = 0 ∨ j = 1 := by omega
          rcases this with rfl | rfl <;> rfl
    by_cases h0 : cap = 0
    · subst h0
      exact ⟨0, 0, fun _ _ => 0, hl, hm, fun h => by omega, fun _ _ => z0, fun k hk => by omega⟩
    · have hq : ∃ q : Nat → Nat → Int, ∀ i, (∀ j, I64 (q i j)) ∧ (i < cap → ∀ j, j < 2 → W.cell? (a.add (i * 2 + j)) = some (.int .i64 (q i j))) := by
        have : ∀ i, ∃ q : Nat → Int, (∀ j, I64 (q j)) ∧ (i < cap → ∀ j, j < 2 → W.cell? (a.add (i * 2 + j)) = some (.int .i64 (q j))) := fun i => by
          by_cases hi : i < cap
          · obtain ⟨q, h1, h2⟩ := each i hi
            exact ⟨q, h1, fun _ => h2⟩
          · exact ⟨fun _ => 0, fun _ => z0, fun h => by omega⟩
        exact ⟨fun i => Classical.choose (this i), fun i => Classical.choose_spec (this i)⟩
      obtain ⟨q, hq⟩ := hq
      obtain ⟨b, off, spot⟩ := a
      have hspot : spot = none := by simpa [Addr.add] using World.cell?_spot ((hq 0).2 (by omega) 0 (by omega))
      subst hspot
      have ad : ∀ k, (⟨b, off, none⟩ : Addr).add k = ⟨b, off + k, none⟩ := fun k => by unfold Addr.add; split <;> simp_all
      refine ⟨b, off, q, hl, hm, fun _ => rfl, fun k j => (hq k).1 j, fun k hk j hj => ?_⟩
      have c := (hq k).2 (by omega) j hj
      rw [ad] at c
      rw [Nat.add_assoc]
      exact c
set_option maxRecDepth 100000 in
theorem lifted (os : Os) (started : os.Started) (H : Type) (enc : TypeId × Value → H) :
    ReturnsInHanded {} Try.checked os 5 .any (Rows.schedFairSpec.pre6 enc Try.prog Try.f5 Rows.schedFairRow.domain false) (Rows.schedFairSpec.post enc Try.prog Try.f5 false true false false) := by
  refine returnsInHanded_of_change (C := Try.checked) own started (by kernel_rfl) Try.func5
    (ChangeSpec.witness6 (enc := enc) (C := Try.checked) false ⟨#[], #[.int .i64 0, .int .i64 0, .int .i64 0, .slice none 0 0], []⟩ 8 (by kernel_rfl) (by kernel_rfl) (by kernel_rfl) (by kernel_rfl)) ?_
  intro W base args ds gs before hval0 hW hcnd _
  have hval : ∀ (j : Nat) t v, Try.f5.params[j]? = some t → args[j]? = some v → Value.okWide Try.prog W .any base t v := hval0
  have hW' := hW
  obtain ⟨p, q, hA0, hV, rfl, hfz, hnd⟩ := hW
  have hA : DataW.TrodAll enc Try.prog W 0 (fun _ => true) true Try.f5.params.toList args.toList ds p := hA0
  rw [Try.params5] at hA hval
  obtain ⟨v0, vs0, d0, ds0, p0, q0, hargs, rfl, rfl, h0, r0⟩ := trodAll_cons hA
  obtain ⟨v1, vs1, d1, ds1, p1, q1, rfl, rfl, rfl, h1, r1⟩ := trodAll_cons r0
  obtain ⟨v2, vs2, d2, ds2, p2, q2, rfl, rfl, rfl, h2, r2⟩ := trodAll_cons r1
  obtain ⟨v3, vs3, d3, ds3, p3, q3, rfl, rfl, rfl, h3, r3⟩ := trodAll_cons r2
  obtain ⟨rfl, rfl, rfl⟩ := trodAll_nil r3
  obtain rfl : args = #[v0, v1, v2, v3] := by cases args; simp_all
  obtain ⟨rfl, rfl⟩ := trodVars_none hV
  obtain ⟨a0, rfl, rfl, rfl, w0⟩ := open_int Try.underlying3 (hval 0 3 v0 rfl rfl) h0
  obtain ⟨a1, rfl, rfl, rfl, w1⟩ := open_int Try.underlying3 (hval 1 3 v1 rfl rfl) h1
  obtain ⟨a2, rfl, rfl, rfl, w2⟩ := open_int Try.underlying3 (hval 2 3 v2 rfl rfl) h2
  obtain ⟨aa3, len3, cap3, rfl⟩ := okWide_slice Try.underlying22 (hval 3 22 v3 rfl rfl)
  have k3 := h3
  obtain ⟨fuel3, hf3⟩ := h3
  have hlt3 : ∀ x ∈ p3, x.block < W.heap.size := fun x hx => by simpa using hW'.lt x (by simp [hx])
  obtain ⟨ab3, ao3, f3, A3⟩ := acts2_of (by simpa [Value.cells] using hf3)
  clear hA0 hval0
  refine (fair_walk (i64Of w0) (i64Of w1) (i64Of w2) A3).mono fun e W' ⟨he, hu⟩ => ?_
  subst he
  have stay3 : DataW.Trod enc Try.prog W' 0 (fun b => decide (b < W.heap.size)) true 22 (.slice aa3 len3 cap3) d3 p3 :=
    WideElems.Trod_stays laidOut (by kernel_rfl) (of_decide_eq_true (by kernel_rfl)) k3 (fun x hx => up_same hu (hlt3 x hx)) (fun x hx => by simpa using hlt3 x hx)
  exact ⟨_, rfl, _, _, _, [], _, [], hW', trodAll_mk1 (shut_bool Try.underlying4 _), (trodAll_cons_mk (shut_int Try.underlying3 w0) (trodAll_cons_mk (shut_int Try.underlying3 w1) (trodAll_cons_mk (shut_int Try.underlying3 w2) (trodAll_cons_mk stay3 trodAll_mk0)))), rfl, World.keptBut_mono (fun _ f => f.elim) (grownOf hu), fun h => by cases h⟩
theorem over : Rows.schedFairRow.holds Try.pinned (OpenSpec.ofChange Rows.schedFairSpec) :=
  OpenClaim.holds_of_wide 5 Try.f5 rfl rfl rfl rfl rfl rfl rfl ⟨rfl, rfl, rfl, rfl, rfl⟩ rfl rfl rfl rfl rfl (by kernel_rfl) Try.func5 (by kernel_rfl)
    (of_decide_eq_true (by kernel_rfl)) (by unfold Func.isWrapper; first | (rw [if_pos (by decide +kernel)]; kernel_rfl) | (rw [if_neg (by decide +kernel)]; exact ⟨rfl, rfl⟩))
    (fun os started H enc _ => lifted os started H enc)
theorem proved : Rows.SchedFairSaid := over
end Go.Proofs.Ytakciepfckdpfaa.schedFair
namespace Go.Proofs.Ytakciepfckdpfaa
theorem schedFair_proved : Rows.SchedFairSaid := schedFair.proved
#print axioms schedFair_proved
end Go.Proofs.Ytakciepfckdpfaa
