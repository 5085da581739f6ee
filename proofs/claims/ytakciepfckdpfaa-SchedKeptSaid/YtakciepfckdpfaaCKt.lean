/- Proved: for all arguments the law SchedKept answers true. No condition. -/
import Derived.Test.YtakciepfckdpfaaRows
import Derived.Test.YtakciepfckdpfaaWKt
import Derived.Deep.Slices
import Derived.Deep.SlicePairs
import Derived.Deep.Frames
import Derived.Carry
import Derived.WalkKit
import Derived.ProofKit
import Derived.OpenShut
import Derived.ChangeSlices
namespace Go.Proofs.Ytakciepfckdpfaa.schedKept
open Go.ChangeShapes Go.WideShapes Go.ChangeAt Go.RowKit Go.Deep
set_option linter.unusedVariables false
theorem own : ownKnob Try.prog.godebug = none := by kernel_rfl
theorem cells3 : Try.prog.cellsOf 3 = 1 := by kernel_rfl
theorem laidOut : laidOutB Try.prog = true := by kernel_rfl
/-- What was there is as it was: the frame. -/
theorem grownOf {w w' : World} (h : Up w w') : w.keptBut w' (fun _ => False) := by
  refine ⟨h.os, h.output, fun i hi => ?_⟩
  rw [h.block i hi]
  split
  · rename_i h1 h2
    obtain ⟨rfl, rfl, rfl⟩ := by simpa using h1.symm.trans h2
    exact ⟨rfl, rfl, rfl, fun _ _ => rfl⟩
  · rename_i h1 h2
    obtain ⟨rfl, rfl⟩ := by simpa using h1.symm.trans h2
    exact Or.inr ⟨rfl, rfl⟩
  · rfl
theorem i64Of {z : Int} (h : (Lit.int .i64 z).wf = true) : I64 z := bounds_i64 h
theorem up_same {W W' : World} (h : Up W W') {p : MemPlace} (hp : p.block < W.heap.size) : W.sameAt W' p := by
  cases p with
  | cell b off => exact h.cell hp
  | map b => exact h.block b hp
set_option maxRecDepth 100000 in
/-- Numbers as they come in. -/
theorem ints_of {H : Type} {enc : TypeId × Value → H} {W : World} {n : Nat} {aa : Option Addr} {len cap : Nat} {x : DataW H × List MemPlace}
    (h2 : DataW.trod enc Try.prog W 0 (fun _ => true) true n 35 [.slice aa len cap] = some x) :
    ∃ (ab ao : Nat) (f : Nat → Int), Ints W aa ab ao len cap f := by
  have z0 : I64 0 := by unfold I64; decide
  rcases open_ints Try.underlying35 Try.underlying3 cells3 h2 with ⟨hcs, hx⟩ | ⟨a, len', cap', zs, hcs, _, hl, hm, hz, hx, hcell, hwz⟩
  · simp at hcs
    obtain ⟨rfl, rfl, rfl⟩ := hcs
    exact ⟨0, 0, fun _ => 0, Nat.le_refl _, Nat.zero_le _, fun h => by omega, fun _ => z0, fun k hk => by omega⟩
  · simp at hcs
    obtain ⟨rfl, rfl, rfl⟩ := hcs
    simp only [if_true] at hz
    by_cases h0 : len = 0
    · subst h0
      exact ⟨0, 0, fun _ => 0, hl, hm, fun h => by omega, fun _ => z0, fun k hk => by omega⟩
    · obtain ⟨b, off, spot⟩ := a
      have hspot : spot = none := by simpa [Addr.add] using World.cell?_spot (hcell 0 (by omega))
      subst hspot
      refine ⟨b, off, fun k => zs.getD k 0, hl, hm, fun _ => rfl, fun k => ?_, fun k hk => by have hc := hcell k (by omega); rw [show (⟨b, off, none⟩ : Addr).add k = ⟨b, off + k, none⟩ by unfold Addr.add; split <;> simp_all] at hc; exact hc⟩
      show I64 (zs.getD k 0)
      rw [List.getD_eq_getElem?_getD]
      cases h : zs[k]? with
      | none => exact z0
      | some y => exact i64Of (hwz y (List.mem_of_getElem? h))
set_option maxRecDepth 100000 in
theorem lifted (os : Os) (started : os.Started) (H : Type) (enc : TypeId × Value → H) :
    ReturnsInHanded {} Try.checked os 6 .any (Rows.schedKeptSpec.pre6 enc Try.prog Try.f6 Rows.schedKeptRow.domain false) (Rows.schedKeptSpec.post enc Try.prog Try.f6 false true false false) := by
  refine returnsInHanded_of_change (C := Try.checked) own started (by kernel_rfl) Try.func6
    (ChangeSpec.witness6 (enc := enc) (C := Try.checked) false ⟨#[], #[.int .i64 0, .slice none 0 0], []⟩ 8 (by kernel_rfl) (by kernel_rfl) (by kernel_rfl) (by kernel_rfl)) ?_
  intro W base args ds gs before hval0 hW hcnd _
  have hval : ∀ (j : Nat) t v, Try.f6.params[j]? = some t → args[j]? = some v → Value.okWide Try.prog W .any base t v := hval0
  have hW' := hW
  obtain ⟨p, q, hA0, hV, rfl, hfz, hnd⟩ := hW
  have hA : DataW.TrodAll enc Try.prog W 0 (fun _ => true) true Try.f6.params.toList args.toList ds p := hA0
  rw [Try.params6] at hA hval
  obtain ⟨v0, vs0, d0, ds0, p0, q0, hargs, rfl, rfl, h0, r0⟩ := trodAll_cons hA
  obtain ⟨v1, vs1, d1, ds1, p1, q1, rfl, rfl, rfl, h1, r1⟩ := trodAll_cons r0
  obtain ⟨rfl, rfl, rfl⟩ := trodAll_nil r1
  obtain rfl : args = #[v0, v1] := by cases args; simp_all
  obtain ⟨rfl, rfl⟩ := trodVars_none hV
  obtain ⟨a0, rfl, rfl, rfl, w0⟩ := open_int Try.underlying3 (hval 0 3 v0 rfl rfl) h0
  obtain ⟨aa1, len1, cap1, rfl⟩ := okWide_slice Try.underlying35 (hval 1 35 v1 rfl rfl)
  have k1 := h1
  obtain ⟨fuel1, hf1⟩ := h1
  have hlt1 : ∀ x ∈ p1, x.block < W.heap.size := fun x hx => by simpa using hW'.lt x (by simp [hx])
  obtain ⟨ab1, ao1, f1, A1⟩ := ints_of (by simpa [Value.cells] using hf1)
  clear hA0 hval0
  refine (kept_walk (i64Of w0) A1).mono fun e W' ⟨he, hu⟩ => ?_
  subst he
  have stay1 : DataW.Trod enc Try.prog W' 0 (fun b => decide (b < W.heap.size)) true 35 (.slice aa1 len1 cap1) d1 p1 :=
    WideElems.Trod_stays laidOut (by kernel_rfl) (of_decide_eq_true (by kernel_rfl)) k1 (fun x hx => up_same hu (hlt1 x hx)) (fun x hx => by simpa using hlt1 x hx)
  exact ⟨_, rfl, _, _, _, [], _, [], hW', trodAll_mk1 (shut_bool Try.underlying4 _), (trodAll_cons_mk (shut_int Try.underlying3 w0) (trodAll_cons_mk stay1 trodAll_mk0)), rfl, World.keptBut_mono (fun _ f => f.elim) (grownOf hu), fun h => by cases h⟩
theorem over : Rows.schedKeptRow.holds Try.pinned (OpenSpec.ofChange Rows.schedKeptSpec) :=
  OpenClaim.holds_of_wide 6 Try.f6 rfl rfl rfl rfl rfl rfl rfl ⟨rfl, rfl, rfl, rfl, rfl⟩ rfl rfl rfl rfl rfl (by kernel_rfl) Try.func6 (by kernel_rfl)
    (of_decide_eq_true (by kernel_rfl)) (by unfold Func.isWrapper; first | (rw [if_pos (by decide +kernel)]; kernel_rfl) | (rw [if_neg (by decide +kernel)]; exact ⟨rfl, rfl⟩))
    (fun os started H enc _ => lifted os started H enc)
theorem proved : Rows.SchedKeptSaid := over
end Go.Proofs.Ytakciepfckdpfaa.schedKept
namespace Go.Proofs.Ytakciepfckdpfaa
theorem schedKept_proved : Rows.SchedKeptSaid := schedKept.proved
#print axioms schedKept_proved
end Go.Proofs.Ytakciepfckdpfaa
