import Derived.Test.YtmjfccdhjhkocaaRows
import Derived.Test.YtmjfccdhjhkocaaMgN
import Derived.Deep.Slices
import Derived.Deep.SlicePairs
import Derived.Deep.Frames
import Derived.Carry
import Derived.WalkKit
import Derived.ProofKit
import Derived.OpenShut
import Derived.ChangeSlices
/- Proved: for all arguments the law PpuCut answers true. No condition. -/
namespace Go.Proofs.Ytmjfccdhjhkocaa.ppuCut
open Go.ChangeShapes Go.WideShapes Go.ChangeAt Go.RowKit Go.Deep
set_option linter.unusedVariables false
theorem own : ownKnob Try.prog.godebug = none := by kernel_rfl
theorem cells3 : Try.prog.cellsOf 3 = 1 := by kernel_rfl
theorem laidOut : laidOutB Try.prog = true := by kernel_rfl
/-- What was there is as it was: the frame. -/
theorem grownOf {w w' : World} (h : Up w w') : w.keptBut w' (fun _ => False) := by
  refine ⟨h.os, h.output, fun i hi => ?_⟩
  rw [h.block i hi]
  split
  · rename_i h1 h2
    obtain ⟨rfl, rfl, rfl⟩ := by simpa using h1.symm.trans h2
    exact ⟨rfl, rfl, rfl, fun _ _ => rfl⟩
  · rename_i h1 h2
    obtain ⟨rfl, rfl⟩ := by simpa using h1.symm.trans h2
    exact Or.inr ⟨rfl, rfl⟩
  · rfl
theorem i64Of {z : Int} (h : (Lit.int .i64 z).wf = true) : I64 z := bounds_i64 h
theorem up_same {W W' : World} (h : Up W W') {p : MemPlace} (hp : p.block < W.heap.size) : W.sameAt W' p := by
  cases p with
  | cell b off => exact h.cell hp
  | map b => exact h.block b hp
set_option maxRecDepth 100000 in
/-- Numbers as they come in. -/
theorem ints_of {H : Type} {enc : TypeId × Value → H} {W : World} {n : Nat} {aa : Option Addr} {len cap : Nat} {x : DataW H × List MemPlace}
    (h2 : DataW.trod enc Try.prog W 0 (fun _ => true) true n 22 [.slice aa len cap] = some x) :
    ∃ (ab ao : Nat) (f : Nat → Int), Ints W aa ab ao len cap f := by
  have z0 : I64 0 := by unfold I64; decide
  rcases open_ints Try.underlying22 Try.underlying3 cells3 h2 with ⟨hcs, hx⟩ | ⟨a, len', cap', zs, hcs, _, hl, hm, hz, hx, hcell, hwz⟩
  · simp at hcs
    obtain ⟨rfl, rfl, rfl⟩ := hcs
    exact ⟨0, 0, fun _ => 0, Nat.le_refl _, Nat.zero_le _, fun h => by omega, fun _ => z0, fun k hk => by omega⟩
  · simp at hcs
    obtain ⟨rfl, rfl, rfl⟩ := hcs
    simp only [if_true] at hz
    by_cases h0 : len = 0
    · subst h0
      exact ⟨0, 0, fun _ => 0, hl, hm, fun h => by omega, fun _ => z0, fun k hk => by omega⟩
    · obtain ⟨b, off, spot⟩ := a
      have hspot : spot = none := by simpa [Addr.add] using World.cell?_spot (hcell 0 (by omega))
      subst hspot
      refine ⟨b, off, fun k => zs.getD k 0, hl, hm, fun _ => rfl, fun k => ?_, fun k hk => by have hc := hcell k (by omega); rw [show (⟨b, off, none⟩ : Addr).add k = ⟨b, off + k, none⟩ by unfold Addr.add; split <;> simp_all] at hc; exact hc⟩
      show I64 (zs.getD k 0)
      rw [List.getD_eq_getElem?_getD]
      cases h : zs[k]? with
      | none => exact z0
      | some y => exact i64Of (hwz y (List.mem_of_getElem? h))
theorem cellsU : Try.prog.cellsOf 5 = 1 := by kernel_rfl
set_option maxRecDepth 100000 in
/-- Bytes as they come in. -/
theorem bytes_of {H : Type} {enc : TypeId × Value → H} {W : World} {n : Nat} {aa : Option Addr} {len cap : Nat} {x : DataW H × List MemPlace}
    (h2 : DataW.trod enc Try.prog W 0 (fun _ => true) true n 23 [.slice aa len cap] = some x) :
    ∃ (ab ao : Nat) (f : Nat → Int), Byts W aa ab ao len cap f := by
  have z0 : (0 : Int) ≤ 0 ∧ (0 : Int) ≤ 255 := by decide
  rcases open_ints Try.underlying23 Try.underlying5 cellsU h2 with ⟨hcs, hx⟩ | ⟨a, len', cap', zs, hcs, _, hl, hm, hz, hx, hcell, hwz⟩
  · simp at hcs
    obtain ⟨rfl, rfl, rfl⟩ := hcs
    exact ⟨0, 0, fun _ => 0, Nat.le_refl _, Nat.zero_le _, fun h => by omega, fun _ => z0, fun k hk => by omega⟩
  · simp at hcs
    obtain ⟨rfl, rfl, rfl⟩ := hcs
    simp only [if_true] at hz
    by_cases h0 : len = 0
    · subst h0
      exact ⟨0, 0, fun _ => 0, hl, hm, fun h => by omega, fun _ => z0, fun k hk => by omega⟩
    · obtain ⟨b, off, spot⟩ := a
      have hspot : spot = none := by simpa [Addr.add] using World.cell?_spot (hcell 0 (by omega))
      subst hspot
      refine ⟨b, off, fun k => zs.getD k 0, hl, hm, fun _ => rfl, fun k => ?_, fun k hk => by have hc := hcell k (by omega); rw [show (⟨b, off, none⟩ : Addr).add k = ⟨b, off + k, none⟩ by unfold Addr.add; split <;> simp_all] at hc; exact hc⟩
      show 0 ≤ zs.getD k 0 ∧ zs.getD k 0 ≤ 255
      rw [List.getD_eq_getElem?_getD]
      cases h : zs[k]? with
      | none => exact z0
      | some y => exact bounds_u8 (hwz y (List.mem_of_getElem? h))
theorem i64Of2 {z : Int} (h : (Lit.int .i64 z).wf = true) : I64 z := bounds_i64 h
theorem cellsP : Try.prog.cellsOf 55 = 2 := by kernel_rfl
theorem cellsI : Try.prog.cellsOf 3 = 1 := by kernel_rfl
theorem cellsB : Try.prog.cellsOf 23 = 1 := by kernel_rfl
theorem cellsR : Try.prog.cellsOf 22 = 1 := by kernel_rfl
theorem cellsQ : Try.prog.cellsOf 35 = 1 := by kernel_rfl
theorem addOf {b off k : Nat} : (⟨b, off, none⟩ : Addr).add k = ⟨b, off + k, none⟩ := by unfold Addr.add; split <;> simp_all
set_option maxRecDepth 100000 in
/-- Pieces as they come in. -/
theorem pieces_of {H : Type} {enc : TypeId × Value → H} {W : World} {n : Nat} {v : Value} {x : DataW H × List MemPlace}
    (h2 : DataW.trod enc Try.prog W 0 (fun _ => true) true n 35 [v] = some x) :
    ∃ (pa : Option Addr) (pb po pl pc : Nat) (P : Nat → Pce), v = .slice pa pl pc ∧ Pcs W pa pb po pl pc P := by
  have z0 : I64 0 := by unfold I64; decide
  have dflt : Pce := ⟨0, none, 0, 0, 0, 0, fun _ => 0⟩
  rcases open_slice_pairs Try.underlying35 Try.underlying55 cellsP rfl rfl cellsI cellsB h2 with ⟨hcs, hx⟩ | ⟨a, len, cap, m, n', V0, V1, D0, D1, P0, P1, hcs, hb, hl, hm, hmm, hx, hxx⟩
  · simp at hcs
    subst hcs
    exact ⟨none, 0, 0, 0, 0, fun _ => ⟨0, none, 0, 0, 0, 0, fun _ => 0⟩, rfl, Nat.le_refl _, Nat.zero_le _, fun h => by omega, fun _ => z0, fun i hi => by omega, fun i hi => by omega, fun i hi => by omega⟩
  · simp at hcs
    subst hcs
    simp only [if_true] at hmm
    rw [hmm] at hxx
    have each : ∀ i, i < cap → ∃ q : Pce, I64 q.at' ∧ W.cell? (a.add (i * 2)) = some (.int .i64 q.at') ∧ W.cell? (a.add (i * 2 + 1)) = some (.slice q.aa q.len q.cap) ∧ Byts W q.aa q.ab q.ao q.len q.cap q.f := by
      intro i hi
      obtain ⟨c0, c1, t0, t1⟩ := hxx i hi
      obtain ⟨z, e0, f0, w0⟩ := DataW.trod_int Try.underlying3 t0
      simp at e0
      have hv : ∃ aa len cap, V1 i = .slice aa len cap := by
        rcases open_slice Try.underlying23 t1 with ⟨h, _⟩ | ⟨a', l', c', _, _, _, _, h, _⟩
        · simp at h
          exact ⟨_, _, _, h⟩
        · simp at h
          exact ⟨_, _, _, h⟩
      obtain ⟨aa, l1, c1', hv⟩ := hv
      rw [hv] at t1 c1
      obtain ⟨ab, ao, f, B⟩ := bytes_of t1
      exact ⟨⟨z, aa, ab, ao, l1, c1', f⟩, i64Of2 w0, by rw [c0, e0], c1, B⟩
    have all : ∀ i, ∃ q : Pce, I64 q.at' ∧ (i < cap → W.cell? (a.add (i * 2)) = some (.int .i64 q.at') ∧ W.cell? (a.add (i * 2 + 1)) = some (.slice q.aa q.len q.cap) ∧ Byts W q.aa q.ab q.ao q.len q.cap q.f) := fun i => by
      by_cases hi : i < cap
      · obtain ⟨q, h1, h2⟩ := each i hi
        exact ⟨q, h1, fun _ => h2⟩
      · exact ⟨⟨0, none, 0, 0, 0, 0, fun _ => 0⟩, z0, fun h => absurd h hi⟩
    obtain ⟨Q, hQ⟩ : ∃ Q : Nat → Pce, ∀ i, I64 (Q i).at' ∧ (i < cap → W.cell? (a.add (i * 2)) = some (.int .i64 (Q i).at') ∧ W.cell? (a.add (i * 2 + 1)) = some (.slice (Q i).aa (Q i).len (Q i).cap) ∧ Byts W (Q i).aa (Q i).ab (Q i).ao (Q i).len (Q i).cap (Q i).f) := ⟨fun i => Classical.choose (all i), fun i => Classical.choose_spec (all i)⟩
    by_cases h0 : len = 0
    · subst h0
      exact ⟨some a, 0, 0, 0, cap, Q, rfl, hl, hm, fun h => by omega, fun i => (hQ i).1, fun i hi => by omega, fun i hi => by omega, fun i hi => by omega⟩
    · obtain ⟨b, off, spot⟩ := a
      have hspot : spot = none := by simpa [Addr.add] using World.cell?_spot (((hQ 0).2 (by omega)).1)
      subst hspot
      refine ⟨some ⟨b, off, none⟩, b, off, len, cap, Q, rfl, hl, hm, fun _ => rfl, fun i => (hQ i).1, fun i hi => ?_, fun i hi => ?_, fun i hi => ((hQ i).2 (by omega)).2.2⟩
      · have := ((hQ i).2 (by omega)).1
        rw [addOf] at this
        exact this
      · have := ((hQ i).2 (by omega)).2.1
        rw [addOf, ← Nat.add_assoc] at this
        exact this
set_option maxRecDepth 100000 in
/-- A scene as it comes in. -/
theorem scene_of {H : Type} {enc : TypeId × Value → H} {W : World} {n : Nat} {cs : Array Value} {x : DataW H × List MemPlace} (hs : cs.size = 3)
    (h2 : DataW.trod enc Try.prog W 0 (fun _ => true) true n 37 cs.toList = some x) :
    ∃ s : Sce, cs = #[.slice s.ra s.rl s.rc, .slice s.oa s.ol s.oc, .slice s.pa s.pl s.pc] ∧ ScAt W s := by
  obtain ⟨xs, k, hk, hxy, _, hxl, hf⟩ := DataW.trod_struct Try.underlying37 h2
  obtain ⟨cs⟩ := cs
  match cs, hs with
  | [v0, v1, v2], _ =>
    match xs, hxl with
    | [y0, y1, y2], _ =>
      have g0 := hf 0 _ rfl
      have g1 := hf 1 _ rfl
      have g2 := hf 2 _ rfl
      simp [cellsQ, cellsR, cellsB] at g0 g1 g2
      obtain ⟨pa, pb, po, pl, pc, P, rfl, h⟩ := pieces_of g2
      have e0 : ∃ aa len cap, v0 = .slice aa len cap := by
        rcases open_slice Try.underlying22 g0 with ⟨h, _⟩ | ⟨a', l', c', _, _, _, _, h, _⟩
        · simp at h
          exact ⟨_, _, _, h⟩
        · simp at h
          exact ⟨_, _, _, h⟩
      have e1 : ∃ aa len cap, v1 = .slice aa len cap := by
        rcases open_slice Try.underlying23 g1 with ⟨h, _⟩ | ⟨a', l', c', _, _, _, _, h, _⟩
        · simp at h
          exact ⟨_, _, _, h⟩
        · simp at h
          exact ⟨_, _, _, h⟩
      obtain ⟨ra, rl, rc, rfl⟩ := e0
      obtain ⟨oa, ol, oc, rfl⟩ := e1
      obtain ⟨rb, ro, f, I⟩ := ints_of g0
      obtain ⟨ob, oo, F, B⟩ := bytes_of g1
      exact ⟨⟨ra, rb, ro, rl, rc, f, oa, ob, oo, ol, oc, F, pa, pb, po, pl, pc, P⟩, rfl, I, B, h⟩
set_option maxRecDepth 100000 in
theorem lifted (os : Os) (started : os.Started) (H : Type) (enc : TypeId × Value → H) :
    ReturnsInHanded {} Try.checked os 16 .any (Rows.ppuCutSpec.pre6 enc Try.prog Try.f16 Rows.ppuCutRow.domain false) (Rows.ppuCutSpec.post enc Try.prog Try.f16 false true false false) := by
  refine returnsInHanded_of_change (C := Try.checked) own started (by kernel_rfl) Try.func16
    (ChangeSpec.witness6 (enc := enc) (C := Try.checked) false ⟨#[], #[.agg #[.slice none 0 0, .slice none 0 0, .slice none 0 0], .slice none 0 0, .slice none 0 0], []⟩ 8 (by kernel_rfl) (by kernel_rfl) (by kernel_rfl) (by kernel_rfl)) ?_
  intro W base args ds gs before hval0 hW hcnd _
  have hval : ∀ (j : Nat) t v, Try.f16.params[j]? = some t → args[j]? = some v → Value.okWide Try.prog W .any base t v := hval0
  have hW' := hW
  obtain ⟨p, q, hA0, hV, rfl, hfz, hnd⟩ := hW
  have hA : DataW.TrodAll enc Try.prog W 0 (fun _ => true) true Try.f16.params.toList args.toList ds p := hA0
  rw [Try.params16] at hA hval
  obtain ⟨v0, vs0, d0, ds0, p0, q0, hargs, rfl, rfl, h0, r0⟩ := trodAll_cons hA
  obtain ⟨v1, vs1, d1, ds1, p1, q1, rfl, rfl, rfl, h1, r1⟩ := trodAll_cons r0
  obtain ⟨v2, vs2, d2, ds2, p2, q2, rfl, rfl, rfl, h2, r2⟩ := trodAll_cons r1
  obtain ⟨rfl, rfl, rfl⟩ := trodAll_nil r2
  obtain rfl : args = #[v0, v1, v2] := by cases args; simp_all
  obtain ⟨rfl, rfl⟩ := trodVars_none hV
  obtain ⟨cs0, rfl, hcs0⟩ := okWide_struct Try.underlying37 (hval 0 37 v0 rfl rfl)
  have k0 := h0
  obtain ⟨fuel0, hf0⟩ := h0
  have hlt0 : ∀ x ∈ p0, x.block < W.heap.size := fun x hx => by simpa using hW'.lt x (by simp [hx])
  obtain ⟨s0, rfl, A0⟩ := scene_of hcs0 (by simpa [Value.cells] using hf0)
  obtain ⟨aa1, len1, cap1, rfl⟩ := okWide_slice Try.underlying22 (hval 1 22 v1 rfl rfl)
  have k1 := h1
  obtain ⟨fuel1, hf1⟩ := h1
  have hlt1 : ∀ x ∈ p1, x.block < W.heap.size := fun x hx => by simpa using hW'.lt x (by simp [hx])
  obtain ⟨ab1, ao1, f1, A1⟩ := ints_of (by simpa [Value.cells] using hf1)
  obtain ⟨aa2, len2, cap2, rfl⟩ := okWide_slice Try.underlying22 (hval 2 22 v2 rfl rfl)
  have k2 := h2
  obtain ⟨fuel2, hf2⟩ := h2
  have hlt2 : ∀ x ∈ p2, x.block < W.heap.size := fun x hx => by simpa using hW'.lt x (by simp [hx])
  obtain ⟨ab2, ao2, f2, A2⟩ := ints_of (by simpa [Value.cells] using hf2)
  clear hA0 hval0
  refine (cut_walk A0 A1 A2).mono fun e W' ⟨he, hu⟩ => ?_
  subst he
  have stay0 : DataW.Trod enc Try.prog W' 0 (fun b => decide (b < W.heap.size)) true 37 (.agg #[.slice s0.ra s0.rl s0.rc, .slice s0.oa s0.ol s0.oc, .slice s0.pa s0.pl s0.pc]) d0 p0 :=
    WideElems.Trod_stays laidOut (by kernel_rfl) (of_decide_eq_true (by kernel_rfl)) k0 (fun x hx => up_same hu (hlt0 x hx)) (fun x hx => by simpa using hlt0 x hx)
  have stay1 : DataW.Trod enc Try.prog W' 0 (fun b => decide (b < W.heap.size)) true 22 (.slice aa1 len1 cap1) d1 p1 :=
    WideElems.Trod_stays laidOut (by kernel_rfl) (of_decide_eq_true (by kernel_rfl)) k1 (fun x hx => up_same hu (hlt1 x hx)) (fun x hx => by simpa using hlt1 x hx)
  have stay2 : DataW.Trod enc Try.prog W' 0 (fun b => decide (b < W.heap.size)) true 22 (.slice aa2 len2 cap2) d2 p2 :=
    WideElems.Trod_stays laidOut (by kernel_rfl) (of_decide_eq_true (by kernel_rfl)) k2 (fun x hx => up_same hu (hlt2 x hx)) (fun x hx => by simpa using hlt2 x hx)
  exact ⟨_, rfl, _, _, _, [], _, [], hW', trodAll_mk1 (shut_bool Try.underlying4 _), (trodAll_cons_mk stay0 (trodAll_cons_mk stay1 (trodAll_cons_mk stay2 trodAll_mk0))), rfl, World.keptBut_mono (fun _ f => f.elim) (grownOf hu), fun h => by cases h⟩
theorem over : Rows.ppuCutRow.holds Try.pinned (OpenSpec.ofChange Rows.ppuCutSpec) :=
  OpenClaim.holds_of_wide 16 Try.f16 rfl rfl rfl rfl rfl rfl rfl ⟨rfl, rfl, rfl, rfl, rfl⟩ rfl rfl rfl rfl rfl (by kernel_rfl) Try.func16 (by kernel_rfl)
    (of_decide_eq_true (by kernel_rfl)) (by unfold Func.isWrapper; first | (rw [if_pos (by decide +kernel)]; kernel_rfl) | (rw [if_neg (by decide +kernel)]; exact ⟨rfl, rfl⟩))
    (fun os started H enc _ => lifted os started H enc)
theorem proved : Rows.PpuCutSaid := over
end Go.Proofs.Ytmjfccdhjhkocaa.ppuCut
namespace Go.Proofs.Ytmjfccdhjhkocaa
theorem ppuCut_proved : Rows.PpuCutSaid := ppuCut.proved
#print axioms ppuCut_proved
end Go.Proofs.Ytmjfccdhjhkocaa
