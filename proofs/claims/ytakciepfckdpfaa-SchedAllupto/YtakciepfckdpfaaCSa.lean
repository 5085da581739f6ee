/- Proved: the law SchedAll answers true wherever what it reads is of bulk at most 1048576. That bound is the statement's own condition. -/
import Derived.Test.YtakciepfckdpfaaRows
import Derived.Test.YtakciepfckdpfaaSaI
import Derived.Deep.Slices
import Derived.Deep.SlicePairs
import Derived.Deep.Frames
import Derived.Carry
import Derived.WalkKit
import Derived.ProofKit
import Derived.OpenShut
import Derived.ChangeSlices
import Derived.JoinedCond
namespace Go.Proofs.Ytakciepfckdpfaa.schedAll
open Go.ChangeShapes Go.WideShapes Go.ChangeAt Go.RowKit Go.Deep
set_option linter.unusedVariables false
theorem own : ownKnob Try.prog.godebug = none := by kernel_rfl
theorem cells3 : Try.prog.cellsOf 3 = 1 := by kernel_rfl
theorem laidOut : laidOutB Try.prog = true := by kernel_rfl
/-- What was there is as it was: the frame. -/
theorem grownOf {w w' : World} (h : Up w w') : w.keptBut w' (fun _ => False) := by
  refine ⟨h.os, h.output, fun i hi => ?_⟩
  rw [h.block i hi]
  split
  · rename_i h1 h2
    obtain ⟨rfl, rfl, rfl⟩ := by simpa using h1.symm.trans h2
    exact ⟨rfl, rfl, rfl, fun _ _ => rfl⟩
  · rename_i h1 h2
    obtain ⟨rfl, rfl⟩ := by simpa using h1.symm.trans h2
    exact Or.inr ⟨rfl, rfl⟩
  · rfl
theorem i64Of {z : Int} (h : (Lit.int .i64 z).wf = true) : I64 z := bounds_i64 h
theorem up_same {W W' : World} (h : Up W W') {p : MemPlace} (hp : p.block < W.heap.size) : W.sameAt W' p := by
  cases p with
  | cell b off => exact h.cell hp
  | map b => exact h.block b hp
set_option maxRecDepth 100000 in
/-- Numbers as they come in. -/
theorem ints_of {H : Type} {enc : TypeId × Value → H} {W : World} {n : Nat} {aa : Option Addr} {len cap : Nat} {x : DataW H × List MemPlace}
    (h2 : DataW.trod enc Try.prog W 0 (fun _ => true) true n 35 [.slice aa len cap] = some x) :
    ∃ (ab ao : Nat) (f : Nat → Int), Ints W aa ab ao len cap f := by
  have z0 : I64 0 := by unfold I64; decide
  rcases open_ints Try.underlying35 Try.underlying3 cells3 h2 with ⟨hcs, hx⟩ | ⟨a, len', cap', zs, hcs, _, hl, hm, hz, hx, hcell, hwz⟩
  · simp at hcs
    obtain ⟨rfl, rfl, rfl⟩ := hcs
    exact ⟨0, 0, fun _ => 0, Nat.le_refl _, Nat.zero_le _, fun h => by omega, fun _ => z0, fun k hk => by omega⟩
  · simp at hcs
    obtain ⟨rfl, rfl, rfl⟩ := hcs
    simp only [if_true] at hz
    by_cases h0 : len = 0
    · subst h0
      exact ⟨0, 0, fun _ => 0, hl, hm, fun h => by omega, fun _ => z0, fun k hk => by omega⟩
    · obtain ⟨b, off, spot⟩ := a
      have hspot : spot = none := by simpa [Addr.add] using World.cell?_spot (hcell 0 (by omega))
      subst hspot
      refine ⟨b, off, fun k => zs.getD k 0, hl, hm, fun _ => rfl, fun k => ?_, fun k hk => by have hc := hcell k (by omega); rw [show (⟨b, off, none⟩ : Addr).add k = ⟨b, off + k, none⟩ by unfold Addr.add; split <;> simp_all] at hc; exact hc⟩
      show I64 (zs.getD k 0)
      rw [List.getD_eq_getElem?_getD]
      cases h : zs[k]? with
      | none => exact z0
      | some y => exact i64Of (hwz y (List.mem_of_getElem? h))
theorem lits_len (k : IntKind) {H : Type} (zs : List Int) : (lits (H := H) k zs).length = zs.length := by unfold lits; simp
theorem one_le {H : Type} (d : DataW H) : 1 ≤ Rows.uptoBulk d := by
  cases d with
  | lit l => cases l <;> simp [Rows.uptoBulk]
  | nil => simp [Rows.uptoBulk]
  | ptr d => simp [Rows.uptoBulk]
  | slice elems spare => simp [Rows.uptoBulk]
  | agg parts => simp [Rows.uptoBulk]
  | iface t d => simp [Rows.uptoBulk]
  | map entries => simp [Rows.uptoBulk]
  | held h => simp [Rows.uptoBulk]
theorem length_le {H : Type} (l : List (DataW H)) : l.length ≤ Rows.uptoBulkAll l := by
  induction l with
  | nil => simp [Rows.uptoBulkAll]
  | cons x r ih => have := one_le x; simp only [Rows.uptoBulkAll, List.length_cons]; omega
theorem part_le {H : Type} {d : DataW H} {l : List (DataW H)} (h : d ∈ l) : Rows.uptoBulk d ≤ Rows.uptoBulkAll l := by
  induction l with
  | nil => cases h
  | cons x r ih =>
    simp only [Rows.uptoBulkAll]
    cases List.mem_cons.1 h with
    | inl e => subst e; omega
    | inr e => have := ih e; omega
theorem bnd {H : Type} {enc : TypeId × Value → H} {W : World} {n len cap : Nat} {t e : TypeId} {k : IntKind} {aa : Option Addr} {d : DataW H} {p : List MemPlace} {ds : List (DataW H)}
    (ht : Try.prog.underlying t = some (.slice e)) (he : Try.prog.underlying e = some (.int k)) (hc : Try.prog.cellsOf e = 1)
    (h2 : DataW.trod enc Try.prog W 0 (fun _ => true) true n t [.slice aa len cap] = some (d, p)) (hk : Rows.uptoSmall H ds = true) (hd : d ∈ ds) : len ≤ 1048576 := by
  have hb : Rows.uptoBulkAll ds ≤ 1048576 := of_decide_eq_true hk
  have hb2 := part_le hd
  rcases open_ints ht he hc h2 with ⟨h, _⟩ | ⟨a, l, c, zs, h, _, hl, _, hlen, hx, _⟩
  · simp at h
    omega
  · simp at h
    obtain ⟨rfl, rfl, rfl⟩ := h
    obtain ⟨rfl, _⟩ := Prod.mk.inj hx
    simp only [Rows.uptoBulk] at hb2
    have h3 := length_le (lits (H := H) k (zs.take len))
    have h4 := length_le (lits (H := H) k (zs.drop len))
    rw [lits_len] at h3 h4
    have h5 : (zs.take len).length + (zs.drop len).length = zs.length := by rw [← List.length_append, List.take_append_drop]
    rw [hlen, if_pos rfl] at h5
    omega
theorem nilcap {H : Type} {enc : TypeId × Value → H} {W : World} {n len cap : Nat} {t e : TypeId} {k : IntKind} {aa : Option Addr} {x : DataW H × List MemPlace}
    (ht : Try.prog.underlying t = some (.slice e)) (he : Try.prog.underlying e = some (.int k)) (hc : Try.prog.cellsOf e = 1)
    (h2 : DataW.trod enc Try.prog W 0 (fun _ => true) true n t [.slice aa len cap] = some x) : aa = none → cap = 0 := by
  rcases open_ints ht he hc h2 with ⟨h, _⟩ | ⟨a, l, c, zs, h, _⟩
  · simp at h
    exact fun _ => h.2.2
  · simp at h
    obtain ⟨rfl, _⟩ := h
    intro e
    cases e
theorem cI : Try.prog.cellsOf 3 = 1 := by kernel_rfl
theorem cB : Try.prog.cellsOf 4 = 1 := by kernel_rfl
theorem cO : Try.prog.cellsOf 54 = 4 := by kernel_rfl
set_option maxRecDepth 100000 in
/-- Steps as they come in. -/
theorem ops_of {H : Type} {enc : TypeId × Value → H} {W : World} {n : Nat} {aa : Option Addr} {len cap : Nat} {x : DataW H × List MemPlace}
    (h2 : DataW.trod enc Try.prog W 0 (fun _ => true) true n 45 [.slice aa len cap] = some x) (hb : Rows.uptoBulk x.1 ≤ 1048576) :
    len ≤ 1048576 ∧ ∃ ys, Ops W aa len cap ys := by
  rcases open_slice Try.underlying45 h2 with ⟨hcs, hx⟩ | ⟨a, len', cap', m, n', D, Pl, hcs, _, hl, hm, hmm, hx, hxx⟩
  · simp at hcs
    obtain ⟨rfl, rfl, rfl⟩ := hcs
    exact ⟨by omega, [], Nat.le_refl _, Nat.zero_le _, fun _ => ⟨rfl, rfl⟩, Opl.nil, fun a h => by cases h⟩
  · simp at hcs
    obtain ⟨rfl, rfl, rfl⟩ := hcs
    simp only [if_true] at hmm
    rw [hmm] at hxx
    subst hx
    simp only [Rows.uptoBulk] at hb
    have hln : len ≤ 1048576 := by
      have := length_le ((List.range len).map D)
      simp at this
      omega
    have each : ∀ i, i < len → ∃ z0 z1 z2 b3, I64 z1 ∧ I64 z2 ∧ ∀ j v, (opv z0 z1 z2 b3)[j]? = some v → W.cell? (a.add (i * 4 + j)) = some v := by
      intro i hi
      obtain ⟨cs', h1, h3⟩ := hxx i (by omega)
      rw [cO] at h1
      obtain ⟨_, hlen, hcell⟩ := World.cells?_some h1
      obtain ⟨xs, k, hk, hxy, _, hxl, hf⟩ := DataW.trod_struct Try.underlying54 h3
      match xs, hxl, cs', hlen with
      | [y0, y1, y2, y3], _, [v0, v1, v2, v3], _ =>
        have g0 := hf 0 _ rfl
        have g1 := hf 1 _ rfl
        have g2 := hf 2 _ rfl
        have g3 := hf 3 _ rfl
        simp [cI, cB] at g0 g1 g2 g3
        obtain ⟨z0, e0, f0, w0⟩ := DataW.trod_int Try.underlying3 g0
        obtain ⟨z1, e1, f1, w1⟩ := DataW.trod_int Try.underlying3 g1
        obtain ⟨z2, e2, f2, w2⟩ := DataW.trod_int Try.underlying3 g2
        obtain ⟨b3, e3, f3⟩ := DataW.trod_bool Try.underlying4 g3
        simp at e0 e1 e2 e3
        subst e0 e1 e2 e3
        refine ⟨z0, z1, z2, b3, i64Of w1, i64Of w2, fun j v hj => ?_⟩
        have hj4 : j < 4 := (List.getElem?_eq_some_iff.1 hj).1
        have c := hcell j hj4
        rw [add_add] at c
        rw [c]
        have : j = 0 ∨ j = 1 ∨ j = 2 ∨ j = 3 := by omega
        rcases this with rfl | rfl | rfl | rfl <;> exact hj
    have all : ∀ k, k ≤ len → ∃ ys, Opl ys k ∧ ∀ j u, ys[j]? = some u → W.cell? (a.add j) = some u := by
      intro k
      induction k with
      | zero => exact fun _ => ⟨[], Opl.nil, fun j u h => by simp at h⟩
      | succ k ih =>
        intro hk
        obtain ⟨ys, o, c⟩ := ih (by omega)
        obtain ⟨z0, z1, z2, b3, i1, i2, hc⟩ := each k (by omega)
        refine ⟨ys ++ opv z0 z1 z2 b3, o.app (Opl.one' i1 i2), fun j u h => ?_⟩
        rw [List.getElem?_append] at h
        have hl4 := o.len
        by_cases hj : j < ys.length
        · rw [if_pos hj] at h
          exact c j u h
        · rw [if_neg hj] at h
          have := hc _ u h
          rw [show k * 4 + (j - ys.length) = j by omega] at this
          exact this
    obtain ⟨ys, o, c⟩ := all len (Nat.le_refl _)
    refine ⟨hln, ys, hl, hm, (fun e => (by cases e)), o, fun a2 e => ?_⟩
    injection e with e
    subst e
    exact c
set_option maxRecDepth 100000 in
theorem lifted (os : Os) (started : os.Started) (H : Type) (enc : TypeId × Value → H) (F : Stop.Interp) :
    ReturnsInHanded {} Try.checked os 7 .any ((Rows.OpenSpec.upto Rows.schedAllSpec).pre6 enc Try.prog Try.f7 Rows.schedAllUptoRow.domain false) (((Rows.OpenSpec.upto Rows.schedAllSpec).at F).post enc Try.prog Try.f7 false true false false) := by
  refine returnsInHanded_of_cond (C := Try.checked) (s := Rows.OpenSpec.upto Rows.schedAllSpec) (k := Rows.uptoSmall) rfl own started (by kernel_rfl) Try.func7
    (OpenSpec.witness (enc := enc) (C := Try.checked) (s := Rows.OpenSpec.upto Rows.schedAllSpec) (k := Rows.uptoSmall) rfl false ⟨#[], #[.slice none 0 0], []⟩ 8 (by kernel_rfl) (by kernel_rfl) (by kernel_rfl)
      (x := ([.nil], [], [])) (by kernel_rfl) rfl (by kernel_rfl)) ?_
  intro W base args ds gs before hval0 hW _ hk0 _
  have hval : ∀ (j : Nat) t v, Try.f7.params[j]? = some t → args[j]? = some v → Value.okWide Try.prog W .any base t v := hval0
  have hW' := hW
  obtain ⟨p, q, hA0, hV, rfl, hfz, hnd⟩ := hW
  have hA : DataW.TrodAll enc Try.prog W 0 (fun _ => true) true Try.f7.params.toList args.toList ds p := hA0
  rw [Try.params7] at hA hval
  obtain ⟨v0, vs0, d0, ds0, p0, q0, hargs, rfl, rfl, h0, r0⟩ := trodAll_cons hA
  obtain ⟨rfl, rfl, rfl⟩ := trodAll_nil r0
  obtain rfl : args = #[v0] := by cases args; simp_all
  obtain ⟨rfl, rfl⟩ := trodVars_none hV
  have hk : Rows.uptoSmall H ([d0] ++ []) = true := hk0
  rw [List.append_nil] at hk
  clear hk0
  obtain ⟨aa0, len0, cap0, rfl⟩ := okWide_slice Try.underlying45 (hval 0 45 v0 rfl rfl)
  have k0 := h0
  obtain ⟨fuel0, hf0⟩ := h0
  have hlt0 : ∀ x ∈ p0, x.block < W.heap.size := fun x hx => by simpa using hW'.lt x (by simp [hx])
  have hbk0 : Rows.uptoBulk d0 ≤ 1048576 := by
    have hb : Rows.uptoBulkAll [d0] ≤ 1048576 := of_decide_eq_true hk
    have := part_le (d := d0) (l := [d0]) (by simp)
    omega
  obtain ⟨B0, ys0, A0⟩ := ops_of (by simpa [Value.cells] using hf0) hbk0
  clear hA0 hval0
  refine (all_walk A0 B0 ).mono fun e W' ⟨he, hu⟩ => ?_
  subst he
  have stay0 : DataW.Trod enc Try.prog W' 0 (fun b => decide (b < W.heap.size)) true 45 (.slice aa0 len0 cap0) d0 p0 :=
    WideElems.Trod_stays laidOut (by kernel_rfl) (of_decide_eq_true (by kernel_rfl)) k0 (fun x hx => up_same hu (hlt0 x hx)) (fun x hx => by simpa using hlt0 x hx)
  exact ⟨_, rfl, _, _, _, [], _, [], hW', trodAll_mk1 (shut_bool Try.underlying4 _), (trodAll_cons_mk stay0 trodAll_mk0), rfl, World.keptBut_mono (fun _ f => f.elim) (grownOf hu), fun h => by cases h⟩
theorem proved : Rows.SchedAllUptoSaid :=
  OpenClaim.holds_of_cond 7 Try.f7 rfl rfl rfl rfl rfl rfl rfl ⟨rfl, rfl, rfl, rfl, rfl⟩ rfl rfl rfl rfl rfl (by kernel_rfl) Try.func7 (by kernel_rfl)
    (of_decide_eq_true (by kernel_rfl)) (by unfold Func.isWrapper; first | (rw [if_pos (by decide +kernel)]; kernel_rfl) | (rw [if_neg (by decide +kernel)]; exact ⟨rfl, rfl⟩))
    (fun os started H enc _ F => lifted os started H enc F)
end Go.Proofs.Ytakciepfckdpfaa.schedAll
namespace Go.Proofs.Ytakciepfckdpfaa
theorem schedAllUpto_proved : Rows.SchedAllUptoSaid := schedAll.proved
#print axioms schedAllUpto_proved
end Go.Proofs.Ytakciepfckdpfaa
