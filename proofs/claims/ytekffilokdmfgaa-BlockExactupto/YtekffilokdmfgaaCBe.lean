/- Proved: the law BlockExact answers true for all scripts wherever what it reads is of bulk at most 1048576. That bound is the statement's own condition. -/
import Derived.Test.YtekffilokdmfgaaRows
import Derived.Test.YtekffilokdmfgaaWBe
import Derived.Deep.Slices
import Derived.Deep.SlicePairs
import Derived.Deep.Frames
import Derived.Carry
import Derived.WalkKit
import Derived.ProofKit
import Derived.OpenShut
import Derived.ChangeSlices
import Derived.JoinedCond
namespace Go.Proofs.Ytekffilokdmfgaa.blockExact
open Go.ChangeShapes Go.WideShapes Go.ChangeAt Go.RowKit Go.Deep
set_option linter.unusedVariables false
theorem own : ownKnob Try.prog.godebug = none := by kernel_rfl
theorem cells3 : Try.prog.cellsOf 3 = 1 := by kernel_rfl
theorem laidOut : laidOutB Try.prog = true := by kernel_rfl
/-- What was there is as it was: the frame. -/
theorem grownOf {w w' : World} (h : Up w w') : w.keptBut w' (fun _ => False) := by
  refine ⟨h.os, h.output, fun i hi => ?_⟩
  rw [h.block i hi]
  split
  · rename_i h1 h2
    obtain ⟨rfl, rfl, rfl⟩ := by simpa using h1.symm.trans h2
    exact ⟨rfl, rfl, rfl, fun _ _ => rfl⟩
  · rename_i h1 h2
    obtain ⟨rfl, rfl⟩ := by simpa using h1.symm.trans h2
    exact Or.inr ⟨rfl, rfl⟩
  · rfl
theorem i64Of {z : Int} (h : (Lit.int .i64 z).wf = true) : I64 z := bounds_i64 h
theorem up_same {W W' : World} (h : Up W W') {p : MemPlace} (hp : p.block < W.heap.size) : W.sameAt W' p := by
  cases p with
  | cell b off => exact h.cell hp
  | map b => exact h.block b hp
set_option maxRecDepth 100000 in
/-- Numbers as they come in. -/
theorem ints_of {H : Type} {enc : TypeId × Value → H} {W : World} {n : Nat} {aa : Option Addr} {len cap : Nat} {x : DataW H × List MemPlace}
    (h2 : DataW.trod enc Try.prog W 0 (fun _ => true) true n 29 [.slice aa len cap] = some x) :
    ∃ (ab ao : Nat) (f : Nat → Int), Ints W aa ab ao len cap f := by
  have z0 : I64 0 := by unfold I64; decide
  rcases open_ints Try.underlying29 Try.underlying3 cells3 h2 with ⟨hcs, hx⟩ | ⟨a, len', cap', zs, hcs, _, hl, hm, hz, hx, hcell, hwz⟩
  · simp at hcs
    obtain ⟨rfl, rfl, rfl⟩ := hcs
    exact ⟨0, 0, fun _ => 0, Nat.le_refl _, Nat.zero_le _, fun h => by omega, fun _ => z0, fun k hk => by omega⟩
  · simp at hcs
    obtain ⟨rfl, rfl, rfl⟩ := hcs
    simp only [if_true] at hz
    by_cases h0 : len = 0
    · subst h0
      exact ⟨0, 0, fun _ => 0, hl, hm, fun h => by omega, fun _ => z0, fun k hk => by omega⟩
    · obtain ⟨b, off, spot⟩ := a
      have hspot : spot = none := by simpa [Addr.add] using World.cell?_spot (hcell 0 (by omega))
      subst hspot
      refine ⟨b, off, fun k => zs.getD k 0, hl, hm, fun _ => rfl, fun k => ?_, fun k hk => by have hc := hcell k (by omega); rw [show (⟨b, off, none⟩ : Addr).add k = ⟨b, off + k, none⟩ by unfold Addr.add; split <;> simp_all] at hc; exact hc⟩
      show I64 (zs.getD k 0)
      rw [List.getD_eq_getElem?_getD]
      cases h : zs[k]? with
      | none => exact z0
      | some y => exact i64Of (hwz y (List.mem_of_getElem? h))
theorem lits_len (k : IntKind) {H : Type} (zs : List Int) : (lits (H := H) k zs).length = zs.length := by unfold lits; simp
theorem one_le {H : Type} (d : DataW H) : 1 ≤ Rows.uptoBulk d := by
  cases d with
  | lit l => cases l <;> simp [Rows.uptoBulk]
  | nil => simp [Rows.uptoBulk]
  | ptr d => simp [Rows.uptoBulk]
  | slice elems spare => simp [Rows.uptoBulk]
  | agg parts => simp [Rows.uptoBulk]
  | iface t d => simp [Rows.uptoBulk]
  | map entries => simp [Rows.uptoBulk]
  | held h => simp [Rows.uptoBulk]
theorem length_le {H : Type} (l : List (DataW H)) : l.length ≤ Rows.uptoBulkAll l := by
  induction l with
  | nil => simp [Rows.uptoBulkAll]
  | cons x r ih => have := one_le x; simp only [Rows.uptoBulkAll, List.length_cons]; omega
theorem part_le {H : Type} {d : DataW H} {l : List (DataW H)} (h : d ∈ l) : Rows.uptoBulk d ≤ Rows.uptoBulkAll l := by
  induction l with
  | nil => cases h
  | cons x r ih =>
    simp only [Rows.uptoBulkAll]
    cases List.mem_cons.1 h with
    | inl e => subst e; omega
    | inr e => have := ih e; omega
theorem bnd {H : Type} {enc : TypeId × Value → H} {W : World} {n len cap : Nat} {t e : TypeId} {k : IntKind} {aa : Option Addr} {d : DataW H} {p : List MemPlace} {ds : List (DataW H)}
    (ht : Try.prog.underlying t = some (.slice e)) (he : Try.prog.underlying e = some (.int k)) (hc : Try.prog.cellsOf e = 1)
    (h2 : DataW.trod enc Try.prog W 0 (fun _ => true) true n t [.slice aa len cap] = some (d, p)) (hk : Rows.uptoSmall H ds = true) (hd : d ∈ ds) : len ≤ 1048576 := by
  have hb : Rows.uptoBulkAll ds ≤ 1048576 := of_decide_eq_true hk
  have hb2 := part_le hd
  rcases open_ints ht he hc h2 with ⟨h, _⟩ | ⟨a, l, c, zs, h, _, hl, _, hlen, hx, _⟩
  · simp at h
    omega
  · simp at h
    obtain ⟨rfl, rfl, rfl⟩ := h
    obtain ⟨rfl, _⟩ := Prod.mk.inj hx
    simp only [Rows.uptoBulk] at hb2
    have h3 := length_le (lits (H := H) k (zs.take len))
    have h4 := length_le (lits (H := H) k (zs.drop len))
    rw [lits_len] at h3 h4
    have h5 : (zs.take len).length + (zs.drop len).length = zs.length := by rw [← List.length_append, List.take_append_drop]
    rw [hlen, if_pos rfl] at h5
    omega
theorem nilcap {H : Type} {enc : TypeId × Value → H} {W : World} {n len cap : Nat} {t e : TypeId} {k : IntKind} {aa : Option Addr} {x : DataW H × List MemPlace}
    (ht : Try.prog.underlying t = some (.slice e)) (he : Try.prog.underlying e = some (.int k)) (hc : Try.prog.cellsOf e = 1)
    (h2 : DataW.trod enc Try.prog W 0 (fun _ => true) true n t [.slice aa len cap] = some x) : aa = none → cap = 0 := by
  rcases open_ints ht he hc h2 with ⟨h, _⟩ | ⟨a, l, c, zs, h, _⟩
  · simp at h
    exact fun _ => h.2.2
  · simp at h
    obtain ⟨rfl, _⟩ := h
    intro e
    cases e
theorem cI : Try.prog.cellsOf 3 = 1 := by kernel_rfl
theorem cL : Try.prog.cellsOf 29 = 1 := by kernel_rfl
theorem cO : Try.prog.cellsOf 31 = 6 := by kernel_rfl
theorem bndI {H : Type} {enc : TypeId × Value → H} {W : World} {n len cap : Nat} {t e : TypeId} {k : IntKind} {aa : Option Addr} {x : DataW H × List MemPlace}
    (ht : Try.prog.underlying t = some (.slice e)) (he : Try.prog.underlying e = some (.int k)) (hc : Try.prog.cellsOf e = 1)
    (h2 : DataW.trod enc Try.prog W 0 (fun _ => true) true n t [.slice aa len cap] = some x) (hb : Rows.uptoBulk x.1 ≤ 1048576) : len ≤ 1048576 := by
  obtain ⟨d, p⟩ := x
  have hb2 : Rows.uptoBulk d ≤ 1048576 := hb
  rcases open_ints ht he hc h2 with ⟨h, _⟩ | ⟨a, l, c, zs, h, _, hl, _, hlen, hx, _⟩
  · simp at h
    omega
  · simp at h
    obtain ⟨rfl, rfl, rfl⟩ := h
    obtain ⟨rfl, _⟩ := Prod.mk.inj hx
    simp only [Rows.uptoBulk] at hb2
    have h3 := length_le (lits (H := H) k (zs.take len))
    have h4 := length_le (lits (H := H) k (zs.drop len))
    rw [lits_len] at h3 h4
    have h5 : (zs.take len).length + (zs.drop len).length = zs.length := by rw [← List.length_append, List.take_append_drop]
    rw [hlen, if_pos rfl] at h5
    omega
/-- Numbers, whatever value they are in. -/
theorem ints_v {H : Type} {enc : TypeId × Value → H} {W : World} {n : Nat} {v : Value} {x : DataW H × List MemPlace}
    (h2 : DataW.trod enc Try.prog W 0 (fun _ => true) true n 29 [v] = some x) (hb : Rows.uptoBulk x.1 ≤ 1048576) :
    ∃ (aa : Option Addr) (ab ao len cap : Nat) (f : Nat → Int), v = .slice aa len cap ∧ Ints W aa ab ao len cap f ∧ (aa = none → cap = 0) ∧ len ≤ 1048576 := by
  obtain ⟨aa, len, cap, rfl⟩ : ∃ aa len cap, v = .slice aa len cap := by
    rcases open_ints Try.underlying29 Try.underlying3 cells3 h2 with ⟨hcs, _⟩ | ⟨a, l, c, zs, hcs, _⟩
    · simp at hcs
      exact ⟨_, _, _, hcs⟩
    · simp at hcs
      exact ⟨_, _, _, hcs⟩
  obtain ⟨ab, ao, f, D⟩ := ints_of h2
  exact ⟨aa, ab, ao, len, cap, f, rfl, D, nilcap Try.underlying29 Try.underlying3 cells3 h2, bndI Try.underlying29 Try.underlying3 cells3 h2 hb⟩
structure E6 where
  z : Nat → Int
  ia : Option Addr
  ib : Nat
  io : Nat
  il : Nat
  ic : Nat
  hh : Nat → Int
structure E6.Is (e : E6) (W : World) (a : Addr) (i : Nat) : Prop where
  row : ∀ j v, (row6 (e.z 0) (e.z 1) (e.z 2) (e.z 3) (e.z 4) e.ia e.il e.ic)[j]? = some v → W.cell? (a.add (i * 6 + j)) = some v
  ints : Ints W e.ia e.ib e.io e.il e.ic e.hh ∧ (e.ia = none → e.ic = 0) ∧ e.il ≤ 1048576
set_option maxRecDepth 100000 in
/-- Steps as they come in. -/
theorem ops_of {H : Type} {enc : TypeId × Value → H} {W : World} {n : Nat} {aa : Option Addr} {len cap : Nat} {x : DataW H × List MemPlace}
    (h2 : DataW.trod enc Try.prog W 0 (fun _ => true) true n 22 [.slice aa len cap] = some x) (hb : Rows.uptoBulk x.1 ≤ 1048576) :
    len ≤ 1048576 ∧ ∃ (ob oo : Nat) (q : Nat → Nat → Int) (ia : Nat → Option Addr) (ib io il ic : Nat → Nat) (hh : Nat → Nat → Int), Ops6 W aa ob oo len cap q ia ib io il ic hh := by
  have z0 : I64 0 := by unfold I64; decide
  rcases open_slice Try.underlying22 h2 with ⟨hcs, hx⟩ | ⟨a, len', cap', m, n', D, Pl, hcs, _, hl, hm, hmm, hx, hxx⟩
  · simp at hcs
    obtain ⟨rfl, rfl, rfl⟩ := hcs
    exact ⟨by omega, 0, 0, fun _ _ => 0, fun _ => none, fun _ => 0, fun _ => 0, fun _ => 0, fun _ => 0, fun _ _ => 0, Nat.le_refl _, Nat.zero_le _, fun h => by omega, fun _ _ => z0, fun k hk => by omega, fun k hk => by omega⟩
  · simp at hcs
    obtain ⟨rfl, rfl, rfl⟩ := hcs
    simp only [if_true] at hmm
    rw [hmm] at hxx
    subst hx
    simp only [Rows.uptoBulk] at hb
    have hln : len ≤ 1048576 := by
      have := length_le ((List.range len).map D)
      simp at this
      omega
    have each : ∀ i, i < len → ∃ e : E6, (∀ j, I64 (e.z j)) ∧ e.Is W a i := by
      intro i hi
      obtain ⟨cs', h1, h3⟩ := hxx i (by omega)
      rw [cO] at h1
      obtain ⟨_, hlen, hcell⟩ := World.cells?_some h1
      have hbi : Rows.uptoBulk (D i) ≤ 1048576 := by
        have := part_le (List.mem_map.2 ⟨i, List.mem_range.2 hi, rfl⟩ : D i ∈ (List.range len).map D)
        omega
      obtain ⟨xs, k, hk, hxy, _, hxl, hf⟩ := DataW.trod_struct Try.underlying31 h3
      match xs, hxl, cs', hlen with
      | [y0, y1, y2, y3, y4, y5], _, [v0, v1, v2, v3, v4, v5], _ =>
        have g0 := hf 0 _ rfl
        have g1 := hf 1 _ rfl
        have g2 := hf 2 _ rfl
        have g3 := hf 3 _ rfl
        have g4 := hf 4 _ rfl
        have g5 := hf 5 _ rfl
        simp [cI, cL] at g0 g1 g2 g3 g4 g5
        obtain ⟨a0, e0, f0, w0⟩ := DataW.trod_int Try.underlying3 g0
        obtain ⟨a1, e1, f1, w1⟩ := DataW.trod_int Try.underlying3 g1
        obtain ⟨a2, e2, f2, w2⟩ := DataW.trod_int Try.underlying3 g2
        obtain ⟨a3, e3, f3, w3⟩ := DataW.trod_int Try.underlying3 g3
        obtain ⟨a4, e4, f4, w4⟩ := DataW.trod_int Try.underlying3 g4
        simp at e0 e1 e2 e3 e4
        subst e0 e1 e2 e3 e4
        have hD : D i = .agg [y0.1, y1.1, y2.1, y3.1, y4.1, y5.1] := congrArg Prod.fst hxy
        have hb5 : Rows.uptoBulk y5.1 ≤ 1048576 := by
          rw [hD] at hbi
          simp only [Rows.uptoBulk, Rows.uptoBulkAll] at hbi
          omega
        obtain ⟨ia, ib, io, il, ic, hh, rfl, D5, n5, b5⟩ := ints_v g5 hb5
        refine ⟨⟨fun j => if j = 0 then a0 else if j = 1 then a1 else if j = 2 then a2 else if j = 3 then a3 else a4, ia, ib, io, il, ic, hh⟩, fun j => ?_, ⟨fun j v hj => ?_, D5, n5, b5⟩⟩
        · show I64 (if j = 0 then a0 else if j = 1 then a1 else if j = 2 then a2 else if j = 3 then a3 else a4)
          split
          · exact i64Of w0
          · split
            · exact i64Of w1
            · split
              · exact i64Of w2
              · split
                · exact i64Of w3
                · exact i64Of w4
        · have hj6 : j < 6 := (List.getElem?_eq_some_iff.1 hj).1
          have c := hcell j hj6
          rw [add_add] at c
          rw [c]
          have : j = 0 ∨ j = 1 ∨ j = 2 ∨ j = 3 ∨ j = 4 ∨ j = 5 := by omega
          rcases this with rfl | rfl | rfl | rfl | rfl | rfl <;> exact hj
    have all : ∀ i, ∃ e : E6, (∀ j, I64 (e.z j)) ∧ (i < len → e.Is W a i) := fun i => by
      by_cases hi : i < len
      · obtain ⟨e, h1, h2⟩ := each i hi
        exact ⟨e, h1, fun _ => h2⟩
      · exact ⟨⟨fun _ => 0, none, 0, 0, 0, 0, fun _ => 0⟩, fun _ => z0, fun h => absurd h hi⟩
    obtain ⟨q, hq⟩ : ∃ q : Nat → E6, ∀ i, (∀ j, I64 ((q i).z j)) ∧ (i < len → (q i).Is W a i) := ⟨fun i => Classical.choose (all i), fun i => Classical.choose_spec (all i)⟩
    refine ⟨hln, ?_⟩
    by_cases h0 : len = 0
    · subst h0
      exact ⟨0, 0, fun i => (q i).z, fun i => (q i).ia, fun i => (q i).ib, fun i => (q i).io, fun i => (q i).il, fun i => (q i).ic, fun i => (q i).hh, hl, hm, fun h => by omega, fun k j => (hq k).1 j, fun k hk => by omega, fun k hk => by omega⟩
    · obtain ⟨b, off, spot⟩ := a
      have hspot : spot = none := by simpa [Addr.add] using World.cell?_spot (((hq 0).2 (by omega)).row 0 _ rfl)
      subst hspot
      refine ⟨b, off, fun i => (q i).z, fun i => (q i).ia, fun i => (q i).ib, fun i => (q i).io, fun i => (q i).il, fun i => (q i).ic, fun i => (q i).hh, hl, hm, fun _ => rfl, fun k j => (hq k).1 j, fun k hk j v hj => ?_, fun k hk => ((hq k).2 hk).ints⟩
      have := ((hq k).2 hk).row j v hj
      rw [Addr.add_lit, ← Nat.add_assoc] at this
      exact this
set_option maxRecDepth 100000 in
theorem lifted (os : Os) (started : os.Started) (H : Type) (enc : TypeId × Value → H) (F : Stop.Interp) :
    ReturnsInHanded {} Try.checked os 3 .any ((Rows.OpenSpec.upto Rows.blockExactSpec).pre6 enc Try.prog Try.f3 Rows.blockExactUptoRow.domain false) (((Rows.OpenSpec.upto Rows.blockExactSpec).at F).post enc Try.prog Try.f3 false true false false) := by
  refine returnsInHanded_of_cond (C := Try.checked) (s := Rows.OpenSpec.upto Rows.blockExactSpec) (k := Rows.uptoSmall) rfl own started (by kernel_rfl) Try.func3
    (OpenSpec.witness (enc := enc) (C := Try.checked) (s := Rows.OpenSpec.upto Rows.blockExactSpec) (k := Rows.uptoSmall) rfl false ⟨#[], #[.slice none 0 0], []⟩ 8 (by kernel_rfl) (by kernel_rfl) (by kernel_rfl)
      (x := ([.nil], [], [])) (by kernel_rfl) rfl (by kernel_rfl)) ?_
  intro W base args ds gs before hval0 hW _ hk0 _
  have hval : ∀ (j : Nat) t v, Try.f3.params[j]? = some t → args[j]? = some v → Value.okWide Try.prog W .any base t v := hval0
  have hW' := hW
  obtain ⟨p, q, hA0, hV, rfl, hfz, hnd⟩ := hW
  have hA : DataW.TrodAll enc Try.prog W 0 (fun _ => true) true Try.f3.params.toList args.toList ds p := hA0
  rw [Try.params3] at hA hval
  obtain ⟨v0, vs0, d0, ds0, p0, q0, hargs, rfl, rfl, h0, r0⟩ := trodAll_cons hA
  obtain ⟨rfl, rfl, rfl⟩ := trodAll_nil r0
  obtain rfl : args = #[v0] := by cases args; simp_all
  obtain ⟨rfl, rfl⟩ := trodVars_none hV
  have hk : Rows.uptoSmall H ([d0] ++ []) = true := hk0
  rw [List.append_nil] at hk
  clear hk0
  obtain ⟨aa0, len0, cap0, rfl⟩ := okWide_slice Try.underlying22 (hval 0 22 v0 rfl rfl)
  have k0 := h0
  obtain ⟨fuel0, hf0⟩ := h0
  have hlt0 : ∀ x ∈ p0, x.block < W.heap.size := fun x hx => by simpa using hW'.lt x (by simp [hx])
  have hbk0 : Rows.uptoBulk d0 ≤ 1048576 := by
    have hb : Rows.uptoBulkAll [d0] ≤ 1048576 := of_decide_eq_true hk
    have := part_le (d := d0) (l := [d0]) (by simp)
    omega
  obtain ⟨B0, ob0, oo0, qq0, ia0, ib0, io0, il0, ic0, hh0, A0⟩ := ops_of (by simpa [Value.cells] using hf0) hbk0
  clear hA0 hval0
  refine (exact_walk A0 B0).mono fun e W' ⟨he, hu⟩ => ?_
  subst he
  have stay0 : DataW.Trod enc Try.prog W' 0 (fun b => decide (b < W.heap.size)) true 22 (.slice aa0 len0 cap0) d0 p0 :=
    WideElems.Trod_stays laidOut (by kernel_rfl) (of_decide_eq_true (by kernel_rfl)) k0 (fun x hx => up_same hu (hlt0 x hx)) (fun x hx => by simpa using hlt0 x hx)
  exact ⟨_, rfl, _, _, _, [], _, [], hW', trodAll_mk1 (shut_bool Try.underlying4 _), (trodAll_cons_mk stay0 trodAll_mk0), rfl, World.keptBut_mono (fun _ f => f.elim) (grownOf hu), fun h => by cases h⟩
theorem proved : Rows.BlockExactUptoSaid :=
  OpenClaim.holds_of_cond 3 Try.f3 rfl rfl rfl rfl rfl rfl rfl ⟨rfl, rfl, rfl, rfl, rfl⟩ rfl rfl rfl rfl rfl (by kernel_rfl) Try.func3 (by kernel_rfl)
    (of_decide_eq_true (by kernel_rfl)) (by unfold Func.isWrapper; first | (rw [if_pos (by decide +kernel)]; kernel_rfl) | (rw [if_neg (by decide +kernel)]; exact ⟨rfl, rfl⟩))
    (fun os started H enc _ F => lifted os started H enc F)
end Go.Proofs.Ytekffilokdmfgaa.blockExact
namespace Go.Proofs.Ytekffilokdmfgaa
theorem blockExactUpto_proved : Rows.BlockExactUptoSaid := blockExact.proved
#print axioms blockExactUpto_proved
end Go.Proofs.Ytekffilokdmfgaa
