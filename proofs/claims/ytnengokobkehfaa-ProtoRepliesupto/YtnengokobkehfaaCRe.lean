/- Proved: the law ProtoReplies answers true wherever what it reads is of bulk at most 1048576. That bound is the statement's own condition. -/
import Derived.Test.YtnengokobkehfaaRows
import Derived.Test.YtnengokobkehfaaWRe
import Derived.Deep.Slices
import Derived.Deep.SlicePairs
import Derived.Deep.Frames
import Derived.Carry
import Derived.WalkKit
import Derived.ProofKit
import Derived.OpenShut
import Derived.ChangeSlices
import Derived.JoinedCond
namespace Go.Proofs.Ytnengokobkehfaa.protoReplies
open Go.ChangeShapes Go.WideShapes Go.ChangeAt Go.RowKit Go.Deep
set_option linter.unusedVariables false
theorem own : ownKnob Try.prog.godebug = none := by kernel_rfl
theorem cells3 : Try.prog.cellsOf 3 = 1 := by kernel_rfl
theorem laidOut : laidOutB Try.prog = true := by kernel_rfl
/-- What was there is as it was: the frame. -/
theorem grownOf {w w' : World} (h : Up w w') : w.keptBut w' (fun _ => False) := by
  refine ⟨h.os, h.output, fun i hi => ?_⟩
  rw [h.block i hi]
  split
  · rename_i h1 h2
    obtain ⟨rfl, rfl, rfl⟩ := by simpa using h1.symm.trans h2
    exact ⟨rfl, rfl, rfl, fun _ _ => rfl⟩
  · rename_i h1 h2
    obtain ⟨rfl, rfl⟩ := by simpa using h1.symm.trans h2
    exact Or.inr ⟨rfl, rfl⟩
  · rfl
theorem i64Of {z : Int} (h : (Lit.int .i64 z).wf = true) : I64 z := bounds_i64 h
theorem up_same {W W' : World} (h : Up W W') {p : MemPlace} (hp : p.block < W.heap.size) : W.sameAt W' p := by
  cases p with
  | cell b off => exact h.cell hp
  | map b => exact h.block b hp
theorem cellsU : Try.prog.cellsOf 5 = 1 := by kernel_rfl
set_option maxRecDepth 100000 in
/-- Bytes as they come in. -/
theorem bytes_of {H : Type} {enc : TypeId × Value → H} {W : World} {n : Nat} {aa : Option Addr} {len cap : Nat} {x : DataW H × List MemPlace}
    (h2 : DataW.trod enc Try.prog W 0 (fun _ => true) true n 22 [.slice aa len cap] = some x) :
    ∃ (ab ao : Nat) (f : Nat → Int), Byts W aa ab ao len cap f := by
  have z0 : (0 : Int) ≤ 0 ∧ (0 : Int) ≤ 255 := by decide
  rcases open_ints Try.underlying22 Try.underlying5 cellsU h2 with ⟨hcs, hx⟩ | ⟨a, len', cap', zs, hcs, _, hl, hm, hz, hx, hcell, hwz⟩
  · simp at hcs
    obtain ⟨rfl, rfl, rfl⟩ := hcs
    exact ⟨0, 0, fun _ => 0, Nat.le_refl _, Nat.zero_le _, fun h => by omega, fun _ => z0, fun k hk => by omega⟩
  · simp at hcs
    obtain ⟨rfl, rfl, rfl⟩ := hcs
    simp only [if_true] at hz
    by_cases h0 : len = 0
    · subst h0
      exact ⟨0, 0, fun _ => 0, hl, hm, fun h => by omega, fun _ => z0, fun k hk => by omega⟩
    · obtain ⟨b, off, spot⟩ := a
      have hspot : spot = none := by simpa [Addr.add] using World.cell?_spot (hcell 0 (by omega))
      subst hspot
      refine ⟨b, off, fun k => zs.getD k 0, hl, hm, fun _ => rfl, fun k => ?_, fun k hk => by have hc := hcell k (by omega); rw [show (⟨b, off, none⟩ : Addr).add k = ⟨b, off + k, none⟩ by unfold Addr.add; split <;> simp_all] at hc; exact hc⟩
      show 0 ≤ zs.getD k 0 ∧ zs.getD k 0 ≤ 255
      rw [List.getD_eq_getElem?_getD]
      cases h : zs[k]? with
      | none => exact z0
      | some y => exact bounds_u8 (hwz y (List.mem_of_getElem? h))
theorem lits_len (k : IntKind) {H : Type} (zs : List Int) : (lits (H := H) k zs).length = zs.length := by unfold lits; simp
theorem one_le {H : Type} (d : DataW H) : 1 ≤ Rows.uptoBulk d := by
  cases d with
  | lit l => cases l <;> simp [Rows.uptoBulk]
  | nil => simp [Rows.uptoBulk]
  | ptr d => simp [Rows.uptoBulk]
  | slice elems spare => simp [Rows.uptoBulk]
  | agg parts => simp [Rows.uptoBulk]
  | iface t d => simp [Rows.uptoBulk]
  | map entries => simp [Rows.uptoBulk]
  | held h => simp [Rows.uptoBulk]
theorem length_le {H : Type} (l : List (DataW H)) : l.length ≤ Rows.uptoBulkAll l := by
  induction l with
  | nil => simp [Rows.uptoBulkAll]
  | cons x r ih => have := one_le x; simp only [Rows.uptoBulkAll, List.length_cons]; omega
theorem part_le {H : Type} {d : DataW H} {l : List (DataW H)} (h : d ∈ l) : Rows.uptoBulk d ≤ Rows.uptoBulkAll l := by
  induction l with
  | nil => cases h
  | cons x r ih =>
    simp only [Rows.uptoBulkAll]
    cases List.mem_cons.1 h with
    | inl e => subst e; omega
    | inr e => have := ih e; omega
theorem bnd {H : Type} {enc : TypeId × Value → H} {W : World} {n len cap : Nat} {t e : TypeId} {k : IntKind} {aa : Option Addr} {d : DataW H} {p : List MemPlace} {ds : List (DataW H)}
    (ht : Try.prog.underlying t = some (.slice e)) (he : Try.prog.underlying e = some (.int k)) (hc : Try.prog.cellsOf e = 1)
    (h2 : DataW.trod enc Try.prog W 0 (fun _ => true) true n t [.slice aa len cap] = some (d, p)) (hk : Rows.uptoSmall H ds = true) (hd : d ∈ ds) : len ≤ 1048576 := by
  have hb : Rows.uptoBulkAll ds ≤ 1048576 := of_decide_eq_true hk
  have hb2 := part_le hd
  rcases open_ints ht he hc h2 with ⟨h, _⟩ | ⟨a, l, c, zs, h, _, hl, _, hlen, hx, _⟩
  · simp at h
    omega
  · simp at h
    obtain ⟨rfl, rfl, rfl⟩ := h
    obtain ⟨rfl, _⟩ := Prod.mk.inj hx
    simp only [Rows.uptoBulk] at hb2
    have h3 := length_le (lits (H := H) k (zs.take len))
    have h4 := length_le (lits (H := H) k (zs.drop len))
    rw [lits_len] at h3 h4
    have h5 : (zs.take len).length + (zs.drop len).length = zs.length := by rw [← List.length_append, List.take_append_drop]
    rw [hlen, if_pos rfl] at h5
    omega
theorem nilcap {H : Type} {enc : TypeId × Value → H} {W : World} {n len cap : Nat} {t e : TypeId} {k : IntKind} {aa : Option Addr} {x : DataW H × List MemPlace}
    (ht : Try.prog.underlying t = some (.slice e)) (he : Try.prog.underlying e = some (.int k)) (hc : Try.prog.cellsOf e = 1)
    (h2 : DataW.trod enc Try.prog W 0 (fun _ => true) true n t [.slice aa len cap] = some x) : aa = none → cap = 0 := by
  rcases open_ints ht he hc h2 with ⟨h, _⟩ | ⟨a, l, c, zs, h, _⟩
  · simp at h
    exact fun _ => h.2.2
  · simp at h
    obtain ⟨rfl, _⟩ := h
    intro e
    cases e
theorem cS : Try.prog.cellsOf 9 = 1 := by kernel_rfl
theorem cI : Try.prog.cellsOf 3 = 1 := by kernel_rfl
theorem cB : Try.prog.cellsOf 22 = 1 := by kernel_rfl
theorem cM : Try.prog.cellsOf 44 = 4 := by kernel_rfl
theorem str_of (s : ByteArray) : strOfNums (s.data.toList.map fun x => (x.toNat : Int)) = s := by
  obtain ⟨⟨l⟩⟩ := s
  unfold strOfNums
  simp
  induction l with
  | nil => rfl
  | cons x r ih => rw [List.map_cons, ih]; simp
theorem str_u8 (l : List UInt8) : L8 (l.map fun x => (x.toNat : Int)) := fun x hx => by
  obtain ⟨y, _, rfl⟩ := List.mem_map.1 hx
  have := y.toNat_lt
  unfold U8
  omega
theorem bs_byts {W : World} {aa : Option Addr} {ab ao len cap : Nat} {f : Nat → Int} (D : Byts W aa ab ao len cap f) : Bs 0 W (.slice aa len cap) (bl f 0 len) :=
  ⟨⟨aa, ab, ao, cap, by rw [bl_len], by rw [bl_len]; exact D.lc, D.cm, fun h => ⟨D.ad (by rwa [bl_len] at h), Nat.zero_le _⟩, fun k x hk => by
    have hkn : k < len := by have := (List.getElem?_eq_some_iff.1 hk).1; rwa [bl_len] at this
    rw [bl_at hkn, Nat.zero_add] at hk
    injection hk with hk
    rw [← hk]
    exact D.cell k hkn⟩, bl_u8 D.u8 _ _⟩
theorem bytes_bs {H : Type} {enc : TypeId × Value → H} {W : World} {n : Nat} {v : Value} {x : DataW H × List MemPlace}
    (h2 : DataW.trod enc Try.prog W 0 (fun _ => true) true n 22 [v] = some x) : ∃ l, Bs 0 W v l := by
  have hv : ∃ aa len cap, v = .slice aa len cap := by
    rcases open_ints Try.underlying22 Try.underlying5 cellsU h2 with ⟨h, _⟩ | ⟨a, l, c, zs, h, _⟩
    · exact ⟨none, 0, 0, by simpa using h⟩
    · exact ⟨some a, l, c, by simpa using h⟩
  obtain ⟨aa, len, cap, rfl⟩ := hv
  obtain ⟨ab, ao, f, D⟩ := bytes_of h2
  exact ⟨_, bs_byts D⟩
set_option maxRecDepth 100000 in
/-- Messages as they come in. -/
theorem msgs_of {H : Type} {enc : TypeId × Value → H} {W : World} {n : Nat} {aa : Option Addr} {len cap : Nat} {x : DataW H × List MemPlace}
    (h2 : DataW.trod enc Try.prog W 0 (fun _ => true) true n 41 [.slice aa len cap] = some x) (hb : Rows.uptoBulk x.1 ≤ 1048576) :
    len ≤ 1048576 ∧ ∃ (ab ao : Nat) (ms : List (C × Value)), Reps W aa ab ao len cap ms := by
  rcases open_slice Try.underlying41 h2 with ⟨hcs, hx⟩ | ⟨a, len', cap', m, n', D, Pl, hcs, _, hl, hm, hmm, hx, hxx⟩
  · simp at hcs
    obtain ⟨rfl, rfl, rfl⟩ := hcs
    exact ⟨by omega, 0, 0, [], rfl, Nat.le_refl _, Nat.zero_le _, fun h => by omega, fun k y hk => by simp at hk⟩
  · simp at hcs
    obtain ⟨rfl, rfl, rfl⟩ := hcs
    simp only [if_true] at hmm
    rw [hmm] at hxx
    subst hx
    simp only [Rows.uptoBulk] at hb
    have hln : len ≤ 1048576 := by
      have := length_le ((List.range len).map D)
      simp at this
      omega
    have each : ∀ i, i < len → ∃ y : C × Value, (∀ j v, (rC y.1 y.2)[j]? = some v → W.cell? (a.add (i * 4 + j)) = some v) ∧ Bs 0 W y.2 y.1.data.bs := by
      intro i hi
      obtain ⟨cs', h1, h3⟩ := hxx i (by omega)
      rw [cM] at h1
      obtain ⟨_, hlen, hcell⟩ := World.cells?_some h1
      have hbi : Rows.uptoBulk (D i) ≤ 1048576 := by
        have := part_le (List.mem_map.2 ⟨i, List.mem_range.2 hi, rfl⟩ : D i ∈ (List.range len).map D)
        omega
      obtain ⟨xs, k, hk, hxy, _, hxl, hf⟩ := DataW.trod_struct Try.underlying44 h3
      match xs, hxl, cs', hlen with
      | [y0, y1, y2, y3], _, [v0, v1, v2, v3], _ =>
        have g0 := hf 0 _ rfl
        have g1 := hf 1 _ rfl
        have g2 := hf 2 _ rfl
        have g3 := hf 3 _ rfl
        simp [cI, cB] at g0 g1 g2 g3
        obtain ⟨z0, e0, f0, w0⟩ := DataW.trod_int Try.underlying3 g0
        obtain ⟨z1, e1, f1, w1⟩ := DataW.trod_int Try.underlying3 g1
        obtain ⟨z2, e2, f2, w2⟩ := DataW.trod_int Try.underlying3 g2
        obtain ⟨l, hB⟩ := bytes_bs g3
        simp at e0 e1 e2
        subst e0 e1 e2
        refine ⟨(⟨z0, V0, V0, ⟨z1, []⟩, ⟨z2, []⟩, ⟨0, l⟩⟩, v3), fun j v hj => ?_, hB⟩
        unfold rC at hj
        have hj4 : j < 4 := (List.getElem?_eq_some_iff.1 hj).1
        have c := hcell j hj4
        rw [add_add] at c
        rw [c]
        have : j = 0 ∨ j = 1 ∨ j = 2 ∨ j = 3 := by omega
        rcases this with rfl | rfl | rfl | rfl <;> exact hj
    refine ⟨hln, ?_⟩
    by_cases h0 : len = 0
    · subst h0
      exact ⟨0, 0, [], rfl, hl, hm, fun h => by omega, fun k y hk => by simp at hk⟩
    · have hq : ∃ q : Nat → C × Value, ∀ i, i < len → (∀ j v, (rC (q i).1 (q i).2)[j]? = some v → W.cell? (a.add (i * 4 + j)) = some v) ∧ Bs 0 W (q i).2 (q i).1.data.bs := by
        have : ∀ i, ∃ y : C × Value, i < len → (∀ j v, (rC y.1 y.2)[j]? = some v → W.cell? (a.add (i * 4 + j)) = some v) ∧ Bs 0 W y.2 y.1.data.bs := fun i => by
          by_cases hi : i < len
          · obtain ⟨y, hy⟩ := each i hi
            exact ⟨y, fun _ => hy⟩
          · exact ⟨(⟨0, V0, V0, V0, V0, V0⟩, .slice none 0 0), fun h => by omega⟩
        exact ⟨fun i => Classical.choose (this i), fun i => Classical.choose_spec (this i)⟩
      obtain ⟨q, hq⟩ := hq
      obtain ⟨b, off, spot⟩ := a
      have hspot : spot = none := by simpa [Addr.add] using World.cell?_spot ((hq 0 (by omega)).1 0 _ rfl)
      subst hspot
      have ad : ∀ k, (⟨b, off, none⟩ : Addr).add k = ⟨b, off + k, none⟩ := fun k => by unfold Addr.add; split <;> simp_all
      refine ⟨b, off, (List.range len).map q, by simp, hl, hm, fun _ => rfl, fun k y hk => ?_⟩
      have hkl : k < len := by have := (List.getElem?_eq_some_iff.1 hk).1; simpa using this
      have ey : q k = y := by simpa [hkl] using hk
      subst ey
      obtain ⟨c1, c2⟩ := hq k hkl
      refine ⟨fun j v hj => ?_, c2⟩
      have c := c1 j v hj
      rw [ad] at c
      rw [Nat.add_assoc]
      exact c
set_option maxRecDepth 100000 in
theorem lifted (os : Os) (started : os.Started) (H : Type) (enc : TypeId × Value → H) (F : Stop.Interp) :
    ReturnsInHanded {} Try.checked os 6 .any ((Rows.OpenSpec.upto Rows.protoRepliesSpec).pre6 enc Try.prog Try.f6 Rows.protoRepliesUptoRow.domain false) (((Rows.OpenSpec.upto Rows.protoRepliesSpec).at F).post enc Try.prog Try.f6 false true false false) := by
  refine returnsInHanded_of_cond (C := Try.checked) (s := Rows.OpenSpec.upto Rows.protoRepliesSpec) (k := Rows.uptoSmall) rfl own started (by kernel_rfl) Try.func6
    (OpenSpec.witness (enc := enc) (C := Try.checked) (s := Rows.OpenSpec.upto Rows.protoRepliesSpec) (k := Rows.uptoSmall) rfl false ⟨#[], #[.slice none 0 0, .int .i64 0, .slice none 0 0], []⟩ 8 (by kernel_rfl) (by kernel_rfl) (by kernel_rfl)
      (x := ([.nil, .lit (.int .i64 0), .nil], [], [])) (by kernel_rfl) rfl (by kernel_rfl)) ?_
  intro W base args ds gs before hval0 hW _ hk0 _
  have hval : ∀ (j : Nat) t v, Try.f6.params[j]? = some t → args[j]? = some v → Value.okWide Try.prog W .any base t v := hval0
  have hW' := hW
  obtain ⟨p, q, hA0, hV, rfl, hfz, hnd⟩ := hW
  have hA : DataW.TrodAll enc Try.prog W 0 (fun _ => true) true Try.f6.params.toList args.toList ds p := hA0
  rw [Try.params6] at hA hval
  obtain ⟨v0, vs0, d0, ds0, p0, q0, hargs, rfl, rfl, h0, r0⟩ := trodAll_cons hA
  obtain ⟨v1, vs1, d1, ds1, p1, q1, rfl, rfl, rfl, h1, r1⟩ := trodAll_cons r0
  obtain ⟨v2, vs2, d2, ds2, p2, q2, rfl, rfl, rfl, h2, r2⟩ := trodAll_cons r1
  obtain ⟨rfl, rfl, rfl⟩ := trodAll_nil r2
  obtain rfl : args = #[v0, v1, v2] := by cases args; simp_all
  obtain ⟨rfl, rfl⟩ := trodVars_none hV
  have hk : Rows.uptoSmall H ([d0, d1, d2] ++ []) = true := hk0
  rw [List.append_nil] at hk
  clear hk0
  obtain ⟨aa0, len0, cap0, rfl⟩ := okWide_slice Try.underlying41 (hval 0 41 v0 rfl rfl)
  have k0 := h0
  obtain ⟨fuel0, hf0⟩ := h0
  have hlt0 : ∀ x ∈ p0, x.block < W.heap.size := fun x hx => by simpa using hW'.lt x (by simp [hx])
  have hbk0 : Rows.uptoBulk d0 ≤ 1048576 := by
    have hb : Rows.uptoBulkAll [d0, d1, d2] ≤ 1048576 := of_decide_eq_true hk
    have := part_le (d := d0) (l := [d0, d1, d2]) (by simp)
    omega
  obtain ⟨B0, ab0, ao0, f0, A0⟩ := msgs_of (by simpa [Value.cells] using hf0) hbk0
  obtain ⟨a1, rfl, rfl, rfl, w1⟩ := open_int Try.underlying3 (hval 1 3 v1 rfl rfl) h1
  obtain ⟨aa2, len2, cap2, rfl⟩ := okWide_slice Try.underlying22 (hval 2 22 v2 rfl rfl)
  have k2 := h2
  obtain ⟨fuel2, hf2⟩ := h2
  have hlt2 : ∀ x ∈ p2, x.block < W.heap.size := fun x hx => by simpa using hW'.lt x (by simp [hx])
  obtain ⟨ab2, ao2, f2, A2⟩ := bytes_of (by simpa [Value.cells] using hf2)
  have B2 : len2 ≤ 1048576 := bnd Try.underlying22 Try.underlying5 (by kernel_rfl) (by simpa [Value.cells] using hf2) hk (by simp)
  have C2 : aa2 = none → cap2 = 0 := nilcap Try.underlying22 Try.underlying5 (by kernel_rfl) (by simpa [Value.cells] using hf2)
  clear hA0 hval0
  refine (replies_walk A0 B0 (i64Of w1) A2 C2 B2).mono fun e W' ⟨he, hu⟩ => ?_
  subst he
  have stay0 : DataW.Trod enc Try.prog W' 0 (fun b => decide (b < W.heap.size)) true 41 (.slice aa0 len0 cap0) d0 p0 :=
    WideElems.Trod_stays laidOut (by kernel_rfl) (of_decide_eq_true (by kernel_rfl)) k0 (fun x hx => up_same hu (hlt0 x hx)) (fun x hx => by simpa using hlt0 x hx)
  have stay2 : DataW.Trod enc Try.prog W' 0 (fun b => decide (b < W.heap.size)) true 22 (.slice aa2 len2 cap2) d2 p2 :=
    WideElems.Trod_stays laidOut (by kernel_rfl) (of_decide_eq_true (by kernel_rfl)) k2 (fun x hx => up_same hu (hlt2 x hx)) (fun x hx => by simpa using hlt2 x hx)
  exact ⟨_, rfl, _, _, _, [], _, [], hW', trodAll_mk1 (shut_bool Try.underlying4 _), (trodAll_cons_mk stay0 (trodAll_cons_mk (shut_int Try.underlying3 w1) (trodAll_cons_mk stay2 trodAll_mk0))), rfl, World.keptBut_mono (fun _ f => f.elim) (grownOf hu), fun h => by cases h⟩
theorem proved : Rows.ProtoRepliesUptoSaid :=
  OpenClaim.holds_of_cond 6 Try.f6 rfl rfl rfl rfl rfl rfl rfl ⟨rfl, rfl, rfl, rfl, rfl⟩ rfl rfl rfl rfl rfl (by kernel_rfl) Try.func6 (by kernel_rfl)
    (of_decide_eq_true (by kernel_rfl)) (by unfold Func.isWrapper; first | (rw [if_pos (by decide +kernel)]; kernel_rfl) | (rw [if_neg (by decide +kernel)]; exact ⟨rfl, rfl⟩))
    (fun os started H enc _ F => lifted os started H enc F)
end Go.Proofs.Ytnengokobkehfaa.protoReplies
namespace Go.Proofs.Ytnengokobkehfaa
theorem protoRepliesUpto_proved : Rows.ProtoRepliesUptoSaid := protoReplies.proved
#print axioms protoRepliesUpto_proved
end Go.Proofs.Ytnengokobkehfaa
