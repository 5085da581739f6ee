/- Proved: for every list of jobs the law AluExact answers true (each of the alu's nine calls is answered as the document says, whatever its arguments), where the table of bits is as the program's text lays it. -/
import Derived.Test.YtlbcodjkcjjoeabDoorRows
import Derived.Test.YtlbcodjkcjjoeabDoorTie
import Derived.Test.YtlbcodjkcjjoeabDoorCards
import Derived.Test.YtlbcodjkcjjoeabDoorExactW
import Derived.LaidMore
import Derived.Stop.Joined
import Derived.Lib.LaidTab
import Derived.SevenTiedAt
import Derived.Deep.Slices
import Derived.Deep.Frames
import Derived.Carry
namespace Go.Proofs.YtlbcodjkcjjoeabDoor.aluExact
open Go.ChangeShapes Go.WideShapes Go.ChangeAt Go.RowKit Go.Deep
set_option linter.unusedVariables false
theorem own : ownKnob Tryd.prog.godebug = none := by kernel_rfl
theorem cells31 : Tryd.prog.cellsOf 31 = 5 := by kernel_rfl
theorem cells3 : Tryd.prog.cellsOf 3 = 1 := by kernel_rfl
theorem laidOut : laidOutB Tryd.prog = true := by kernel_rfl
/-- The door's own heap meets the condition. -/
theorem door_met (os : Os) (args : Array Value) : laidMetH Tryd.prog Rows.aluExactRow.laid ((World.doorLaid Tryd.prog 400 os).forCall (fun _ _ => 0) ⟨#[], args, []⟩).memory :=
  laidMetH_of_parts3 (fuel := 8) (laidMet_of_run' 8 (by kernel_rfl) (by kernel_rfl)) (by kernel_rfl) (by kernel_rfl)
/-- What the condition gives the walk: the table's cells. -/
theorem of_laid (W : World) (h : laidMetH Tryd.prog Rows.aluExactRow.laid W) : LaidB W := by
  rw [MakeChecks.laidMetH_plain _ _ _ (by kernel_rfl)] at h
  have t : Lib.TabIs Tryd.prog W "arcade/alu.bits" .u8 [1, 2, 4, 8, 16, 32, 64, 128] :=
    Lib.tabIs_of_head (rest := []) (g := 0) (t := 52) (e := 5) (n := 8) (by kernel_rfl) (by kernel_rfl) Tryd.underlying52 Tryd.underlying5 (by kernel_rfl) (by kernel_rfl) h
  have c := fun i hi => t.cell (by kernel_rfl : Tryd.prog.globalNamed "arcade/alu.bits" = some 0) i hi
  refine ⟨World.block_lt_of_cell? _ _ (c 0 (by decide)), fun i hi => ?_⟩
  rw [c i hi]
  have : i = 0 ∨ i = 1 ∨ i = 2 ∨ i = 3 ∨ i = 4 ∨ i = 5 ∨ i = 6 ∨ i = 7 := by omega
  rcases this with rfl | rfl | rfl | rfl | rfl | rfl | rfl | rfl <;> rfl
/-- One element of the list: its five cells, and no place of its own. -/
theorem job_of {H : Type} {enc : TypeId × Value → H} {W : World} {n : Nat} {a : Addr} {p : Nat} {cs : List Value} {x : DataW H × List MemPlace}
    (sp : a.spot = none) (h1 : W.cells? 0 (a.add p) 5 = some cs) (h2 : DataW.trod enc Tryd.prog W 0 (fun _ => true) true n 31 cs = some x) : a.block < W.heap.size ∧ JobAt W a.block (a.off + p) ∧ x.2 = [] := by
  obtain ⟨_, hlen, hcell⟩ := World.cells?_some h1
  obtain ⟨xs, k, hk, hxy, _, hxl, hf⟩ := DataW.trod_struct Tryd.underlying31 h2
  match xs, hxl, cs, hlen with
  | [y0, y1, y2, y3, y4], _, [v0, v1, v2, v3, v4], _ =>
    have g0 := hf 0 _ rfl
    have g1 := hf 1 _ rfl
    have g2 := hf 2 _ rfl
    have g3 := hf 3 _ rfl
    have g4 := hf 4 _ rfl
    simp [cells3] at g0 g1 g2 g3 g4
    obtain ⟨z0, e0, f0, wz⟩ := DataW.trod_int Tryd.underlying3 g0
    obtain ⟨z1, e1, f1, _⟩ := DataW.trod_int Tryd.underlying3 g1
    obtain ⟨z2, e2, f2, _⟩ := DataW.trod_int Tryd.underlying3 g2
    obtain ⟨z3, e3, f3, _⟩ := DataW.trod_int Tryd.underlying3 g3
    obtain ⟨z4, e4, f4, _⟩ := DataW.trod_int Tryd.underlying3 g4
    simp at e0 e1 e2 e3 e4
    subst e0 e1 e2 e3 e4
    have c0 := hcell 0 (by omega)
    have c1 := hcell 1 (by omega)
    have c2 := hcell 2 (by omega)
    have c3 := hcell 3 (by omega)
    have c4 := hcell 4 (by omega)
    rw [add_add] at c0 c1 c2 c3 c4
    obtain ⟨b, off, spot⟩ := a
    simp only at sp
    subst sp
    simp only [addAt] at c0 c1 c2 c3 c4
    have c0' : W.cell? ⟨b, off + p, none⟩ = some (.int .i64 z0) := by simpa using c0
    refine ⟨World.block_lt_of_cell? W ⟨b, off + p, none⟩ c0', ⟨z0, z1, z2, z3, z4, (bounds_i64 wz).1, (bounds_i64 wz).2, by simpa using c0, by simpa [Nat.add_assoc] using c1, by simpa [Nat.add_assoc] using c2, by simpa [Nat.add_assoc] using c3, by simpa [Nat.add_assoc] using c4⟩, ?_⟩
    rw [hxy, f0, f1, f2, f3, f4]
    rfl
/-- The list as it comes in: its jobs, and that its places are cells. -/
theorem jobs_of {H : Type} {enc : TypeId × Value → H} {W : World} {fuel : Nat} {v : Value} {x : DataW H × List MemPlace}
    (h : DataW.trod enc Tryd.prog W 0 (fun _ => true) true fuel 28 [v] = some x) : Jobs W v ∧ ∀ p ∈ x.2, ∃ b o, p = .cell b o := by
  rcases open_slice Tryd.underlying28 h with ⟨hcs, hx⟩ | ⟨a, len, cap, m, n, D, Pl, hcs, hb, hl, hm, hmm, hx, hel⟩
  · simp at hcs
    subst hcs
    refine ⟨Or.inl ⟨_, _, rfl⟩, ?_⟩
    rw [hx]
    intro p hp
    cases hp
  · simp at hcs
    subst hcs
    simp only [if_true] at hmm
    subst hmm
    rw [cells31] at hel
    have spot : 0 < m → a.spot = none := by
      intro h0
      obtain ⟨cs', h1, _⟩ := hel 0 h0
      obtain ⟨_, hlen, hcell⟩ := World.cells?_some h1
      have c0 := hcell 0 (by omega)
      rw [add_add] at c0
      match cs', hlen with
      | [v0, v1, v2, v3, v4], _ => exact World.cell?_spot (v := v0) (by simpa [Addr.add] using c0)
    have each : ∀ i, i < m → a.block < W.heap.size ∧ JobAt W a.block (a.off + i * 5) ∧ Pl i = [] := by
      intro i hi
      obtain ⟨cs', h1, h2⟩ := hel i hi
      exact job_of (spot (by omega)) h1 h2
    refine ⟨?_, ?_⟩
    · by_cases h0 : len = 0
      · subst h0
        exact Or.inl ⟨_, _, rfl⟩
      · obtain ⟨hbk, _, _⟩ := each 0 (by omega)
        have sp := spot (by omega)
        obtain ⟨b, off, spot⟩ := a
        simp only at sp
        subst sp
        exact Or.inr ⟨b, off, len, m, rfl, hbk, by omega, by unfold maxLen at hm; omega, fun i hi => (each i (by omega)).2.1⟩
    · rw [hx]
      intro p hp
      simp only [List.mem_append, MemPlace.row, List.mem_map, List.mem_flatMap, List.mem_range] at hp
      rcases hp with ⟨i, _, rfl⟩ | ⟨i, hi, hpi⟩
      · exact ⟨_, _, rfl⟩
      · rw [(each i hi).2.2] at hpi
        cases hpi

set_option maxRecDepth 100000 in
theorem lifted (os : Os) (started : os.Started) (H : Type) (enc : TypeId × Value → H) :
    ReturnsInHanded {} Tryd.checked os 4 .any (fun w args => (Rows.aluExactSpec.pre enc Tryd.prog Tryd.f4 [] false w args ∧ laidMetH Tryd.prog Rows.aluExactRow.laid w) ∧ sizedMet enc Tryd.prog Tryd.f4 (OpenSpec.ofChange Rows.aluExactSpec) false w args)
      (Rows.aluExactSpec.post enc Tryd.prog Tryd.f4 false true false false) := by
  refine returnsInHanded_of_change_and (C := Tryd.checked) (X := fun w _ => laidMetH Tryd.prog Rows.aluExactRow.laid w) (fun _ _ _ hh h => h.of_heap hh) own started (by kernel_rfl) Tryd.func4
    (ChangeSpec.witness_shaped (enc := enc) (C := Tryd.checked) (os := os) (X := fun w _ => laidMetH Tryd.prog Rows.aluExactRow.laid w) false (World.doorLaid Tryd.prog 400 os) #[.slice none 0 0] 8 rfl (World.shaped_of_RefB (by kernel_rfl) (by kernel_rfl)) (by kernel_rfl) (by kernel_rfl) (by kernel_rfl) (door_met os _)) ?_
  intro W base args ds gs before hval0 hW _ _ hL _
  have hval : ∀ (j : Nat) t v, Tryd.f4.params[j]? = some t → args[j]? = some v → Value.okWide Tryd.prog W .any base t v := hval0
  have hW' := hW
  obtain ⟨p, q, hA0, hV, rfl, hfz, hnd⟩ := hW
  have hA : DataW.TrodAll enc Tryd.prog W 0 (fun _ => true) true Tryd.f4.params.toList args.toList ds p := hA0
  rw [Tryd.params4] at hA hval
  obtain ⟨v0, vs0, d0, ds0, p0, q0, hargs, rfl, rfl, h0, r0⟩ := trodAll_cons hA
  obtain ⟨rfl, rfl, rfl⟩ := trodAll_nil r0
  obtain rfl : args = #[v0] := by cases args; simp_all
  obtain ⟨rfl, rfl⟩ := trodVars_none hV
  obtain ⟨a0, len, cap, rfl⟩ := okWide_slice Tryd.underlying28 (hval 0 28 v0 rfl rfl)
  have k0 := h0
  have lt0 : ∀ x ∈ p0, x.block < W.heap.size := by obtain ⟨m, hm⟩ := k0; exact DataW.trod_lt m _ _ _ hm
  obtain ⟨fuel, hf⟩ := h0
  obtain ⟨hJ, hPl⟩ := jobs_of (v := .slice a0 len cap) (by simpa [Value.cells] using hf)
  clear hA0 hval0
  refine (exact_any (.slice a0 len cap) W (of_laid W hL) hJ).mono fun e W' ⟨he, hg⟩ => ?_
  subst he
  have stay : DataW.Trod enc Tryd.prog W' 0 (fun b => decide (b < W.heap.size)) true 28 (.slice a0 len cap) d0 p0 :=
    WideElems.Trod_stays laidOut (by kernel_rfl) (of_decide_eq_true (by kernel_rfl)) k0 (fun x hx => hg.1.sameAt (lt0 x hx) (fun f => f) (fun b hb => by obtain ⟨b', o', e⟩ := hPl x hx; rw [e] at hb; cases hb)) (fun x hx => by simpa using lt0 x hx)
  exact ⟨_, rfl, _, _, _, [], _, [], hW', trodAll_mk1 (shut_bool Tryd.underlying4 _), (trodAll_cons_mk stay trodAll_mk0), rfl, World.keptBut_mono (fun _ f => f.elim) hg.1, fun h => by cases h⟩

theorem over : Rows.aluExactRow.holds Tryd.pinned (OpenSpec.ofChange Rows.aluExactSpec) :=
  OpenClaim.holds_of_wide 4 Tryd.f4 rfl rfl rfl rfl rfl rfl rfl ⟨rfl, rfl, rfl, rfl, rfl⟩ rfl rfl rfl rfl rfl (by kernel_rfl) Tryd.func4 (by kernel_rfl)
    (of_decide_eq_true (by kernel_rfl)) (by unfold Func.isWrapper; first | (rw [if_pos (by decide +kernel)]; kernel_rfl) | (rw [if_neg (by decide +kernel)]; exact ⟨rfl, rfl⟩))
    (fun os started H enc _ => lifted os started H enc)
theorem proved : Rows.AluExactSaid := over
/-- The card: the row, its table tied to the program's text. -/
theorem card : Rows.AluExactCardSaid :=
  Claim7.holds_tied_plain_at .later [] [.data] true (true, "e6a8b69185910cc5c7d604f3c993dc141dc36939c123517ac00518a85f31bb88") false
    proved (fun _ h => by cases h) (by kernel_rfl) (fun _ h => by cases h) aluExact_row_tie rfl ⟨rfl, rfl⟩ (by kernel_rfl) rfl
    (fun f fn hf hfn => by
      obtain rfl : f = 4 := Option.some.inj ((show Tryd.prog.funcNamed "arcade/arcadelaw1.AluExact" = some 4 by kernel_rfl).symm.trans hf) |>.symm
      obtain rfl : fn = Tryd.f4 := (Option.some.inj (Tryd.func4.symm.trans hfn)).symm
      exact ⟨by kernel_rfl, fun j t ht => by
        rw [Tryd.params4] at ht
        have hm : t ∈ [28] := by simpa using Array.mem_of_getElem? ht
        have hall : ([28].all fun u => !Tryd.prog.wantsStandIn u) = true := by kernel_rfl
        exact (show Tryd.prog.wantsStandIn t = false by simpa using List.all_eq_true.1 hall t hm)⟩)
    (by kernel_rfl)
end Go.Proofs.YtlbcodjkcjjoeabDoor.aluExact
namespace Go.Proofs.YtlbcodjkcjjoeabDoor
theorem aluExact_card : Rows.AluExactCardSaid := aluExact.card
#print axioms aluExact_card
end Go.Proofs.YtlbcodjkcjjoeabDoor
