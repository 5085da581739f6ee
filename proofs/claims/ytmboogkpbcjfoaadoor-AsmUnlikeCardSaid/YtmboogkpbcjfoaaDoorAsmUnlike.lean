/- Proved: the law AsmUnlike answers true (a closed sentence: of all 512 opcodes 500 are written, no two alike; those that are none are of the first table), where the variables that the row lists are as the program's text lays them. No other condition. -/
import Derived.Test.YtmboogkpbcjfoaaDoorRows
import Derived.Test.YtmboogkpbcjfoaaDoorTie
import Derived.Test.YtmboogkpbcjfoaaDoorCards
import Derived.Test.YtmboogkpbcjfoaaDoorTabU
import Derived.ProofKit
import Derived.OpenShut
import Derived.LaidMore
import Derived.Lay
import Derived.SevenTiedAt
import Derived.Stop.Joined
import Derived.Deep.DeepHandedRow
namespace Go.Proofs.YtmboogkpbcjfoaaDoor.asmUnlike
open Go.ChangeShapes Go.WideShapes Go.ChangeAt Go.RowKit
set_option linter.unusedVariables false
theorem own : ownKnob Tryd.prog.godebug = none := by kernel_rfl
/-- a listed variable reads as listed -/
theorem laid_at {P : Program} {W : World} : ∀ {l : List (String × DataW Unit)} {ps : List MemPlace}, DataW.LaidVars P W l ps → ∀ n d, (n, d) ∈ l →
    ∃ g t cs fuel p, P.globalNamed n = some g ∧ (P.globals[g]?).map (·.type) = some t ∧ W.var? P n = some cs ∧ DataW.trod (fun _ => ()) P W 0 (fun _ => true) false fuel t cs.toList = some (d, p)
  | [], _, _, n, d, h => by cases h
  | (m, e) :: r, ps, h, n, d, hm => by
    obtain ⟨g, t, cs, fuel, p, q, hg, ht, hv, hd, hr, _⟩ := h
    rcases List.mem_cons.1 hm with e1 | e1
    · cases e1
      exact ⟨g, t, cs, fuel, p, hg, ht, hv, hd⟩
    · exact laid_at hr n d e1
/-- a row of words as data -/
def rowD (l : List (List UInt8)) : DataW Unit := .agg (l.map fun s => .lit (.string s))
theorem row_of {W : World} {n : String} {g t k : Nat} {l : List (List UInt8)} (hL : laidMet Tryd.prog Rows.asmUnlikeRow.laid W) (hm : (n, rowD l) ∈ Rows.asmUnlikeRow.laid)
    (hg : Tryd.prog.globalNamed n = some g) (ht : (Tryd.prog.globals[g]?).map (·.type) = some t) (hu : Tryd.prog.underlying t = some (.array k 9)) (hk : l.length = k) (h0 : 0 < k) : Row W g l := by
  obtain ⟨ps, hv, _⟩ := hL
  obtain ⟨g', t', cs, fuel, p, hg', ht', hvar, hd⟩ := laid_at hv n _ hm
  obtain rfl := Option.some.inj (hg.symm.trans hg')
  obtain rfl := Option.some.inj (ht.symm.trans ht')
  obtain ⟨xs, m, _, ex, _, hl, hel⟩ := DataW.trod_array hu hd
  have c9 : Tryd.prog.cellsOf 9 = 1 := by kernel_rfl
  have cell : ∀ i, i < l.length → W.cell? ⟨g, i, none⟩ = some (.string ⟨(l.getD i []).toArray⟩) := by
    intro i hi
    have hE := hel i (by omega)
    rw [c9, Nat.mul_one, List.getElem?_eq_getElem (by omega)] at hE
    obtain ⟨s, e1, e2, _⟩ := DataW.trod_string Tryd.underlying9 hE
    have e3 : (xs.map (·.1)) = l.map fun s => (DataW.lit (.string s) : DataW Unit) := (DataW.agg.inj (Prod.mk.inj ex).1).symm
    have e4 : (xs.map (·.1))[i]? = (l.map fun s => (DataW.lit (.string s) : DataW Unit))[i]? := by rw [e3]
    rw [List.getElem?_map, List.getElem?_map, List.getElem?_eq_getElem (by omega : i < xs.length), List.getElem?_eq_getElem hi, e2] at e4
    have hz : s.data.toList = l[i] := by simpa using e4
    rw [World.var?_cell hg hvar i]
    have h2 : cs.toList[i]? = some (.string s) := by
      have h3 : ((cs.toList.drop i).take 1)[0]? = some (.string s) := by rw [e1]; rfl
      simpa using h3
    rw [List.getD_eq_getElem?_getD, List.getElem?_eq_getElem hi]
    have hs : s = ⟨l[i].toArray⟩ := by rw [← hz]
    rw [show cs[i]? = some (.string s) from by simpa using h2, hs]
    rfl
  exact ⟨World.block_lt_of_cell? _ _ (cell 0 (by omega)), cell⟩
theorem of_laid (W : World) (h : laidMetH Tryd.prog Rows.asmUnlikeRow.laid W) (hsh : W.ShapedOpen Tryd.prog) : Laid W := by
  rw [MakeChecks.laidMetH_plain _ _ _ (by kernel_rfl)] at h
  have hm : ∃ m, W.cell? ⟨8, 0, none⟩ = some (.int .i64 m) := Go.Proofs.cell_of_shapedOpen_int (zero := #[.int .i64 0]) (t := 3) hsh (of_decide_eq_true (by kernel_rfl)) (by kernel_rfl) rfl (by kernel_rfl) (by kernel_rfl) Tryd.underlying3
  obtain ⟨m, hm⟩ := hm
  exact ⟨row_of (n := "arcade/asm.rowR") (l := rowR) h (by simp [Rows.asmUnlikeRow, rowD, rowR, Rows.laid_arcade_asm_rowR]) (by kernel_rfl) (by kernel_rfl) Tryd.underlying49 rfl (by decide),
    row_of (n := "arcade/asm.rowRP") (l := rowRP) h (by simp [Rows.asmUnlikeRow, rowD, rowRP, Rows.laid_arcade_asm_rowRP]) (by kernel_rfl) (by kernel_rfl) Tryd.underlying68 rfl (by decide),
    row_of (n := "arcade/asm.rowRQ") (l := rowRQ) h (by simp [Rows.asmUnlikeRow, rowD, rowRQ, Rows.laid_arcade_asm_rowRQ]) (by kernel_rfl) (by kernel_rfl) Tryd.underlying68 rfl (by decide),
    row_of (n := "arcade/asm.rowM") (l := rowM) h (by simp [Rows.asmUnlikeRow, rowD, rowM, Rows.laid_arcade_asm_rowM]) (by kernel_rfl) (by kernel_rfl) Tryd.underlying68 rfl (by decide),
    row_of (n := "arcade/asm.rowCC") (l := rowCC) h (by simp [Rows.asmUnlikeRow, rowD, rowCC, Rows.laid_arcade_asm_rowCC]) (by kernel_rfl) (by kernel_rfl) Tryd.underlying68 rfl (by decide),
    row_of (n := "arcade/asm.rowALU") (l := rowALU) h (by simp [Rows.asmUnlikeRow, rowD, rowALU, Rows.laid_arcade_asm_rowALU]) (by kernel_rfl) (by kernel_rfl) Tryd.underlying49 rfl (by decide),
    row_of (n := "arcade/asm.rowROT") (l := rowROT) h (by simp [Rows.asmUnlikeRow, rowD, rowROT, Rows.laid_arcade_asm_rowROT]) (by kernel_rfl) (by kernel_rfl) Tryd.underlying49 rfl (by decide),
    row_of (n := "arcade/asm.rowACC") (l := rowACC) h (by simp [Rows.asmUnlikeRow, rowD, rowACC, Rows.laid_arcade_asm_rowACC]) (by kernel_rfl) (by kernel_rfl) Tryd.underlying49 rfl (by decide),
    World.block_lt_of_cell? _ _ hm, m, hm⟩
set_option maxRecDepth 100000 in
theorem lifted (os : Os) (started : os.Started) (H : Type) (enc : TypeId × Value → H) (F : Stop.Interp) :
    ReturnsInHanded {} Tryd.checked os 3 .any ((OpenSpec.ofChange Rows.asmUnlikeSpec).preRow enc Tryd.prog Tryd.f3 Rows.asmUnlikeRow.domain false Rows.asmUnlikeRow.laid)
      (((OpenSpec.ofChange Rows.asmUnlikeSpec).at F).post enc Tryd.prog Tryd.f3 false true false false) := by
  refine returnsInHanded_of_row (C := Tryd.checked) (s := OpenSpec.ofChange Rows.asmUnlikeSpec) own started (by kernel_rfl) Tryd.func3
    (ChangeSpec.witness_shaped (enc := enc) (C := Tryd.checked) (os := os) (s := Rows.asmUnlikeSpec) (X := fun w _ => laidMetH Tryd.prog Rows.asmUnlikeRow.laid w) false (World.laidAll Tryd.prog os Rows.asmUnlikeRow.laid) #[] 8 (World.laidAll_os _ _ _)
      (World.shaped_of_ZipB (by kernel_rfl) (by kernel_rfl)) (by kernel_rfl) (by kernel_rfl) (by kernel_rfl)
      (by rw [MakeChecks.laidMetH_plain _ _ _ (by kernel_rfl)]; exact laidMet_laidAll _ (by kernel_rfl) (by kernel_rfl))) ?_
  intro W base args ds gs before hval0 hW _ _ _ hL hsh _
  have hW' := hW
  obtain ⟨p, q, hA0, hV, rfl, _, _⟩ := hW
  have hA : DataW.TrodAll enc Tryd.prog W 0 (fun _ => true) true Tryd.f3.params.toList args.toList ds p := hA0
  rw [Tryd.params3] at hA
  obtain ⟨ha, rfl, rfl⟩ := trodAll_nil hA
  obtain rfl : args = #[] := by cases args; simp_all
  obtain ⟨rfl, rfl⟩ := trodVars_none hV
  clear hA0 hval0
  refine (unlike_walk W (of_laid W hL hsh)).mono fun e W' ⟨he, hg⟩ => ?_
  subst he
  exact ⟨_, rfl, _, _, _, [], [], [], hW', trodAll_mk1 (shut_bool Tryd.underlying4 _), trodAll_mk0, rfl, World.keptBut_mono (fun _ f => f.elim) (hg.frame (fun _ => False)), fun h => by cases h⟩
theorem proved : Rows.AsmUnlikeSaid :=
  OpenClaim.holds_of_cond 3 Tryd.f3 rfl rfl rfl rfl rfl rfl rfl ⟨rfl, rfl, rfl, rfl, rfl⟩ rfl rfl rfl rfl rfl (by kernel_rfl) Tryd.func3 (by kernel_rfl)
    (of_decide_eq_true (by kernel_rfl)) (by unfold Func.isWrapper; rw [if_neg (of_decide_eq_false (by kernel_rfl))]; exact ⟨rfl, rfl⟩)
    (fun os started H enc _ F0 => by rw [OpenClaim.pre_eq_preRow]; exact lifted os started H enc F0)
/-- The card: the row, its tables tied to the program's text. -/
theorem card : Rows.AsmUnlikeCardSaid :=
  Claim7.holds_tied_plain_at .later [] [.data, .data, .data, .data, .data, .data, .data, .data, .data, .data, .data, .data, .pinned] true (true, "cef841f12a95000a08c4b034c538048fdd278968b6128869666b47edb9a29a8c") false
    proved (fun _ h => by cases h) (by kernel_rfl) (fun _ h => by cases h) asmUnlike_row_tie rfl ⟨rfl, rfl⟩ (by kernel_rfl) rfl
    (fun f fn hf hfn => by
      obtain rfl : f = 3 := Option.some.inj ((show Tryd.prog.funcNamed "arcade/arcadelaw2.AsmUnlike" = some 3 by kernel_rfl).symm.trans hf) |>.symm
      obtain rfl : fn = Tryd.f3 := (Option.some.inj (Tryd.func3.symm.trans hfn)).symm
      exact ⟨by kernel_rfl, fun j t ht => by
        rw [Tryd.params3] at ht
        have hm : t ∈ ([] : List TypeId) := by simpa using Array.mem_of_getElem? ht
        cases hm⟩)
    (by kernel_rfl)
end Go.Proofs.YtmboogkpbcjfoaaDoor.asmUnlike
namespace Go.Proofs.YtmboogkpbcjfoaaDoor
theorem asmUnlike_card : Rows.AsmUnlikeCardSaid := asmUnlike.card
#print axioms asmUnlike_card
end Go.Proofs.YtmboogkpbcjfoaaDoor
