/-
  NARROWER THAN 'FOR EVERY INPUT', by the rows' own cells (each row's printed sentence says how): CpuHidden: laid · CpuLoads: laid · CpuCut: laid.
  DERIVED. THE GIVEN ROWS OF THIS SEAT. 3 by the template 'for every input the law returns true; each argument reads behind the call as it read before'; 0 by the template 'total and deterministic' (their statements: YtlgfpddiebdmaaaGreatDoorTotals.lean).
  GIVEN WITH THE SEED: the statements are not yours to turn. If you find one false, say at which input.
  Laid BY PROGRAM, IN A SANDBOX (cutbox-rows.mjs): the forced cells as the released guide's own fill.sh prints them over the translation 539671d7d957f9b0… (all of the seat's roots in one cut). By AI agents, Wed Nov 11 2026. No macro, syntax, notation, axiom, sorry.
-/
import Derived.Test.YtlgfpddiebdmaaaGreatDoorChecked
import GoSem.Claim
import GoSem.ClaimJoined
import GoSem.ClaimMapViews
import Derived.JoinedTies
import Derived.KernelRfl
namespace Go.Proofs.YtlgfpddiebdmaaaGreatDoor
/- THE CELL 'sum', in the pinned program and in every row, IS THE sha256 OF THE DUMP (.gsa) THAT YtlgfpddiebdmaaaGreatDoorProg.lean LOADS. Nothing in Lean hashes anything: it is a label: what it is worth is what the hold of that sum in a sandbox is worth. -/
noncomputable def Tryz.pinned : Pinned := { name := "ytlgfpddiebdmaaagreatdoor", sum := "539671d7d957f9b086dd4d946230448be480ad1db76f1af6f5ebf4299f6fbe23", checked := Tryz.checked }
namespace Rows
def none {H : Type} : Left H := { results := [], args := [] }

/- WHAT THE LISTED PACKAGE-LEVEL VARIABLES READ AS WHEN THE CALL BEGINS. Each datum BY PROGRAM (the guide's laid-datum.mjs) off the statement by which the dump's own 'gosem.cut.vars' lays the variable. In a bare row this is a premise. The card (YtlgfpddiebdmaaaGreatDoorCards.lean) ties it to the program's text. -/
def laid_arcade_alu_bits {H : Type} : DataW H := .agg [.lit (.int .u8 1), .lit (.int .u8 2), .lit (.int .u8 4), .lit (.int .u8 8), .lit (.int .u8 16), .lit (.int .u8 32), .lit (.int .u8 64), .lit (.int .u8 128)]

/-- 'arcadelaw3.CpuHidden': WHATEVER THE INPUT: true; the input reads as it did. -/
def cpuHiddenSpec : ChangeSpec := { name := "cpuHidden", fn := fun _ => fun
  | [d1, d2, d3] => { results := [.lit (.bool true)], args := [d1, d2, d3] }
  | _ => none }
def cpuHiddenRow : OpenClaim := { program := "ytlgfpddiebdmaaagreatdoor", sum := "539671d7d957f9b086dd4d946230448be480ad1db76f1af6f5ebf4299f6fbe23", func := "arcade/arcadelaw3.CpuHidden", spec := "cpuHidden", unfollowed := true, recurses := true, named := ["arcade/alu.bits"], apart := false, laid := [("arcade/alu.bits", laid_arcade_alu_bits)] }
def CpuHiddenSaid : Prop := cpuHiddenRow.holds Tryz.pinned (OpenSpec.ofChange cpuHiddenSpec)

/-- ITS FALSE NEIGHBOUR: 'it returns false'. Refute it at one input. -/
def cpuHiddenWrong : ChangeSpec := { name := "cpuHidden", fn := fun _ => fun
  | [d1, d2, d3] => { results := [.lit (.bool false)], args := [d1, d2, d3] }
  | _ => none }
def CpuHiddenWrongFalsely : Prop := cpuHiddenRow.holds Tryz.pinned (OpenSpec.ofChange cpuHiddenWrong)

/-- 'arcadelaw3.CpuLoads': WHATEVER THE INPUT: true; the input reads as it did. -/
def cpuLoadsSpec : ChangeSpec := { name := "cpuLoads", fn := fun _ => fun
  | [d1, d2, d3] => { results := [.lit (.bool true)], args := [d1, d2, d3] }
  | _ => none }
def cpuLoadsRow : OpenClaim := { program := "ytlgfpddiebdmaaagreatdoor", sum := "539671d7d957f9b086dd4d946230448be480ad1db76f1af6f5ebf4299f6fbe23", func := "arcade/arcadelaw3.CpuLoads", spec := "cpuLoads", unfollowed := true, recurses := true, named := ["arcade/alu.bits"], apart := false, laid := [("arcade/alu.bits", laid_arcade_alu_bits)] }
def CpuLoadsSaid : Prop := cpuLoadsRow.holds Tryz.pinned (OpenSpec.ofChange cpuLoadsSpec)

/-- ITS FALSE NEIGHBOUR: 'it returns false'. Refute it at one input. -/
def cpuLoadsWrong : ChangeSpec := { name := "cpuLoads", fn := fun _ => fun
  | [d1, d2, d3] => { results := [.lit (.bool false)], args := [d1, d2, d3] }
  | _ => none }
def CpuLoadsWrongFalsely : Prop := cpuLoadsRow.holds Tryz.pinned (OpenSpec.ofChange cpuLoadsWrong)

/-- 'arcadelaw3.CpuCut': WHATEVER THE INPUT: true; the input reads as it did. -/
def cpuCutSpec : ChangeSpec := { name := "cpuCut", fn := fun _ => fun
  | [d1, d2, d3, d4] => { results := [.lit (.bool true)], args := [d1, d2, d3, d4] }
  | _ => none }
def cpuCutRow : OpenClaim := { program := "ytlgfpddiebdmaaagreatdoor", sum := "539671d7d957f9b086dd4d946230448be480ad1db76f1af6f5ebf4299f6fbe23", func := "arcade/arcadelaw3.CpuCut", spec := "cpuCut", unfollowed := true, recurses := true, named := ["arcade/alu.bits"], apart := false, laid := [("arcade/alu.bits", laid_arcade_alu_bits)] }
def CpuCutSaid : Prop := cpuCutRow.holds Tryz.pinned (OpenSpec.ofChange cpuCutSpec)

/-- ITS FALSE NEIGHBOUR: 'it returns false'. Refute it at one input. -/
def cpuCutWrong : ChangeSpec := { name := "cpuCut", fn := fun _ => fun
  | [d1, d2, d3, d4] => { results := [.lit (.bool false)], args := [d1, d2, d3, d4] }
  | _ => none }
def CpuCutWrongFalsely : Prop := cpuCutRow.holds Tryz.pinned (OpenSpec.ofChange cpuCutWrong)

/- THE SECOND FORM. 'bulk': how many values and letters a reading holds, each counted each time it is reached (what is shared counts as often as it is met; a slice's spare places count too). A statement '..UptoSaid' is the law's where the arguments, and the package variables that the reading takes, are together of bulk at most 1048576: NARROWER than '..Said'. Prove '..Said' where nothing that the law and all that it calls make is longer than what came in: it says more and counts as full. Else prove '..UptoSaid'. A law counts once. -/
mutual
def uptoBulk {H : Type} : DataW H → Nat
  | .lit (.string bytes) => bytes.length + 1
  | .lit _ => 1
  | .nil => 1
  | .ptr d => uptoBulk d + 1
  | .slice elems spare => uptoBulkAll elems + uptoBulkAll spare + 1
  | .agg parts => uptoBulkAll parts + 1
  | .iface _ d => uptoBulk d + 1
  | .map entries => uptoBulkEntries entries + 1
  | .held _ => 1
def uptoBulkAll {H : Type} : List (DataW H) → Nat
  | [] => 0
  | d :: r => uptoBulk d + uptoBulkAll r
def uptoBulkEntries {H : Type} : List (Lit × DataW H) → Nat
  | [] => 0
  | x :: r => uptoBulkEntry x + uptoBulkEntries r
def uptoBulkEntry {H : Type} : Lit × DataW H → Nat
  | (.string bytes, d) => bytes.length + uptoBulk d + 1
  | (_, d) => uptoBulk d + 1
 end
def uptoSmall : (H : Type) → List (DataW H) → Bool := fun _ ds => decide (uptoBulkAll ds ≤ 1048576)
def OpenSpec.upto (s : _root_.Go.ChangeSpec) : _root_.Go.OpenSpec := { _root_.Go.OpenSpec.ofChange s with cond := some uptoSmall }

/-- 'arcadelaw3.CpuHidden', WHERE WHAT IT READS IS OF BULK AT MOST 1048576: true; the input reads as it did. -/
def cpuHiddenUptoRow : OpenClaim := { program := "ytlgfpddiebdmaaagreatdoor", sum := "539671d7d957f9b086dd4d946230448be480ad1db76f1af6f5ebf4299f6fbe23", func := "arcade/arcadelaw3.CpuHidden", spec := "cpuHidden", unfollowed := true, recurses := true, named := ["arcade/alu.bits"], apart := false, laid := [("arcade/alu.bits", laid_arcade_alu_bits)], narrowed := true }
def CpuHiddenUptoSaid : Prop := cpuHiddenUptoRow.holds Tryz.pinned (OpenSpec.upto cpuHiddenSpec)

/-- 'arcadelaw3.CpuLoads', WHERE WHAT IT READS IS OF BULK AT MOST 1048576: true; the input reads as it did. -/
def cpuLoadsUptoRow : OpenClaim := { program := "ytlgfpddiebdmaaagreatdoor", sum := "539671d7d957f9b086dd4d946230448be480ad1db76f1af6f5ebf4299f6fbe23", func := "arcade/arcadelaw3.CpuLoads", spec := "cpuLoads", unfollowed := true, recurses := true, named := ["arcade/alu.bits"], apart := false, laid := [("arcade/alu.bits", laid_arcade_alu_bits)], narrowed := true }
def CpuLoadsUptoSaid : Prop := cpuLoadsUptoRow.holds Tryz.pinned (OpenSpec.upto cpuLoadsSpec)

/-- 'arcadelaw3.CpuCut', WHERE WHAT IT READS IS OF BULK AT MOST 1048576: true; the input reads as it did. -/
def cpuCutUptoRow : OpenClaim := { program := "ytlgfpddiebdmaaagreatdoor", sum := "539671d7d957f9b086dd4d946230448be480ad1db76f1af6f5ebf4299f6fbe23", func := "arcade/arcadelaw3.CpuCut", spec := "cpuCut", unfollowed := true, recurses := true, named := ["arcade/alu.bits"], apart := false, laid := [("arcade/alu.bits", laid_arcade_alu_bits)], narrowed := true }
def CpuCutUptoSaid : Prop := cpuCutUptoRow.holds Tryz.pinned (OpenSpec.upto cpuCutSpec)

end Rows
end Go.Proofs.YtlgfpddiebdmaaaGreatDoor
