/-
  NARROWER THAN 'FOR EVERY INPUT', by the rows' own cells (each row's printed sentence says how): CpuHidden: laid.
  DERIVED. THE GIVEN ROWS OF THIS SEAT. 1 by the template 'for every input the law returns true; each argument reads behind the call as it read before'; 0 by the template 'total and deterministic' (their statements: YtdkibohpdkdooaaGreatDoorTotals.lean).
  GIVEN WITH THE SEED: the statements are not yours to turn. If you find one false, say at which input.
  Laid BY PROGRAM, IN A SANDBOX (cutbox-rows.mjs): the forced cells as the released guide's own fill.sh prints them over the translation 5a547753b519cca8… (all of the seat's roots in one cut). By AI agents, Wed Nov 11 2026. No macro, syntax, notation, axiom, sorry.
-/
import Derived.Test.YtdkibohpdkdooaaGreatDoorChecked
import GoSem.Claim
import GoSem.ClaimJoined
import GoSem.ClaimMapViews
import Derived.JoinedTies
import Derived.KernelRfl
namespace Go.Proofs.YtdkibohpdkdooaaGreatDoor
/- THE CELL 'sum', in the pinned program and in every row, IS THE sha256 OF THE DUMP (.gsa) THAT YtdkibohpdkdooaaGreatDoorProg.lean LOADS. Nothing in Lean hashes anything: it is a label: what it is worth is what the hold of that sum in a sandbox is worth. -/
noncomputable def Tryz.pinned : Pinned := { name := "ytdkibohpdkdooaagreatdoor", sum := "5a547753b519cca8a6986888adc12201a6fa5d8cd2cb9cb30ff5dba78f7c68fb", checked := Tryz.checked }
namespace Rows
def none {H : Type} : Left H := { results := [], args := [] }

/- WHAT THE LISTED PACKAGE-LEVEL VARIABLES READ AS WHEN THE CALL BEGINS. Each datum BY PROGRAM (the guide's laid-datum.mjs) off the statement by which the dump's own 'gosem.cut.vars' lays the variable. In a bare row this is a premise. The card (YtdkibohpdkdooaaGreatDoorCards.lean) ties it to the program's text. -/
def laid_arcade_alu_bits {H : Type} : DataW H := .agg [.lit (.int .u8 1), .lit (.int .u8 2), .lit (.int .u8 4), .lit (.int .u8 8), .lit (.int .u8 16), .lit (.int .u8 32), .lit (.int .u8 64), .lit (.int .u8 128)]

/-- 'arcadelaw3.CpuHidden': WHATEVER THE INPUT: true; the input reads as it did. -/
def cpuHiddenSpec : ChangeSpec := { name := "cpuHidden", fn := fun _ => fun
  | [d1, d2, d3] => { results := [.lit (.bool true)], args := [d1, d2, d3] }
  | _ => none }
def cpuHiddenRow : OpenClaim := { program := "ytdkibohpdkdooaagreatdoor", sum := "5a547753b519cca8a6986888adc12201a6fa5d8cd2cb9cb30ff5dba78f7c68fb", func := "arcade/arcadelaw3.CpuHidden", spec := "cpuHidden", unfollowed := true, recurses := true, named := ["arcade/alu.bits"], apart := false, laid := [("arcade/alu.bits", laid_arcade_alu_bits)] }
def CpuHiddenSaid : Prop := cpuHiddenRow.holds Tryz.pinned (OpenSpec.ofChange cpuHiddenSpec)

/-- ITS FALSE NEIGHBOUR: 'it returns false'. Refute it at one input. -/
def cpuHiddenWrong : ChangeSpec := { name := "cpuHidden", fn := fun _ => fun
  | [d1, d2, d3] => { results := [.lit (.bool false)], args := [d1, d2, d3] }
  | _ => none }
def CpuHiddenWrongFalsely : Prop := cpuHiddenRow.holds Tryz.pinned (OpenSpec.ofChange cpuHiddenWrong)

/- THE SECOND FORM. 'bulk': how many values and letters a reading holds, each counted each time it is reached (what is shared counts as often as it is met; a slice's spare places count too). A statement '..UptoSaid' is the law's where the arguments, and the package variables that the reading takes, are together of bulk at most 1048576: NARROWER than '..Said'. Prove '..Said' where nothing that the law and all that it calls make is longer than what came in: it says more and counts as full. Else prove '..UptoSaid'. A law counts once. -/
mutual
def uptoBulk {H : Type} : DataW H → Nat
  | .lit (.string bytes) => bytes.length + 1
  | .lit _ => 1
  | .nil => 1
  | .ptr d => uptoBulk d + 1
  | .slice elems spare => uptoBulkAll elems + uptoBulkAll spare + 1
  | .agg parts => uptoBulkAll parts + 1
  | .iface _ d => uptoBulk d + 1
  | .map entries => uptoBulkEntries entries + 1
  | .held _ => 1
def uptoBulkAll {H : Type} : List (DataW H) → Nat
  | [] => 0
  | d :: r => uptoBulk d + uptoBulkAll r
def uptoBulkEntries {H : Type} : List (Lit × DataW H) → Nat
  | [] => 0
  | x :: r => uptoBulkEntry x + uptoBulkEntries r
def uptoBulkEntry {H : Type} : Lit × DataW H → Nat
  | (.string bytes, d) => bytes.length + uptoBulk d + 1
  | (_, d) => uptoBulk d + 1
 end
def uptoSmall : (H : Type) → List (DataW H) → Bool := fun _ ds => decide (uptoBulkAll ds ≤ 1048576)
def OpenSpec.upto (s : _root_.Go.ChangeSpec) : _root_.Go.OpenSpec := { _root_.Go.OpenSpec.ofChange s with cond := some uptoSmall }

/-- 'arcadelaw3.CpuHidden', WHERE WHAT IT READS IS OF BULK AT MOST 1048576: true; the input reads as it did. -/
def cpuHiddenUptoRow : OpenClaim := { program := "ytdkibohpdkdooaagreatdoor", sum := "5a547753b519cca8a6986888adc12201a6fa5d8cd2cb9cb30ff5dba78f7c68fb", func := "arcade/arcadelaw3.CpuHidden", spec := "cpuHidden", unfollowed := true, recurses := true, named := ["arcade/alu.bits"], apart := false, laid := [("arcade/alu.bits", laid_arcade_alu_bits)], narrowed := true }
def CpuHiddenUptoSaid : Prop := cpuHiddenUptoRow.holds Tryz.pinned (OpenSpec.upto cpuHiddenSpec)

end Rows
end Go.Proofs.YtdkibohpdkdooaaGreatDoor
