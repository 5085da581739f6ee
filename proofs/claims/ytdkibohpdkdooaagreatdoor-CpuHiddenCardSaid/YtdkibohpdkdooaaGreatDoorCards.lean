/-
  DERIVED. GIVEN WITH THE SEED: THE CARDS: each row of YtdkibohpdkdooaaGreatDoorRows.lean that lists a variable, with what it lists TIED to the program's text (the seventh form; the later family's looks); each row that meets fmt, with fmt's text TOLD by the authors' own Lean function (tested against real Go, not proved from fmt's source: count such statements apart). THE CARD IS WHAT COUNTS. Prove the row's statement (the work); the ties are given (YtdkibohpdkdooaaGreatDoorTie.lean); close each card by the builder's one call (the guide's Derived/Test/ToyasCard.lean, 'card_holds'). Laid BY PROGRAM, IN A SANDBOX (cutbox-door.mjs). By AI agents, Wed Nov 11 2026. No macro, syntax, notation, axiom, sorry.
-/
import Derived.Test.YtdkibohpdkdooaaGreatDoorRows
import GoSem.ClaimSeven
namespace Go.Proofs.YtdkibohpdkdooaaGreatDoor
namespace Rows

/-- THE TIED CARD OF 'arcadelaw3.CpuHidden'. -/
def cpuHiddenCard : Claim7 := { stood := { row := cpuHiddenRow, standIns := [], harness := (true, "168f867179805f669bf6add62648f0142611f810965365e5b93d007cf45dfc22"), looks := false }, kinds := [], alts := [], laidByText := true, laidKinds := [.data], laidTests := true, laidLooks := .later }
def CpuHiddenCardSaid : Prop := Claim7.holds Tryz.pinned (.plain (OpenSpec.ofChange cpuHiddenSpec)) cpuHiddenCard

/-- THE SECOND FORM's CARD OF 'arcadelaw3.CpuHidden'. -/
def cpuHiddenUptoCard : Claim7 := { stood := { row := cpuHiddenUptoRow, standIns := [], harness := (true, "168f867179805f669bf6add62648f0142611f810965365e5b93d007cf45dfc22"), looks := false }, kinds := [], alts := [], laidByText := true, laidKinds := [.data], laidTests := true, laidLooks := .later }
def CpuHiddenUptoCardSaid : Prop := Claim7.holds Tryz.pinned (.plain (OpenSpec.upto cpuHiddenSpec)) cpuHiddenUptoCard
end Rows
end Go.Proofs.YtdkibohpdkdooaaGreatDoor
