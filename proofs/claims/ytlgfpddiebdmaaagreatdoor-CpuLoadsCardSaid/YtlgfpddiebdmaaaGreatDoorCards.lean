/-
  DERIVED. GIVEN WITH THE SEED: THE CARDS: each row of YtlgfpddiebdmaaaGreatDoorRows.lean that lists a variable, with what it lists TIED to the program's text (the seventh form; the later family's looks); each row that meets fmt, with fmt's text TOLD by the authors' own Lean function (tested against real Go, not proved from fmt's source: count such statements apart). THE CARD IS WHAT COUNTS. Prove the row's statement (the work); the ties are given (YtlgfpddiebdmaaaGreatDoorTie.lean); close each card by the builder's one call (the guide's Derived/Test/ToyasCard.lean, 'card_holds'). Laid BY PROGRAM, IN A SANDBOX (cutbox-door.mjs). By AI agents, Wed Nov 11 2026. No macro, syntax, notation, axiom, sorry.
-/
import Derived.Test.YtlgfpddiebdmaaaGreatDoorRows
import GoSem.ClaimSeven
namespace Go.Proofs.YtlgfpddiebdmaaaGreatDoor
namespace Rows

/-- THE TIED CARD OF 'arcadelaw3.CpuHidden'. -/
def cpuHiddenCard : Claim7 := { stood := { row := cpuHiddenRow, standIns := [], harness := (true, "ccec7872bd9fd49760934f35ccc4c92b632be30c9b1b032e154f09249ab238b5"), looks := false }, kinds := [], alts := [], laidByText := true, laidKinds := [.data], laidTests := true, laidLooks := .later }
def CpuHiddenCardSaid : Prop := Claim7.holds Tryz.pinned (.plain (OpenSpec.ofChange cpuHiddenSpec)) cpuHiddenCard

/-- THE TIED CARD OF 'arcadelaw3.CpuLoads'. -/
def cpuLoadsCard : Claim7 := { stood := { row := cpuLoadsRow, standIns := [], harness := (true, "ccec7872bd9fd49760934f35ccc4c92b632be30c9b1b032e154f09249ab238b5"), looks := false }, kinds := [], alts := [], laidByText := true, laidKinds := [.data], laidTests := true, laidLooks := .later }
def CpuLoadsCardSaid : Prop := Claim7.holds Tryz.pinned (.plain (OpenSpec.ofChange cpuLoadsSpec)) cpuLoadsCard

/-- THE TIED CARD OF 'arcadelaw3.CpuCut'. -/
def cpuCutCard : Claim7 := { stood := { row := cpuCutRow, standIns := [], harness := (true, "ccec7872bd9fd49760934f35ccc4c92b632be30c9b1b032e154f09249ab238b5"), looks := false }, kinds := [], alts := [], laidByText := true, laidKinds := [.data], laidTests := true, laidLooks := .later }
def CpuCutCardSaid : Prop := Claim7.holds Tryz.pinned (.plain (OpenSpec.ofChange cpuCutSpec)) cpuCutCard

/-- THE SECOND FORM's CARD OF 'arcadelaw3.CpuHidden'. -/
def cpuHiddenUptoCard : Claim7 := { stood := { row := cpuHiddenUptoRow, standIns := [], harness := (true, "ccec7872bd9fd49760934f35ccc4c92b632be30c9b1b032e154f09249ab238b5"), looks := false }, kinds := [], alts := [], laidByText := true, laidKinds := [.data], laidTests := true, laidLooks := .later }
def CpuHiddenUptoCardSaid : Prop := Claim7.holds Tryz.pinned (.plain (OpenSpec.upto cpuHiddenSpec)) cpuHiddenUptoCard

/-- THE SECOND FORM's CARD OF 'arcadelaw3.CpuLoads'. -/
def cpuLoadsUptoCard : Claim7 := { stood := { row := cpuLoadsUptoRow, standIns := [], harness := (true, "ccec7872bd9fd49760934f35ccc4c92b632be30c9b1b032e154f09249ab238b5"), looks := false }, kinds := [], alts := [], laidByText := true, laidKinds := [.data], laidTests := true, laidLooks := .later }
def CpuLoadsUptoCardSaid : Prop := Claim7.holds Tryz.pinned (.plain (OpenSpec.upto cpuLoadsSpec)) cpuLoadsUptoCard

/-- THE SECOND FORM's CARD OF 'arcadelaw3.CpuCut'. -/
def cpuCutUptoCard : Claim7 := { stood := { row := cpuCutUptoRow, standIns := [], harness := (true, "ccec7872bd9fd49760934f35ccc4c92b632be30c9b1b032e154f09249ab238b5"), looks := false }, kinds := [], alts := [], laidByText := true, laidKinds := [.data], laidTests := true, laidLooks := .later }
def CpuCutUptoCardSaid : Prop := Claim7.holds Tryz.pinned (.plain (OpenSpec.upto cpuCutSpec)) cpuCutUptoCard
end Rows
end Go.Proofs.YtlgfpddiebdmaaaGreatDoor
