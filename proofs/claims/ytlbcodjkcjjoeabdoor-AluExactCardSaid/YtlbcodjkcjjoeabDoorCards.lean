/-
  DERIVED. GIVEN WITH THE SEED: THE CARDS: each row of YtlbcodjkcjjoeabDoorRows.lean that lists a variable, with what it lists TIED to the program's text (the seventh form; the later family's looks); each row that meets fmt, with fmt's text TOLD by the authors' own Lean function (tested against real Go, not proved from fmt's source: count such statements apart). THE CARD IS WHAT COUNTS. Prove the row's statement (the work); the ties are given (YtlbcodjkcjjoeabDoorTie.lean); close each card by the builder's one call (the guide's Derived/Test/ToyasCard.lean, 'card_holds'). Laid BY PROGRAM, IN A SANDBOX (cutbox-door.mjs). By AI agents, Wed Nov 11 2026. No macro, syntax, notation, axiom, sorry.
-/
import Derived.Test.YtlbcodjkcjjoeabDoorRows
import GoSem.ClaimSeven
namespace Go.Proofs.YtlbcodjkcjjoeabDoor
namespace Rows

/-- THE TIED CARD OF 'arcadelaw1.AluDecimal'. -/
def aluDecimalCard : Claim7 := { stood := { row := aluDecimalRow, standIns := [], harness := (true, "e6a8b69185910cc5c7d604f3c993dc141dc36939c123517ac00518a85f31bb88"), looks := false }, kinds := [], alts := [], laidByText := true, laidKinds := [.data], laidTests := true, laidLooks := .later }
def AluDecimalCardSaid : Prop := Claim7.holds Tryd.pinned (.plain (OpenSpec.ofChange aluDecimalSpec)) aluDecimalCard

/-- THE TIED CARD OF 'arcadelaw1.AluExact'. -/
def aluExactCard : Claim7 := { stood := { row := aluExactRow, standIns := [], harness := (true, "e6a8b69185910cc5c7d604f3c993dc141dc36939c123517ac00518a85f31bb88"), looks := false }, kinds := [], alts := [], laidByText := true, laidKinds := [.data], laidTests := true, laidLooks := .later }
def AluExactCardSaid : Prop := Claim7.holds Tryd.pinned (.plain (OpenSpec.ofChange aluExactSpec)) aluExactCard

/-- THE SECOND FORM's CARD OF 'arcadelaw1.AluDecimal'. -/
def aluDecimalUptoCard : Claim7 := { stood := { row := aluDecimalUptoRow, standIns := [], harness := (true, "e6a8b69185910cc5c7d604f3c993dc141dc36939c123517ac00518a85f31bb88"), looks := false }, kinds := [], alts := [], laidByText := true, laidKinds := [.data], laidTests := true, laidLooks := .later }
def AluDecimalUptoCardSaid : Prop := Claim7.holds Tryd.pinned (.plain (OpenSpec.upto aluDecimalSpec)) aluDecimalUptoCard

/-- THE SECOND FORM's CARD OF 'arcadelaw1.AluExact'. -/
def aluExactUptoCard : Claim7 := { stood := { row := aluExactUptoRow, standIns := [], harness := (true, "e6a8b69185910cc5c7d604f3c993dc141dc36939c123517ac00518a85f31bb88"), looks := false }, kinds := [], alts := [], laidByText := true, laidKinds := [.data], laidTests := true, laidLooks := .later }
def AluExactUptoCardSaid : Prop := Claim7.holds Tryd.pinned (.plain (OpenSpec.upto aluExactSpec)) aluExactUptoCard
end Rows
end Go.Proofs.YtlbcodjkcjjoeabDoor
