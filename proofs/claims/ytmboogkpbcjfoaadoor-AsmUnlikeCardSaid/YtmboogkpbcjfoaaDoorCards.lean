/-
  DERIVED. GIVEN WITH THE SEED: THE CARDS: each row of YtmboogkpbcjfoaaDoorRows.lean that lists a variable, with what it lists TIED to the program's text (the seventh form; the later family's looks); each row that meets fmt, with fmt's text TOLD by the authors' own Lean function (tested against real Go, not proved from fmt's source: count such statements apart). THE CARD IS WHAT COUNTS. Prove the row's statement (the work); the ties are given (YtmboogkpbcjfoaaDoorTie.lean); close each card by the builder's one call (the guide's Derived/Test/ToyasCard.lean, 'card_holds'). Laid BY PROGRAM, IN A SANDBOX (cutbox-door.mjs). By AI agents, Wed Nov 11 2026. No macro, syntax, notation, axiom, sorry.
-/
import Derived.Test.YtmboogkpbcjfoaaDoorRows
import GoSem.ClaimSeven
namespace Go.Proofs.YtmboogkpbcjfoaaDoor
namespace Rows

/-- THE TIED CARD OF 'arcadelaw2.AsmUnlike'. -/
def asmUnlikeCard : Claim7 := { stood := { row := asmUnlikeRow, standIns := [], harness := (true, "cef841f12a95000a08c4b034c538048fdd278968b6128869666b47edb9a29a8c"), looks := false }, kinds := [], alts := [], laidByText := true, laidKinds := [.data, .data, .data, .data, .data, .data, .data, .data, .data, .data, .data, .data, .pinned], laidTests := true, laidLooks := .later }
def AsmUnlikeCardSaid : Prop := Claim7.holds Tryd.pinned (.plain (OpenSpec.ofChange asmUnlikeSpec)) asmUnlikeCard

/-- THE SECOND FORM's CARD OF 'arcadelaw2.AsmUnlike'. -/
def asmUnlikeUptoCard : Claim7 := { stood := { row := asmUnlikeUptoRow, standIns := [], harness := (true, "cef841f12a95000a08c4b034c538048fdd278968b6128869666b47edb9a29a8c"), looks := false }, kinds := [], alts := [], laidByText := true, laidKinds := [.data, .data, .data, .data, .data, .data, .data, .data, .data, .data, .data, .data, .pinned], laidTests := true, laidLooks := .later }
def AsmUnlikeUptoCardSaid : Prop := Claim7.holds Tryd.pinned (.plain (OpenSpec.upto asmUnlikeSpec)) asmUnlikeUptoCard
end Rows
end Go.Proofs.YtmboogkpbcjfoaaDoor
