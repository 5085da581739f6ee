/-
  DERIVED. GIVEN WITH THE SEED: THE CARDS: each row of YtlbcodjkcjjoeaaDoorRows.lean that lists a variable, with what it lists TIED to the program's text (the seventh form; the later family's looks); each row that meets fmt, with fmt's text TOLD by the authors' own Lean function (tested against real Go, not proved from fmt's source: count such statements apart). THE CARD IS WHAT COUNTS. Prove the row's statement (the work); the ties are given (YtlbcodjkcjjoeaaDoorTie.lean); close each card by the builder's one call (the guide's Derived/Test/ToyasCard.lean, 'card_holds'). Laid BY PROGRAM, IN A SANDBOX (cutbox-door.mjs). By AI agents, Wed Nov 11 2026. No macro, syntax, notation, axiom, sorry.
-/
import Derived.Test.YtlbcodjkcjjoeaaDoorRows
import GoSem.ClaimSeven
namespace Go.Proofs.YtlbcodjkcjjoeaaDoor
namespace Rows

/-- THE TIED CARD OF 'arcadelaw1.AluRound'. -/
def aluRoundCard : Claim7 := { stood := { row := aluRoundRow, standIns := [], harness := (true, "8bbebffced923f90158d8454e8c8e375c134ef7765a228edfc2569966a462da0"), looks := false }, kinds := [], alts := [], laidByText := true, laidKinds := [.data], laidTests := true, laidLooks := .later }
def AluRoundCardSaid : Prop := Claim7.holds Tryd.pinned (.plain (OpenSpec.ofChange aluRoundSpec)) aluRoundCard

/-- THE TIED CARD OF 'arcadelaw1.AluBits'. -/
def aluBitsCard : Claim7 := { stood := { row := aluBitsRow, standIns := [], harness := (true, "8bbebffced923f90158d8454e8c8e375c134ef7765a228edfc2569966a462da0"), looks := false }, kinds := [], alts := [], laidByText := true, laidKinds := [.data], laidTests := true, laidLooks := .later }
def AluBitsCardSaid : Prop := Claim7.holds Tryd.pinned (.plain (OpenSpec.ofChange aluBitsSpec)) aluBitsCard

/-- THE SECOND FORM's CARD OF 'arcadelaw1.AluRound'. -/
def aluRoundUptoCard : Claim7 := { stood := { row := aluRoundUptoRow, standIns := [], harness := (true, "8bbebffced923f90158d8454e8c8e375c134ef7765a228edfc2569966a462da0"), looks := false }, kinds := [], alts := [], laidByText := true, laidKinds := [.data], laidTests := true, laidLooks := .later }
def AluRoundUptoCardSaid : Prop := Claim7.holds Tryd.pinned (.plain (OpenSpec.upto aluRoundSpec)) aluRoundUptoCard

/-- THE SECOND FORM's CARD OF 'arcadelaw1.AluBits'. -/
def aluBitsUptoCard : Claim7 := { stood := { row := aluBitsUptoRow, standIns := [], harness := (true, "8bbebffced923f90158d8454e8c8e375c134ef7765a228edfc2569966a462da0"), looks := false }, kinds := [], alts := [], laidByText := true, laidKinds := [.data], laidTests := true, laidLooks := .later }
def AluBitsUptoCardSaid : Prop := Claim7.holds Tryd.pinned (.plain (OpenSpec.upto aluBitsSpec)) aluBitsUptoCard
end Rows
end Go.Proofs.YtlbcodjkcjjoeaaDoor
