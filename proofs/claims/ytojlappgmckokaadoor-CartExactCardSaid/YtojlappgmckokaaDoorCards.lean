/-
  DERIVED. GIVEN WITH THE SEED: THE CARDS: each row of YtojlappgmckokaaDoorRows.lean that lists a variable, with what it lists TIED to the program's text (the seventh form; the later family's looks); each row that meets fmt, with fmt's text TOLD by the authors' own Lean function (tested against real Go, not proved from fmt's source: count such statements apart). THE CARD IS WHAT COUNTS. Prove the row's statement (the work); the ties are given (YtojlappgmckokaaDoorTie.lean); close each card by the builder's one call (the guide's Derived/Test/ToyasCard.lean, 'card_holds'). Laid BY PROGRAM, IN A SANDBOX (cutbox-door.mjs). By AI agents, Wed Nov 11 2026. No macro, syntax, notation, axiom, sorry.
-/
import Derived.Test.YtojlappgmckokaaDoorRows
import GoSem.ClaimSeven
namespace Go.Proofs.YtojlappgmckokaaDoor
namespace Rows

/-- THE TIED CARD OF 'arcadelaw4.CartChecks'. -/
def cartChecksCard : Claim7 := { stood := { row := cartChecksRow, standIns := [], harness := (true, "f6d4fad835ca792670c72d1ebafe4a1b59612f0a13e2676546f4fb9beb766307"), looks := true }, kinds := [], alts := [], laidByText := true, laidKinds := [.data, .data], laidTests := true, laidLooks := .later }
def CartChecksCardSaid : Prop := Claim7.holds Tryd.pinned (.plain (OpenSpec.ofChange cartChecksSpec)) cartChecksCard

/-- THE TIED CARD OF 'arcadelaw4.CartStrict'. -/
def cartStrictCard : Claim7 := { stood := { row := cartStrictRow, standIns := [], harness := (true, "f6d4fad835ca792670c72d1ebafe4a1b59612f0a13e2676546f4fb9beb766307"), looks := true }, kinds := [], alts := [], laidByText := true, laidKinds := [.data, .data, .data], laidTests := true, laidLooks := .later }
def CartStrictCardSaid : Prop := Claim7.holds Tryd.pinned (.plain (OpenSpec.ofChange cartStrictSpec)) cartStrictCard

/-- THE TIED CARD OF 'arcadelaw4.CartBanks'. -/
def cartBanksCard : Claim7 := { stood := { row := cartBanksRow, standIns := [], harness := (true, "f6d4fad835ca792670c72d1ebafe4a1b59612f0a13e2676546f4fb9beb766307"), looks := true }, kinds := [], alts := [], laidByText := true, laidKinds := [.data, .data, .data], laidTests := true, laidLooks := .later }
def CartBanksCardSaid : Prop := Claim7.holds Tryd.pinned (.plain (OpenSpec.ofChange cartBanksSpec)) cartBanksCard

/-- THE TIED CARD OF 'arcadelaw4.CartRam'. -/
def cartRamCard : Claim7 := { stood := { row := cartRamRow, standIns := [], harness := (true, "f6d4fad835ca792670c72d1ebafe4a1b59612f0a13e2676546f4fb9beb766307"), looks := true }, kinds := [], alts := [], laidByText := true, laidKinds := [.data, .data, .data], laidTests := true, laidLooks := .later }
def CartRamCardSaid : Prop := Claim7.holds Tryd.pinned (.plain (OpenSpec.ofChange cartRamSpec)) cartRamCard

/-- THE TIED CARD OF 'arcadelaw4.CartFirm'. -/
def cartFirmCard : Claim7 := { stood := { row := cartFirmRow, standIns := [], harness := (true, "f6d4fad835ca792670c72d1ebafe4a1b59612f0a13e2676546f4fb9beb766307"), looks := true }, kinds := [], alts := [], laidByText := true, laidKinds := [.data, .data], laidTests := true, laidLooks := .later }
def CartFirmCardSaid : Prop := Claim7.holds Tryd.pinned (.plain (OpenSpec.ofChange cartFirmSpec)) cartFirmCard

/-- THE TIED CARD OF 'arcadelaw4.CartKept'. -/
def cartKeptCard : Claim7 := { stood := { row := cartKeptRow, standIns := [], harness := (true, "f6d4fad835ca792670c72d1ebafe4a1b59612f0a13e2676546f4fb9beb766307"), looks := true }, kinds := [], alts := [], laidByText := true, laidKinds := [.data, .data], laidTests := true, laidLooks := .later }
def CartKeptCardSaid : Prop := Claim7.holds Tryd.pinned (.plain (OpenSpec.ofChange cartKeptSpec)) cartKeptCard

/-- THE TIED CARD OF 'arcadelaw4.CartSaves'. -/
def cartSavesCard : Claim7 := { stood := { row := cartSavesRow, standIns := [], harness := (true, "f6d4fad835ca792670c72d1ebafe4a1b59612f0a13e2676546f4fb9beb766307"), looks := true }, kinds := [], alts := [], laidByText := true, laidKinds := [.data, .data, .data], laidTests := true, laidLooks := .later }
def CartSavesCardSaid : Prop := Claim7.holds Tryd.pinned (.plain (OpenSpec.ofChange cartSavesSpec)) cartSavesCard

/-- THE TIED CARD OF 'arcadelaw4.CartExact'. -/
def cartExactCard : Claim7 := { stood := { row := cartExactRow, standIns := [], harness := (true, "f6d4fad835ca792670c72d1ebafe4a1b59612f0a13e2676546f4fb9beb766307"), looks := true }, kinds := [], alts := [], laidByText := true, laidKinds := [.data, .data], laidTests := true, laidLooks := .later }
def CartExactCardSaid : Prop := Claim7.holds Tryd.pinned (.plain (OpenSpec.ofChange cartExactSpec)) cartExactCard

/-- THE SECOND FORM's CARD OF 'arcadelaw4.CartChecks'. -/
def cartChecksUptoCard : Claim7 := { stood := { row := cartChecksUptoRow, standIns := [], harness := (true, "f6d4fad835ca792670c72d1ebafe4a1b59612f0a13e2676546f4fb9beb766307"), looks := true }, kinds := [], alts := [], laidByText := true, laidKinds := [.data, .data], laidTests := true, laidLooks := .later }
def CartChecksUptoCardSaid : Prop := Claim7.holds Tryd.pinned (.plain (OpenSpec.upto cartChecksSpec)) cartChecksUptoCard

/-- THE SECOND FORM's CARD OF 'arcadelaw4.CartStrict'. -/
def cartStrictUptoCard : Claim7 := { stood := { row := cartStrictUptoRow, standIns := [], harness := (true, "f6d4fad835ca792670c72d1ebafe4a1b59612f0a13e2676546f4fb9beb766307"), looks := true }, kinds := [], alts := [], laidByText := true, laidKinds := [.data, .data, .data], laidTests := true, laidLooks := .later }
def CartStrictUptoCardSaid : Prop := Claim7.holds Tryd.pinned (.plain (OpenSpec.upto cartStrictSpec)) cartStrictUptoCard

/-- THE SECOND FORM's CARD OF 'arcadelaw4.CartBanks'. -/
def cartBanksUptoCard : Claim7 := { stood := { row := cartBanksUptoRow, standIns := [], harness := (true, "f6d4fad835ca792670c72d1ebafe4a1b59612f0a13e2676546f4fb9beb766307"), looks := true }, kinds := [], alts := [], laidByText := true, laidKinds := [.data, .data, .data], laidTests := true, laidLooks := .later }
def CartBanksUptoCardSaid : Prop := Claim7.holds Tryd.pinned (.plain (OpenSpec.upto cartBanksSpec)) cartBanksUptoCard

/-- THE SECOND FORM's CARD OF 'arcadelaw4.CartRam'. -/
def cartRamUptoCard : Claim7 := { stood := { row := cartRamUptoRow, standIns := [], harness := (true, "f6d4fad835ca792670c72d1ebafe4a1b59612f0a13e2676546f4fb9beb766307"), looks := true }, kinds := [], alts := [], laidByText := true, laidKinds := [.data, .data, .data], laidTests := true, laidLooks := .later }
def CartRamUptoCardSaid : Prop := Claim7.holds Tryd.pinned (.plain (OpenSpec.upto cartRamSpec)) cartRamUptoCard

/-- THE SECOND FORM's CARD OF 'arcadelaw4.CartFirm'. -/
def cartFirmUptoCard : Claim7 := { stood := { row := cartFirmUptoRow, standIns := [], harness := (true, "f6d4fad835ca792670c72d1ebafe4a1b59612f0a13e2676546f4fb9beb766307"), looks := true }, kinds := [], alts := [], laidByText := true, laidKinds := [.data, .data], laidTests := true, laidLooks := .later }
def CartFirmUptoCardSaid : Prop := Claim7.holds Tryd.pinned (.plain (OpenSpec.upto cartFirmSpec)) cartFirmUptoCard

/-- THE SECOND FORM's CARD OF 'arcadelaw4.CartKept'. -/
def cartKeptUptoCard : Claim7 := { stood := { row := cartKeptUptoRow, standIns := [], harness := (true, "f6d4fad835ca792670c72d1ebafe4a1b59612f0a13e2676546f4fb9beb766307"), looks := true }, kinds := [], alts := [], laidByText := true, laidKinds := [.data, .data], laidTests := true, laidLooks := .later }
def CartKeptUptoCardSaid : Prop := Claim7.holds Tryd.pinned (.plain (OpenSpec.upto cartKeptSpec)) cartKeptUptoCard

/-- THE SECOND FORM's CARD OF 'arcadelaw4.CartSaves'. -/
def cartSavesUptoCard : Claim7 := { stood := { row := cartSavesUptoRow, standIns := [], harness := (true, "f6d4fad835ca792670c72d1ebafe4a1b59612f0a13e2676546f4fb9beb766307"), looks := true }, kinds := [], alts := [], laidByText := true, laidKinds := [.data, .data, .data], laidTests := true, laidLooks := .later }
def CartSavesUptoCardSaid : Prop := Claim7.holds Tryd.pinned (.plain (OpenSpec.upto cartSavesSpec)) cartSavesUptoCard

/-- THE SECOND FORM's CARD OF 'arcadelaw4.CartExact'. -/
def cartExactUptoCard : Claim7 := { stood := { row := cartExactUptoRow, standIns := [], harness := (true, "f6d4fad835ca792670c72d1ebafe4a1b59612f0a13e2676546f4fb9beb766307"), looks := true }, kinds := [], alts := [], laidByText := true, laidKinds := [.data, .data], laidTests := true, laidLooks := .later }
def CartExactUptoCardSaid : Prop := Claim7.holds Tryd.pinned (.plain (OpenSpec.upto cartExactSpec)) cartExactUptoCard
end Rows
end Go.Proofs.YtojlappgmckokaaDoor
