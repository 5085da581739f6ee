/-
  DERIVED. GIVEN WITH THE SEED: THE PROGRAM's TIES (one call each: nine closed facts by the kernel) AND EACH ROW's TIE, after the 31st guide's Derived/Test/Toyas{Tie, Card}.lean. No idea stands in it: it is a product of the set-up. Laid BY PROGRAM, IN A SANDBOX (cutbox-door.mjs). By AI agents, Wed Nov 11 2026. No macro, syntax, notation, axiom, sorry.
-/
import Derived.Test.YtojlappgmckokaaDoorRows
import Derived.LaidByTextLater
import Derived.SevenTiedAt
import Derived.LaidSub
import Derived.LaidOnce
namespace Go.Proofs.YtojlappgmckokaaDoor
open Go
set_option maxRecDepth 100000
theorem seatTie1 : Tryd.prog.laidByTextLater [("arcade/cart.rows", Rows.laid_arcade_cart_rows), ("arcade/cart.ramSizes", Rows.laid_arcade_cart_ramSizes), ("arcade/arcadelaw4.types", Rows.laid_arcade_arcadelaw4_types)] [.data, .data, .data] true :=
  Program.laidByTextLater_by_one 38 8 85 (by kernel_rfl) (by kernel_rfl) (by kernel_rfl) (by kernel_rfl) (by kernel_rfl) (by kernel_rfl) (fun _ _ => by kernel_rfl)
theorem noOwnUnsafe : Tryd.pinned.checked.prog.headLifts.contains "ownunsafe" = false := by kernel_rfl
theorem tie : Tryd.prog.laidByTextLater [("arcade/cart.rows", Rows.laid_arcade_cart_rows), ("arcade/cart.ramSizes", Rows.laid_arcade_cart_ramSizes)] [.data, .data] true :=
  Program.laidByTextLater.sub seatTie1 ["arcade/cart.rows", "arcade/cart.ramSizes"] (by kernel_rfl) (by kernel_rfl)
theorem cartChecks_row_tie : Rows.cartChecksRow.laidByTextAt .later Tryd.pinned [.data, .data] true :=
  OpenClaim.laidByTextAt_later rfl rfl tie noOwnUnsafe
theorem cartFirm_row_tie : Rows.cartFirmRow.laidByTextAt .later Tryd.pinned [.data, .data] true :=
  OpenClaim.laidByTextAt_later rfl rfl tie noOwnUnsafe
theorem cartKept_row_tie : Rows.cartKeptRow.laidByTextAt .later Tryd.pinned [.data, .data] true :=
  OpenClaim.laidByTextAt_later rfl rfl tie noOwnUnsafe
theorem cartExact_row_tie : Rows.cartExactRow.laidByTextAt .later Tryd.pinned [.data, .data] true :=
  OpenClaim.laidByTextAt_later rfl rfl tie noOwnUnsafe
theorem tie2 : Tryd.prog.laidByTextLater [("arcade/cart.rows", Rows.laid_arcade_cart_rows), ("arcade/cart.ramSizes", Rows.laid_arcade_cart_ramSizes), ("arcade/arcadelaw4.types", Rows.laid_arcade_arcadelaw4_types)] [.data, .data, .data] true :=
  Program.laidByTextLater.sub seatTie1 ["arcade/cart.rows", "arcade/cart.ramSizes", "arcade/arcadelaw4.types"] (by kernel_rfl) (by kernel_rfl)
theorem cartStrict_row_tie : Rows.cartStrictRow.laidByTextAt .later Tryd.pinned [.data, .data, .data] true :=
  OpenClaim.laidByTextAt_later rfl rfl tie2 noOwnUnsafe
theorem cartBanks_row_tie : Rows.cartBanksRow.laidByTextAt .later Tryd.pinned [.data, .data, .data] true :=
  OpenClaim.laidByTextAt_later rfl rfl tie2 noOwnUnsafe
theorem cartRam_row_tie : Rows.cartRamRow.laidByTextAt .later Tryd.pinned [.data, .data, .data] true :=
  OpenClaim.laidByTextAt_later rfl rfl tie2 noOwnUnsafe
theorem cartSaves_row_tie : Rows.cartSavesRow.laidByTextAt .later Tryd.pinned [.data, .data, .data] true :=
  OpenClaim.laidByTextAt_later rfl rfl tie2 noOwnUnsafe
theorem cartChecksUpto_row_tie : Rows.cartChecksUptoRow.laidByTextAt .later Tryd.pinned [.data, .data] true :=
  OpenClaim.laidByTextAt_later rfl rfl tie noOwnUnsafe
theorem cartStrictUpto_row_tie : Rows.cartStrictUptoRow.laidByTextAt .later Tryd.pinned [.data, .data, .data] true :=
  OpenClaim.laidByTextAt_later rfl rfl tie2 noOwnUnsafe
theorem cartBanksUpto_row_tie : Rows.cartBanksUptoRow.laidByTextAt .later Tryd.pinned [.data, .data, .data] true :=
  OpenClaim.laidByTextAt_later rfl rfl tie2 noOwnUnsafe
theorem cartRamUpto_row_tie : Rows.cartRamUptoRow.laidByTextAt .later Tryd.pinned [.data, .data, .data] true :=
  OpenClaim.laidByTextAt_later rfl rfl tie2 noOwnUnsafe
theorem cartFirmUpto_row_tie : Rows.cartFirmUptoRow.laidByTextAt .later Tryd.pinned [.data, .data] true :=
  OpenClaim.laidByTextAt_later rfl rfl tie noOwnUnsafe
theorem cartKeptUpto_row_tie : Rows.cartKeptUptoRow.laidByTextAt .later Tryd.pinned [.data, .data] true :=
  OpenClaim.laidByTextAt_later rfl rfl tie noOwnUnsafe
theorem cartSavesUpto_row_tie : Rows.cartSavesUptoRow.laidByTextAt .later Tryd.pinned [.data, .data, .data] true :=
  OpenClaim.laidByTextAt_later rfl rfl tie2 noOwnUnsafe
theorem cartExactUpto_row_tie : Rows.cartExactUptoRow.laidByTextAt .later Tryd.pinned [.data, .data] true :=
  OpenClaim.laidByTextAt_later rfl rfl tie noOwnUnsafe
end Go.Proofs.YtojlappgmckokaaDoor
