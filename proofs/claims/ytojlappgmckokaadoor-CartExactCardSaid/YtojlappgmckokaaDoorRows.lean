/-
  NARROWER THAN 'FOR EVERY INPUT', by the rows' own cells (each row's printed sentence says how): CartChecks: laid · CartStrict: laid · CartBanks: laid · CartRam: laid · CartFirm: laid · CartKept: laid · CartSaves: laid · CartExact: laid.
  DERIVED. THE GIVEN ROWS OF THIS SEAT. 8 by the template 'for every input the law returns true; each argument reads behind the call as it read before'; 0 by the template 'total and deterministic' (their statements: YtojlappgmckokaaDoorTotals.lean).
  GIVEN WITH THE SEED: the statements are not yours to turn. If you find one false, say at which input.
  Laid BY PROGRAM, IN A SANDBOX (cutbox-rows.mjs): the forced cells as the released guide's own fill.sh prints them over the translation d9a39320e4930a39… (all of the seat's roots in one cut). By AI agents, Wed Nov 11 2026. No macro, syntax, notation, axiom, sorry.
-/
import Derived.Test.YtojlappgmckokaaDoorChecked
import GoSem.Claim
import GoSem.ClaimJoined
import GoSem.ClaimMapViews
import Derived.JoinedTies
import Derived.KernelRfl
namespace Go.Proofs.YtojlappgmckokaaDoor
/- THE CELL 'sum', in the pinned program and in every row, IS THE sha256 OF THE DUMP (.gsa) THAT YtojlappgmckokaaDoorProg.lean LOADS. Nothing in Lean hashes anything: it is a label: what it is worth is what the hold of that sum in a sandbox is worth. -/
noncomputable def Tryd.pinned : Pinned := { name := "ytojlappgmckokaadoor", sum := "d9a39320e4930a398a109cfe05d325846b4fc21e049cc05b8a01f833441fd4ea", checked := Tryd.checked }
namespace Rows
def none {H : Type} : Left H := { results := [], args := [] }

/- WHAT THE LISTED PACKAGE-LEVEL VARIABLES READ AS WHEN THE CALL BEGINS. Each datum BY PROGRAM (the guide's laid-datum.mjs) off the statement by which the dump's own 'gosem.cut.vars' lays the variable. In a bare row this is a premise. The card (YtojlappgmckokaaDoorCards.lean) ties it to the program's text. -/
def laid_arcade_cart_rows {H : Type} : DataW H := .agg [.agg [.lit (.int .u8 0), .lit (.int .i64 0), .lit (.int .i64 2), .lit (.int .u8 0), .lit (.int .u8 0), .lit (.bool false)], .agg [.lit (.int .u8 8), .lit (.int .i64 0), .lit (.int .i64 2), .lit (.int .u8 2), .lit (.int .u8 2), .lit (.bool false)], .agg [.lit (.int .u8 9), .lit (.int .i64 0), .lit (.int .i64 2), .lit (.int .u8 2), .lit (.int .u8 2), .lit (.bool true)], .agg [.lit (.int .u8 1), .lit (.int .i64 1), .lit (.int .i64 128), .lit (.int .u8 0), .lit (.int .u8 0), .lit (.bool false)], .agg [.lit (.int .u8 2), .lit (.int .i64 1), .lit (.int .i64 128), .lit (.int .u8 2), .lit (.int .u8 3), .lit (.bool false)], .agg [.lit (.int .u8 3), .lit (.int .i64 1), .lit (.int .i64 128), .lit (.int .u8 2), .lit (.int .u8 3), .lit (.bool true)], .agg [.lit (.int .u8 5), .lit (.int .i64 2), .lit (.int .i64 16), .lit (.int .u8 0), .lit (.int .u8 0), .lit (.bool false)], .agg [.lit (.int .u8 6), .lit (.int .i64 2), .lit (.int .i64 16), .lit (.int .u8 0), .lit (.int .u8 0), .lit (.bool true)], .agg [.lit (.int .u8 17), .lit (.int .i64 3), .lit (.int .i64 128), .lit (.int .u8 0), .lit (.int .u8 0), .lit (.bool false)], .agg [.lit (.int .u8 18), .lit (.int .i64 3), .lit (.int .i64 128), .lit (.int .u8 2), .lit (.int .u8 3), .lit (.bool false)], .agg [.lit (.int .u8 19), .lit (.int .i64 3), .lit (.int .i64 128), .lit (.int .u8 2), .lit (.int .u8 3), .lit (.bool true)], .agg [.lit (.int .u8 25), .lit (.int .i64 5), .lit (.int .i64 128), .lit (.int .u8 0), .lit (.int .u8 0), .lit (.bool false)], .agg [.lit (.int .u8 26), .lit (.int .i64 5), .lit (.int .i64 128), .lit (.int .u8 2), .lit (.int .u8 5), .lit (.bool false)], .agg [.lit (.int .u8 27), .lit (.int .i64 5), .lit (.int .i64 128), .lit (.int .u8 2), .lit (.int .u8 5), .lit (.bool true)]]
def laid_arcade_cart_ramSizes {H : Type} : DataW H := .agg [.lit (.int .i64 0), .lit (.int .i64 0), .lit (.int .i64 8192), .lit (.int .i64 32768), .lit (.int .i64 131072), .lit (.int .i64 65536)]
def laid_arcade_arcadelaw4_types {H : Type} : DataW H := .slice [.lit (.int .i64 0), .lit (.int .i64 1), .lit (.int .i64 5), .lit (.int .i64 17), .lit (.int .i64 25), .lit (.int .i64 9), .lit (.int .i64 3), .lit (.int .i64 6), .lit (.int .i64 19), .lit (.int .i64 27)] []

/-- 'arcadelaw4.CartChecks': WHATEVER THE INPUT: true; the input reads as it did. -/
def cartChecksSpec : ChangeSpec := { name := "cartChecks", fn := fun _ => fun
  | [d] => { results := [.lit (.bool true)], args := [d] }
  | _ => none }
def cartChecksRow : OpenClaim := { program := "ytojlappgmckokaadoor", sum := "d9a39320e4930a398a109cfe05d325846b4fc21e049cc05b8a01f833441fd4ea", func := "arcade/arcadelaw4.CartChecks", spec := "cartChecks", inPlace := ["internal/bytealg.IndexByte", "internal/bytealg.Index"], named := ["arcade/cart.rows", "internal/bytealg.MaxLen", "arcade/cart.ramSizes"], apart := false, laid := [("arcade/cart.rows", laid_arcade_cart_rows), ("arcade/cart.ramSizes", laid_arcade_cart_ramSizes)] }
def CartChecksSaid : Prop := cartChecksRow.holds Tryd.pinned (OpenSpec.ofChange cartChecksSpec)

/-- ITS FALSE NEIGHBOUR: 'it returns false'. Refute it at one input. -/
def cartChecksWrong : ChangeSpec := { name := "cartChecks", fn := fun _ => fun
  | [d] => { results := [.lit (.bool false)], args := [d] }
  | _ => none }
def CartChecksWrongFalsely : Prop := cartChecksRow.holds Tryd.pinned (OpenSpec.ofChange cartChecksWrong)

/-- 'arcadelaw4.CartStrict': WHATEVER THE INPUT: true; the input reads as it did. -/
def cartStrictSpec : ChangeSpec := { name := "cartStrict", fn := fun _ => fun
  | [d1, d2, d3] => { results := [.lit (.bool true)], args := [d1, d2, d3] }
  | _ => none }
def cartStrictRow : OpenClaim := { program := "ytojlappgmckokaadoor", sum := "d9a39320e4930a398a109cfe05d325846b4fc21e049cc05b8a01f833441fd4ea", func := "arcade/arcadelaw4.CartStrict", spec := "cartStrict", inPlace := ["internal/bytealg.IndexByte", "internal/bytealg.Index"], unfollowed := true, recurses := true, named := ["arcade/arcadelaw4.types", "arcade/cart.rows", "internal/bytealg.MaxLen", "arcade/cart.ramSizes"], apart := false, laid := [("arcade/cart.rows", laid_arcade_cart_rows), ("arcade/cart.ramSizes", laid_arcade_cart_ramSizes), ("arcade/arcadelaw4.types", laid_arcade_arcadelaw4_types)] }
def CartStrictSaid : Prop := cartStrictRow.holds Tryd.pinned (OpenSpec.ofChange cartStrictSpec)

/-- ITS FALSE NEIGHBOUR: 'it returns false'. Refute it at one input. -/
def cartStrictWrong : ChangeSpec := { name := "cartStrict", fn := fun _ => fun
  | [d1, d2, d3] => { results := [.lit (.bool false)], args := [d1, d2, d3] }
  | _ => none }
def CartStrictWrongFalsely : Prop := cartStrictRow.holds Tryd.pinned (OpenSpec.ofChange cartStrictWrong)

/-- 'arcadelaw4.CartBanks': WHATEVER THE INPUT: true; the input reads as it did. -/
def cartBanksSpec : ChangeSpec := { name := "cartBanks", fn := fun _ => fun
  | [d1, d2, d3, d4, d5] => { results := [.lit (.bool true)], args := [d1, d2, d3, d4, d5] }
  | _ => none }
def cartBanksRow : OpenClaim := { program := "ytojlappgmckokaadoor", sum := "d9a39320e4930a398a109cfe05d325846b4fc21e049cc05b8a01f833441fd4ea", func := "arcade/arcadelaw4.CartBanks", spec := "cartBanks", inPlace := ["internal/bytealg.IndexByte", "internal/bytealg.Index"], unfollowed := true, recurses := true, named := ["arcade/arcadelaw4.types", "arcade/cart.rows", "internal/bytealg.MaxLen", "arcade/cart.ramSizes"], apart := false, laid := [("arcade/cart.rows", laid_arcade_cart_rows), ("arcade/cart.ramSizes", laid_arcade_cart_ramSizes), ("arcade/arcadelaw4.types", laid_arcade_arcadelaw4_types)] }
def CartBanksSaid : Prop := cartBanksRow.holds Tryd.pinned (OpenSpec.ofChange cartBanksSpec)

/-- ITS FALSE NEIGHBOUR: 'it returns false'. Refute it at one input. -/
def cartBanksWrong : ChangeSpec := { name := "cartBanks", fn := fun _ => fun
  | [d1, d2, d3, d4, d5] => { results := [.lit (.bool false)], args := [d1, d2, d3, d4, d5] }
  | _ => none }
def CartBanksWrongFalsely : Prop := cartBanksRow.holds Tryd.pinned (OpenSpec.ofChange cartBanksWrong)

/-- 'arcadelaw4.CartRam': WHATEVER THE INPUT: true; the input reads as it did. -/
def cartRamSpec : ChangeSpec := { name := "cartRam", fn := fun _ => fun
  | [d1, d2, d3, d4, d5] => { results := [.lit (.bool true)], args := [d1, d2, d3, d4, d5] }
  | _ => none }
def cartRamRow : OpenClaim := { program := "ytojlappgmckokaadoor", sum := "d9a39320e4930a398a109cfe05d325846b4fc21e049cc05b8a01f833441fd4ea", func := "arcade/arcadelaw4.CartRam", spec := "cartRam", inPlace := ["internal/bytealg.IndexByte", "internal/bytealg.Index"], unfollowed := true, recurses := true, named := ["arcade/arcadelaw4.types", "arcade/cart.rows", "internal/bytealg.MaxLen", "arcade/cart.ramSizes"], apart := false, laid := [("arcade/cart.rows", laid_arcade_cart_rows), ("arcade/cart.ramSizes", laid_arcade_cart_ramSizes), ("arcade/arcadelaw4.types", laid_arcade_arcadelaw4_types)] }
def CartRamSaid : Prop := cartRamRow.holds Tryd.pinned (OpenSpec.ofChange cartRamSpec)

/-- ITS FALSE NEIGHBOUR: 'it returns false'. Refute it at one input. -/
def cartRamWrong : ChangeSpec := { name := "cartRam", fn := fun _ => fun
  | [d1, d2, d3, d4, d5] => { results := [.lit (.bool false)], args := [d1, d2, d3, d4, d5] }
  | _ => none }
def CartRamWrongFalsely : Prop := cartRamRow.holds Tryd.pinned (OpenSpec.ofChange cartRamWrong)

/-- 'arcadelaw4.CartFirm': WHATEVER THE INPUT: true; the input reads as it did. -/
def cartFirmSpec : ChangeSpec := { name := "cartFirm", fn := fun _ => fun
  | [d1, d2] => { results := [.lit (.bool true)], args := [d1, d2] }
  | _ => none }
def cartFirmRow : OpenClaim := { program := "ytojlappgmckokaadoor", sum := "d9a39320e4930a398a109cfe05d325846b4fc21e049cc05b8a01f833441fd4ea", func := "arcade/arcadelaw4.CartFirm", spec := "cartFirm", inPlace := ["internal/bytealg.IndexByte", "internal/bytealg.Index"], unfollowed := true, recurses := true, named := ["arcade/cart.rows", "internal/bytealg.MaxLen", "arcade/cart.ramSizes"], apart := false, laid := [("arcade/cart.rows", laid_arcade_cart_rows), ("arcade/cart.ramSizes", laid_arcade_cart_ramSizes)] }
def CartFirmSaid : Prop := cartFirmRow.holds Tryd.pinned (OpenSpec.ofChange cartFirmSpec)

/-- ITS FALSE NEIGHBOUR: 'it returns false'. Refute it at one input. -/
def cartFirmWrong : ChangeSpec := { name := "cartFirm", fn := fun _ => fun
  | [d1, d2] => { results := [.lit (.bool false)], args := [d1, d2] }
  | _ => none }
def CartFirmWrongFalsely : Prop := cartFirmRow.holds Tryd.pinned (OpenSpec.ofChange cartFirmWrong)

/-- 'arcadelaw4.CartKept': WHATEVER THE INPUT: true; the input reads as it did. -/
def cartKeptSpec : ChangeSpec := { name := "cartKept", fn := fun _ => fun
  | [d1, d2] => { results := [.lit (.bool true)], args := [d1, d2] }
  | _ => none }
def cartKeptRow : OpenClaim := { program := "ytojlappgmckokaadoor", sum := "d9a39320e4930a398a109cfe05d325846b4fc21e049cc05b8a01f833441fd4ea", func := "arcade/arcadelaw4.CartKept", spec := "cartKept", inPlace := ["internal/bytealg.IndexByte", "internal/bytealg.Index"], unfollowed := true, recurses := true, named := ["arcade/cart.rows", "internal/bytealg.MaxLen", "arcade/cart.ramSizes"], apart := false, laid := [("arcade/cart.rows", laid_arcade_cart_rows), ("arcade/cart.ramSizes", laid_arcade_cart_ramSizes)] }
def CartKeptSaid : Prop := cartKeptRow.holds Tryd.pinned (OpenSpec.ofChange cartKeptSpec)

/-- ITS FALSE NEIGHBOUR: 'it returns false'. Refute it at one input. -/
def cartKeptWrong : ChangeSpec := { name := "cartKept", fn := fun _ => fun
  | [d1, d2] => { results := [.lit (.bool false)], args := [d1, d2] }
  | _ => none }
def CartKeptWrongFalsely : Prop := cartKeptRow.holds Tryd.pinned (OpenSpec.ofChange cartKeptWrong)

/-- 'arcadelaw4.CartSaves': WHATEVER THE INPUT: true; the input reads as it did. -/
def cartSavesSpec : ChangeSpec := { name := "cartSaves", fn := fun _ => fun
  | [d1, d2, d3] => { results := [.lit (.bool true)], args := [d1, d2, d3] }
  | _ => none }
def cartSavesRow : OpenClaim := { program := "ytojlappgmckokaadoor", sum := "d9a39320e4930a398a109cfe05d325846b4fc21e049cc05b8a01f833441fd4ea", func := "arcade/arcadelaw4.CartSaves", spec := "cartSaves", inPlace := ["internal/bytealg.IndexByte", "internal/bytealg.Index"], unfollowed := true, recurses := true, named := ["arcade/arcadelaw4.types", "arcade/cart.rows", "internal/bytealg.MaxLen", "arcade/cart.ramSizes"], apart := false, laid := [("arcade/cart.rows", laid_arcade_cart_rows), ("arcade/cart.ramSizes", laid_arcade_cart_ramSizes), ("arcade/arcadelaw4.types", laid_arcade_arcadelaw4_types)] }
def CartSavesSaid : Prop := cartSavesRow.holds Tryd.pinned (OpenSpec.ofChange cartSavesSpec)

/-- ITS FALSE NEIGHBOUR: 'it returns false'. Refute it at one input. -/
def cartSavesWrong : ChangeSpec := { name := "cartSaves", fn := fun _ => fun
  | [d1, d2, d3] => { results := [.lit (.bool false)], args := [d1, d2, d3] }
  | _ => none }
def CartSavesWrongFalsely : Prop := cartSavesRow.holds Tryd.pinned (OpenSpec.ofChange cartSavesWrong)

/-- 'arcadelaw4.CartExact': WHATEVER THE INPUT: true; the input reads as it did. -/
def cartExactSpec : ChangeSpec := { name := "cartExact", fn := fun _ => fun
  | [d1, d2, d3] => { results := [.lit (.bool true)], args := [d1, d2, d3] }
  | _ => none }
def cartExactRow : OpenClaim := { program := "ytojlappgmckokaadoor", sum := "d9a39320e4930a398a109cfe05d325846b4fc21e049cc05b8a01f833441fd4ea", func := "arcade/arcadelaw4.CartExact", spec := "cartExact", inPlace := ["internal/bytealg.IndexByte", "internal/bytealg.Index"], unfollowed := true, recurses := true, named := ["arcade/cart.rows", "internal/bytealg.MaxLen", "arcade/cart.ramSizes"], apart := false, laid := [("arcade/cart.rows", laid_arcade_cart_rows), ("arcade/cart.ramSizes", laid_arcade_cart_ramSizes)] }
def CartExactSaid : Prop := cartExactRow.holds Tryd.pinned (OpenSpec.ofChange cartExactSpec)

/-- ITS FALSE NEIGHBOUR: 'it returns false'. Refute it at one input. -/
def cartExactWrong : ChangeSpec := { name := "cartExact", fn := fun _ => fun
  | [d1, d2, d3] => { results := [.lit (.bool false)], args := [d1, d2, d3] }
  | _ => none }
def CartExactWrongFalsely : Prop := cartExactRow.holds Tryd.pinned (OpenSpec.ofChange cartExactWrong)

/- THE SECOND FORM. 'bulk': how many values and letters a reading holds, each counted each time it is reached (what is shared counts as often as it is met; a slice's spare places count too). A statement '..UptoSaid' is the law's where the arguments, and the package variables that the reading takes, are together of bulk at most 1048576: NARROWER than '..Said'. Prove '..Said' where nothing that the law and all that it calls make is longer than what came in: it says more and counts as full. Else prove '..UptoSaid'. A law counts once. -/
mutual
def uptoBulk {H : Type} : DataW H → Nat
  | .lit (.string bytes) => bytes.length + 1
  | .lit _ => 1
  | .nil => 1
  | .ptr d => uptoBulk d + 1
  | .slice elems spare => uptoBulkAll elems + uptoBulkAll spare + 1
  | .agg parts => uptoBulkAll parts + 1
  | .iface _ d => uptoBulk d + 1
  | .map entries => uptoBulkEntries entries + 1
  | .held _ => 1
def uptoBulkAll {H : Type} : List (DataW H) → Nat
  | [] => 0
  | d :: r => uptoBulk d + uptoBulkAll r
def uptoBulkEntries {H : Type} : List (Lit × DataW H) → Nat
  | [] => 0
  | x :: r => uptoBulkEntry x + uptoBulkEntries r
def uptoBulkEntry {H : Type} : Lit × DataW H → Nat
  | (.string bytes, d) => bytes.length + uptoBulk d + 1
  | (_, d) => uptoBulk d + 1
 end
def uptoSmall : (H : Type) → List (DataW H) → Bool := fun _ ds => decide (uptoBulkAll ds ≤ 1048576)
def OpenSpec.upto (s : _root_.Go.ChangeSpec) : _root_.Go.OpenSpec := { _root_.Go.OpenSpec.ofChange s with cond := some uptoSmall }

/-- 'arcadelaw4.CartChecks', WHERE WHAT IT READS IS OF BULK AT MOST 1048576: true; the input reads as it did. -/
def cartChecksUptoRow : OpenClaim := { program := "ytojlappgmckokaadoor", sum := "d9a39320e4930a398a109cfe05d325846b4fc21e049cc05b8a01f833441fd4ea", func := "arcade/arcadelaw4.CartChecks", spec := "cartChecks", inPlace := ["internal/bytealg.IndexByte", "internal/bytealg.Index"], named := ["arcade/cart.rows", "internal/bytealg.MaxLen", "arcade/cart.ramSizes"], apart := false, laid := [("arcade/cart.rows", laid_arcade_cart_rows), ("arcade/cart.ramSizes", laid_arcade_cart_ramSizes)], narrowed := true }
def CartChecksUptoSaid : Prop := cartChecksUptoRow.holds Tryd.pinned (OpenSpec.upto cartChecksSpec)

/-- 'arcadelaw4.CartStrict', WHERE WHAT IT READS IS OF BULK AT MOST 1048576: true; the input reads as it did. -/
def cartStrictUptoRow : OpenClaim := { program := "ytojlappgmckokaadoor", sum := "d9a39320e4930a398a109cfe05d325846b4fc21e049cc05b8a01f833441fd4ea", func := "arcade/arcadelaw4.CartStrict", spec := "cartStrict", inPlace := ["internal/bytealg.IndexByte", "internal/bytealg.Index"], unfollowed := true, recurses := true, named := ["arcade/arcadelaw4.types", "arcade/cart.rows", "internal/bytealg.MaxLen", "arcade/cart.ramSizes"], apart := false, laid := [("arcade/cart.rows", laid_arcade_cart_rows), ("arcade/cart.ramSizes", laid_arcade_cart_ramSizes), ("arcade/arcadelaw4.types", laid_arcade_arcadelaw4_types)], narrowed := true }
def CartStrictUptoSaid : Prop := cartStrictUptoRow.holds Tryd.pinned (OpenSpec.upto cartStrictSpec)

/-- 'arcadelaw4.CartBanks', WHERE WHAT IT READS IS OF BULK AT MOST 1048576: true; the input reads as it did. -/
def cartBanksUptoRow : OpenClaim := { program := "ytojlappgmckokaadoor", sum := "d9a39320e4930a398a109cfe05d325846b4fc21e049cc05b8a01f833441fd4ea", func := "arcade/arcadelaw4.CartBanks", spec := "cartBanks", inPlace := ["internal/bytealg.IndexByte", "internal/bytealg.Index"], unfollowed := true, recurses := true, named := ["arcade/arcadelaw4.types", "arcade/cart.rows", "internal/bytealg.MaxLen", "arcade/cart.ramSizes"], apart := false, laid := [("arcade/cart.rows", laid_arcade_cart_rows), ("arcade/cart.ramSizes", laid_arcade_cart_ramSizes), ("arcade/arcadelaw4.types", laid_arcade_arcadelaw4_types)], narrowed := true }
def CartBanksUptoSaid : Prop := cartBanksUptoRow.holds Tryd.pinned (OpenSpec.upto cartBanksSpec)

/-- 'arcadelaw4.CartRam', WHERE WHAT IT READS IS OF BULK AT MOST 1048576: true; the input reads as it did. -/
def cartRamUptoRow : OpenClaim := { program := "ytojlappgmckokaadoor", sum := "d9a39320e4930a398a109cfe05d325846b4fc21e049cc05b8a01f833441fd4ea", func := "arcade/arcadelaw4.CartRam", spec := "cartRam", inPlace := ["internal/bytealg.IndexByte", "internal/bytealg.Index"], unfollowed := true, recurses := true, named := ["arcade/arcadelaw4.types", "arcade/cart.rows", "internal/bytealg.MaxLen", "arcade/cart.ramSizes"], apart := false, laid := [("arcade/cart.rows", laid_arcade_cart_rows), ("arcade/cart.ramSizes", laid_arcade_cart_ramSizes), ("arcade/arcadelaw4.types", laid_arcade_arcadelaw4_types)], narrowed := true }
def CartRamUptoSaid : Prop := cartRamUptoRow.holds Tryd.pinned (OpenSpec.upto cartRamSpec)

/-- 'arcadelaw4.CartFirm', WHERE WHAT IT READS IS OF BULK AT MOST 1048576: true; the input reads as it did. -/
def cartFirmUptoRow : OpenClaim := { program := "ytojlappgmckokaadoor", sum := "d9a39320e4930a398a109cfe05d325846b4fc21e049cc05b8a01f833441fd4ea", func := "arcade/arcadelaw4.CartFirm", spec := "cartFirm", inPlace := ["internal/bytealg.IndexByte", "internal/bytealg.Index"], unfollowed := true, recurses := true, named := ["arcade/cart.rows", "internal/bytealg.MaxLen", "arcade/cart.ramSizes"], apart := false, laid := [("arcade/cart.rows", laid_arcade_cart_rows), ("arcade/cart.ramSizes", laid_arcade_cart_ramSizes)], narrowed := true }
def CartFirmUptoSaid : Prop := cartFirmUptoRow.holds Tryd.pinned (OpenSpec.upto cartFirmSpec)

/-- 'arcadelaw4.CartKept', WHERE WHAT IT READS IS OF BULK AT MOST 1048576: true; the input reads as it did. -/
def cartKeptUptoRow : OpenClaim := { program := "ytojlappgmckokaadoor", sum := "d9a39320e4930a398a109cfe05d325846b4fc21e049cc05b8a01f833441fd4ea", func := "arcade/arcadelaw4.CartKept", spec := "cartKept", inPlace := ["internal/bytealg.IndexByte", "internal/bytealg.Index"], unfollowed := true, recurses := true, named := ["arcade/cart.rows", "internal/bytealg.MaxLen", "arcade/cart.ramSizes"], apart := false, laid := [("arcade/cart.rows", laid_arcade_cart_rows), ("arcade/cart.ramSizes", laid_arcade_cart_ramSizes)], narrowed := true }
def CartKeptUptoSaid : Prop := cartKeptUptoRow.holds Tryd.pinned (OpenSpec.upto cartKeptSpec)

/-- 'arcadelaw4.CartSaves', WHERE WHAT IT READS IS OF BULK AT MOST 1048576: true; the input reads as it did. -/
def cartSavesUptoRow : OpenClaim := { program := "ytojlappgmckokaadoor", sum := "d9a39320e4930a398a109cfe05d325846b4fc21e049cc05b8a01f833441fd4ea", func := "arcade/arcadelaw4.CartSaves", spec := "cartSaves", inPlace := ["internal/bytealg.IndexByte", "internal/bytealg.Index"], unfollowed := true, recurses := true, named := ["arcade/arcadelaw4.types", "arcade/cart.rows", "internal/bytealg.MaxLen", "arcade/cart.ramSizes"], apart := false, laid := [("arcade/cart.rows", laid_arcade_cart_rows), ("arcade/cart.ramSizes", laid_arcade_cart_ramSizes), ("arcade/arcadelaw4.types", laid_arcade_arcadelaw4_types)], narrowed := true }
def CartSavesUptoSaid : Prop := cartSavesUptoRow.holds Tryd.pinned (OpenSpec.upto cartSavesSpec)

/-- 'arcadelaw4.CartExact', WHERE WHAT IT READS IS OF BULK AT MOST 1048576: true; the input reads as it did. -/
def cartExactUptoRow : OpenClaim := { program := "ytojlappgmckokaadoor", sum := "d9a39320e4930a398a109cfe05d325846b4fc21e049cc05b8a01f833441fd4ea", func := "arcade/arcadelaw4.CartExact", spec := "cartExact", inPlace := ["internal/bytealg.IndexByte", "internal/bytealg.Index"], unfollowed := true, recurses := true, named := ["arcade/cart.rows", "internal/bytealg.MaxLen", "arcade/cart.ramSizes"], apart := false, laid := [("arcade/cart.rows", laid_arcade_cart_rows), ("arcade/cart.ramSizes", laid_arcade_cart_ramSizes)], narrowed := true }
def CartExactUptoSaid : Prop := cartExactUptoRow.holds Tryd.pinned (OpenSpec.upto cartExactSpec)

end Rows
end Go.Proofs.YtojlappgmckokaaDoor
