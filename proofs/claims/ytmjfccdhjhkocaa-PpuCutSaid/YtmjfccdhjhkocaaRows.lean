/-
  No cell of these rows narrows 'for every input' (looked for: loops, veiled, ifaces, maps, wideKeys, modest, calm, conditions, laid).
  DERIVED. THE GIVEN ROWS OF THIS SEAT. 14 by the template 'for every input the law returns true; each argument reads behind the call as it read before'; 0 by the template 'total and deterministic' (their statements: YtmjfccdhjhkocaaTotals.lean).
  GIVEN WITH THE SEED: the statements are not yours to turn. If you find one false, say at which input.
  Laid BY PROGRAM, IN A SANDBOX (cutbox-rows.mjs): the forced cells as the released guide's own fill.sh prints them over the translation 66c301738c571f29… (all of the seat's roots in one cut). By AI agents, Wed Nov 11 2026. No macro, syntax, notation, axiom, sorry.
-/
import Derived.Test.YtmjfccdhjhkocaaChecked
import GoSem.Claim
import GoSem.ClaimJoined
import GoSem.ClaimMapViews
import Derived.JoinedTies
import Derived.KernelRfl
namespace Go.Proofs.Ytmjfccdhjhkocaa
/- THE CELL 'sum', in the pinned program and in every row, IS THE sha256 OF THE DUMP (.gsa) THAT YtmjfccdhjhkocaaProg.lean LOADS. Nothing in Lean hashes anything: it is a label: what it is worth is what the hold of that sum in a sandbox is worth. -/
noncomputable def Try.pinned : Pinned := { name := "ytmjfccdhjhkocaa", sum := "66c301738c571f297f2fd9878dba41e4e7410a77b113a596f94b2518f09abf50", checked := Try.checked }
namespace Rows
def none {H : Type} : Left H := { results := [], args := [] }

/-- 'arcadelaw6.PpuMemory': WHATEVER THE INPUT: true; the input reads as it did. -/
def ppuMemorySpec : ChangeSpec := { name := "ppuMemory", fn := fun _ => fun
  | [d1, d2, d3] => { results := [.lit (.bool true)], args := [d1, d2, d3] }
  | _ => none }
def ppuMemoryRow : OpenClaim := { program := "ytmjfccdhjhkocaa", sum := "66c301738c571f297f2fd9878dba41e4e7410a77b113a596f94b2518f09abf50", func := "arcade/arcadelaw6.PpuMemory", spec := "ppuMemory", apart := false }
def PpuMemorySaid : Prop := ppuMemoryRow.holds Try.pinned (OpenSpec.ofChange ppuMemorySpec)

/-- ITS FALSE NEIGHBOUR: 'it returns false'. Refute it at one input. -/
def ppuMemoryWrong : ChangeSpec := { name := "ppuMemory", fn := fun _ => fun
  | [d1, d2, d3] => { results := [.lit (.bool false)], args := [d1, d2, d3] }
  | _ => none }
def PpuMemoryWrongFalsely : Prop := ppuMemoryRow.holds Try.pinned (OpenSpec.ofChange ppuMemoryWrong)

/-- 'arcadelaw6.PpuTimes': WHATEVER THE INPUT: true; the input reads as it did. -/
def ppuTimesSpec : ChangeSpec := { name := "ppuTimes", fn := fun _ => fun
  | [d1, d2] => { results := [.lit (.bool true)], args := [d1, d2] }
  | _ => none }
def ppuTimesRow : OpenClaim := { program := "ytmjfccdhjhkocaa", sum := "66c301738c571f297f2fd9878dba41e4e7410a77b113a596f94b2518f09abf50", func := "arcade/arcadelaw6.PpuTimes", spec := "ppuTimes", unfollowed := true, recurses := true, apart := false }
def PpuTimesSaid : Prop := ppuTimesRow.holds Try.pinned (OpenSpec.ofChange ppuTimesSpec)

/-- ITS FALSE NEIGHBOUR: 'it returns false'. Refute it at one input. -/
def ppuTimesWrong : ChangeSpec := { name := "ppuTimes", fn := fun _ => fun
  | [d1, d2] => { results := [.lit (.bool false)], args := [d1, d2] }
  | _ => none }
def PpuTimesWrongFalsely : Prop := ppuTimesRow.holds Try.pinned (OpenSpec.ofChange ppuTimesWrong)

/-- 'arcadelaw6.PpuAsks': WHATEVER THE INPUT: true; the input reads as it did. -/
def ppuAsksSpec : ChangeSpec := { name := "ppuAsks", fn := fun _ => fun
  | [d1, d2, d3] => { results := [.lit (.bool true)], args := [d1, d2, d3] }
  | _ => none }
def ppuAsksRow : OpenClaim := { program := "ytmjfccdhjhkocaa", sum := "66c301738c571f297f2fd9878dba41e4e7410a77b113a596f94b2518f09abf50", func := "arcade/arcadelaw6.PpuAsks", spec := "ppuAsks", unfollowed := true, recurses := true, apart := false }
def PpuAsksSaid : Prop := ppuAsksRow.holds Try.pinned (OpenSpec.ofChange ppuAsksSpec)

/-- ITS FALSE NEIGHBOUR: 'it returns false'. Refute it at one input. -/
def ppuAsksWrong : ChangeSpec := { name := "ppuAsks", fn := fun _ => fun
  | [d1, d2, d3] => { results := [.lit (.bool false)], args := [d1, d2, d3] }
  | _ => none }
def PpuAsksWrongFalsely : Prop := ppuAsksRow.holds Try.pinned (OpenSpec.ofChange ppuAsksWrong)

/-- 'arcadelaw6.PpuLocked': WHATEVER THE INPUT: true; the input reads as it did. -/
def ppuLockedSpec : ChangeSpec := { name := "ppuLocked", fn := fun _ => fun
  | [d1, d2, d3] => { results := [.lit (.bool true)], args := [d1, d2, d3] }
  | _ => none }
def ppuLockedRow : OpenClaim := { program := "ytmjfccdhjhkocaa", sum := "66c301738c571f297f2fd9878dba41e4e7410a77b113a596f94b2518f09abf50", func := "arcade/arcadelaw6.PpuLocked", spec := "ppuLocked", unfollowed := true, recurses := true, apart := false }
def PpuLockedSaid : Prop := ppuLockedRow.holds Try.pinned (OpenSpec.ofChange ppuLockedSpec)

/-- ITS FALSE NEIGHBOUR: 'it returns false'. Refute it at one input. -/
def ppuLockedWrong : ChangeSpec := { name := "ppuLocked", fn := fun _ => fun
  | [d1, d2, d3] => { results := [.lit (.bool false)], args := [d1, d2, d3] }
  | _ => none }
def PpuLockedWrongFalsely : Prop := ppuLockedRow.holds Try.pinned (OpenSpec.ofChange ppuLockedWrong)

/-- 'arcadelaw6.PpuPure': WHATEVER THE INPUT: true; the input reads as it did. -/
def ppuPureSpec : ChangeSpec := { name := "ppuPure", fn := fun _ => fun
  | [d1, d2, d3] => { results := [.lit (.bool true)], args := [d1, d2, d3] }
  | _ => none }
def ppuPureRow : OpenClaim := { program := "ytmjfccdhjhkocaa", sum := "66c301738c571f297f2fd9878dba41e4e7410a77b113a596f94b2518f09abf50", func := "arcade/arcadelaw6.PpuPure", spec := "ppuPure", unfollowed := true, recurses := true, apart := false }
def PpuPureSaid : Prop := ppuPureRow.holds Try.pinned (OpenSpec.ofChange ppuPureSpec)

/-- ITS FALSE NEIGHBOUR: 'it returns false'. Refute it at one input. -/
def ppuPureWrong : ChangeSpec := { name := "ppuPure", fn := fun _ => fun
  | [d1, d2, d3] => { results := [.lit (.bool false)], args := [d1, d2, d3] }
  | _ => none }
def PpuPureWrongFalsely : Prop := ppuPureRow.holds Try.pinned (OpenSpec.ofChange ppuPureWrong)

/-- 'arcadelaw6.PpuScrolls': WHATEVER THE INPUT: true; the input reads as it did. -/
def ppuScrollsSpec : ChangeSpec := { name := "ppuScrolls", fn := fun _ => fun
  | [d1, d2, d3, d4, d5] => { results := [.lit (.bool true)], args := [d1, d2, d3, d4, d5] }
  | _ => none }
def ppuScrollsRow : OpenClaim := { program := "ytmjfccdhjhkocaa", sum := "66c301738c571f297f2fd9878dba41e4e7410a77b113a596f94b2518f09abf50", func := "arcade/arcadelaw6.PpuScrolls", spec := "ppuScrolls", unfollowed := true, recurses := true, apart := false }
def PpuScrollsSaid : Prop := ppuScrollsRow.holds Try.pinned (OpenSpec.ofChange ppuScrollsSpec)

/-- ITS FALSE NEIGHBOUR: 'it returns false'. Refute it at one input. -/
def ppuScrollsWrong : ChangeSpec := { name := "ppuScrolls", fn := fun _ => fun
  | [d1, d2, d3, d4, d5] => { results := [.lit (.bool false)], args := [d1, d2, d3, d4, d5] }
  | _ => none }
def PpuScrollsWrongFalsely : Prop := ppuScrollsRow.holds Try.pinned (OpenSpec.ofChange ppuScrollsWrong)

/-- 'arcadelaw6.PpuColours': WHATEVER THE INPUT: true; the input reads as it did. -/
def ppuColoursSpec : ChangeSpec := { name := "ppuColours", fn := fun _ => fun
  | [d1, d2] => { results := [.lit (.bool true)], args := [d1, d2] }
  | _ => none }
def ppuColoursRow : OpenClaim := { program := "ytmjfccdhjhkocaa", sum := "66c301738c571f297f2fd9878dba41e4e7410a77b113a596f94b2518f09abf50", func := "arcade/arcadelaw6.PpuColours", spec := "ppuColours", unfollowed := true, recurses := true, apart := false }
def PpuColoursSaid : Prop := ppuColoursRow.holds Try.pinned (OpenSpec.ofChange ppuColoursSpec)

/-- ITS FALSE NEIGHBOUR: 'it returns false'. Refute it at one input. -/
def ppuColoursWrong : ChangeSpec := { name := "ppuColours", fn := fun _ => fun
  | [d1, d2] => { results := [.lit (.bool false)], args := [d1, d2] }
  | _ => none }
def PpuColoursWrongFalsely : Prop := ppuColoursRow.holds Try.pinned (OpenSpec.ofChange ppuColoursWrong)

/-- 'arcadelaw6.PpuWindow': WHATEVER THE INPUT: true; the input reads as it did. -/
def ppuWindowSpec : ChangeSpec := { name := "ppuWindow", fn := fun _ => fun
  | [d1, d2, d3, d4, d5] => { results := [.lit (.bool true)], args := [d1, d2, d3, d4, d5] }
  | _ => none }
def ppuWindowRow : OpenClaim := { program := "ytmjfccdhjhkocaa", sum := "66c301738c571f297f2fd9878dba41e4e7410a77b113a596f94b2518f09abf50", func := "arcade/arcadelaw6.PpuWindow", spec := "ppuWindow", unfollowed := true, recurses := true, apart := false }
def PpuWindowSaid : Prop := ppuWindowRow.holds Try.pinned (OpenSpec.ofChange ppuWindowSpec)

/-- ITS FALSE NEIGHBOUR: 'it returns false'. Refute it at one input. -/
def ppuWindowWrong : ChangeSpec := { name := "ppuWindow", fn := fun _ => fun
  | [d1, d2, d3, d4, d5] => { results := [.lit (.bool false)], args := [d1, d2, d3, d4, d5] }
  | _ => none }
def PpuWindowWrongFalsely : Prop := ppuWindowRow.holds Try.pinned (OpenSpec.ofChange ppuWindowWrong)

/-- 'arcadelaw6.PpuSprites': WHATEVER THE INPUT: true; the input reads as it did. -/
def ppuSpritesSpec : ChangeSpec := { name := "ppuSprites", fn := fun _ => fun
  | [d1, d2, d3, d4] => { results := [.lit (.bool true)], args := [d1, d2, d3, d4] }
  | _ => none }
def ppuSpritesRow : OpenClaim := { program := "ytmjfccdhjhkocaa", sum := "66c301738c571f297f2fd9878dba41e4e7410a77b113a596f94b2518f09abf50", func := "arcade/arcadelaw6.PpuSprites", spec := "ppuSprites", unfollowed := true, recurses := true, apart := false }
def PpuSpritesSaid : Prop := ppuSpritesRow.holds Try.pinned (OpenSpec.ofChange ppuSpritesSpec)

/-- ITS FALSE NEIGHBOUR: 'it returns false'. Refute it at one input. -/
def ppuSpritesWrong : ChangeSpec := { name := "ppuSprites", fn := fun _ => fun
  | [d1, d2, d3, d4] => { results := [.lit (.bool false)], args := [d1, d2, d3, d4] }
  | _ => none }
def PpuSpritesWrongFalsely : Prop := ppuSpritesRow.holds Try.pinned (OpenSpec.ofChange ppuSpritesWrong)

/-- 'arcadelaw6.PpuTen': WHATEVER THE INPUT: true; the input reads as it did. -/
def ppuTenSpec : ChangeSpec := { name := "ppuTen", fn := fun _ => fun
  | [d1, d2, d3, d4] => { results := [.lit (.bool true)], args := [d1, d2, d3, d4] }
  | _ => none }
def ppuTenRow : OpenClaim := { program := "ytmjfccdhjhkocaa", sum := "66c301738c571f297f2fd9878dba41e4e7410a77b113a596f94b2518f09abf50", func := "arcade/arcadelaw6.PpuTen", spec := "ppuTen", unfollowed := true, recurses := true, apart := false }
def PpuTenSaid : Prop := ppuTenRow.holds Try.pinned (OpenSpec.ofChange ppuTenSpec)

/-- ITS FALSE NEIGHBOUR: 'it returns false'. Refute it at one input. -/
def ppuTenWrong : ChangeSpec := { name := "ppuTen", fn := fun _ => fun
  | [d1, d2, d3, d4] => { results := [.lit (.bool false)], args := [d1, d2, d3, d4] }
  | _ => none }
def PpuTenWrongFalsely : Prop := ppuTenRow.holds Try.pinned (OpenSpec.ofChange ppuTenWrong)

/-- 'arcadelaw6.PpuOff': WHATEVER THE INPUT: true; the input reads as it did. -/
def ppuOffSpec : ChangeSpec := { name := "ppuOff", fn := fun _ => fun
  | [d1, d2, d3] => { results := [.lit (.bool true)], args := [d1, d2, d3] }
  | _ => none }
def ppuOffRow : OpenClaim := { program := "ytmjfccdhjhkocaa", sum := "66c301738c571f297f2fd9878dba41e4e7410a77b113a596f94b2518f09abf50", func := "arcade/arcadelaw6.PpuOff", spec := "ppuOff", unfollowed := true, recurses := true, apart := false }
def PpuOffSaid : Prop := ppuOffRow.holds Try.pinned (OpenSpec.ofChange ppuOffSpec)

/-- ITS FALSE NEIGHBOUR: 'it returns false'. Refute it at one input. -/
def ppuOffWrong : ChangeSpec := { name := "ppuOff", fn := fun _ => fun
  | [d1, d2, d3] => { results := [.lit (.bool false)], args := [d1, d2, d3] }
  | _ => none }
def PpuOffWrongFalsely : Prop := ppuOffRow.holds Try.pinned (OpenSpec.ofChange ppuOffWrong)

/-- 'arcadelaw6.PpuAbove': WHATEVER THE INPUT: true; the input reads as it did. -/
def ppuAboveSpec : ChangeSpec := { name := "ppuAbove", fn := fun _ => fun
  | [d1, d2, d3, d4, d5] => { results := [.lit (.bool true)], args := [d1, d2, d3, d4, d5] }
  | _ => none }
def ppuAboveRow : OpenClaim := { program := "ytmjfccdhjhkocaa", sum := "66c301738c571f297f2fd9878dba41e4e7410a77b113a596f94b2518f09abf50", func := "arcade/arcadelaw6.PpuAbove", spec := "ppuAbove", unfollowed := true, recurses := true, apart := false }
def PpuAboveSaid : Prop := ppuAboveRow.holds Try.pinned (OpenSpec.ofChange ppuAboveSpec)

/-- ITS FALSE NEIGHBOUR: 'it returns false'. Refute it at one input. -/
def ppuAboveWrong : ChangeSpec := { name := "ppuAbove", fn := fun _ => fun
  | [d1, d2, d3, d4, d5] => { results := [.lit (.bool false)], args := [d1, d2, d3, d4, d5] }
  | _ => none }
def PpuAboveWrongFalsely : Prop := ppuAboveRow.holds Try.pinned (OpenSpec.ofChange ppuAboveWrong)

/-- 'arcadelaw6.PpuLoads': WHATEVER THE INPUT: true; the input reads as it did. -/
def ppuLoadsSpec : ChangeSpec := { name := "ppuLoads", fn := fun _ => fun
  | [d1, d2] => { results := [.lit (.bool true)], args := [d1, d2] }
  | _ => none }
def ppuLoadsRow : OpenClaim := { program := "ytmjfccdhjhkocaa", sum := "66c301738c571f297f2fd9878dba41e4e7410a77b113a596f94b2518f09abf50", func := "arcade/arcadelaw6.PpuLoads", spec := "ppuLoads", unfollowed := true, recurses := true, apart := false }
def PpuLoadsSaid : Prop := ppuLoadsRow.holds Try.pinned (OpenSpec.ofChange ppuLoadsSpec)

/-- ITS FALSE NEIGHBOUR: 'it returns false'. Refute it at one input. -/
def ppuLoadsWrong : ChangeSpec := { name := "ppuLoads", fn := fun _ => fun
  | [d1, d2] => { results := [.lit (.bool false)], args := [d1, d2] }
  | _ => none }
def PpuLoadsWrongFalsely : Prop := ppuLoadsRow.holds Try.pinned (OpenSpec.ofChange ppuLoadsWrong)

/-- 'arcadelaw6.PpuCut': WHATEVER THE INPUT: true; the input reads as it did. -/
def ppuCutSpec : ChangeSpec := { name := "ppuCut", fn := fun _ => fun
  | [d1, d2, d3] => { results := [.lit (.bool true)], args := [d1, d2, d3] }
  | _ => none }
def ppuCutRow : OpenClaim := { program := "ytmjfccdhjhkocaa", sum := "66c301738c571f297f2fd9878dba41e4e7410a77b113a596f94b2518f09abf50", func := "arcade/arcadelaw6.PpuCut", spec := "ppuCut", unfollowed := true, recurses := true, apart := false }
def PpuCutSaid : Prop := ppuCutRow.holds Try.pinned (OpenSpec.ofChange ppuCutSpec)

/-- ITS FALSE NEIGHBOUR: 'it returns false'. Refute it at one input. -/
def ppuCutWrong : ChangeSpec := { name := "ppuCut", fn := fun _ => fun
  | [d1, d2, d3] => { results := [.lit (.bool false)], args := [d1, d2, d3] }
  | _ => none }
def PpuCutWrongFalsely : Prop := ppuCutRow.holds Try.pinned (OpenSpec.ofChange ppuCutWrong)

/- THE SECOND FORM. 'bulk': how many values and letters a reading holds, each counted each time it is reached (what is shared counts as often as it is met; a slice's spare places count too). A statement '..UptoSaid' is the law's where the arguments, and the package variables that the reading takes, are together of bulk at most 1048576: NARROWER than '..Said'. Prove '..Said' where nothing that the law and all that it calls make is longer than what came in: it says more and counts as full. Else prove '..UptoSaid'. A law counts once. -/
mutual
def uptoBulk {H : Type} : DataW H → Nat
  | .lit (.string bytes) => bytes.length + 1
  | .lit _ => 1
  | .nil => 1
  | .ptr d => uptoBulk d + 1
  | .slice elems spare => uptoBulkAll elems + uptoBulkAll spare + 1
  | .agg parts => uptoBulkAll parts + 1
  | .iface _ d => uptoBulk d + 1
  | .map entries => uptoBulkEntries entries + 1
  | .held _ => 1
def uptoBulkAll {H : Type} : List (DataW H) → Nat
  | [] => 0
  | d :: r => uptoBulk d + uptoBulkAll r
def uptoBulkEntries {H : Type} : List (Lit × DataW H) → Nat
  | [] => 0
  | x :: r => uptoBulkEntry x + uptoBulkEntries r
def uptoBulkEntry {H : Type} : Lit × DataW H → Nat
  | (.string bytes, d) => bytes.length + uptoBulk d + 1
  | (_, d) => uptoBulk d + 1
 end
def uptoSmall : (H : Type) → List (DataW H) → Bool := fun _ ds => decide (uptoBulkAll ds ≤ 1048576)
def OpenSpec.upto (s : _root_.Go.ChangeSpec) : _root_.Go.OpenSpec := { _root_.Go.OpenSpec.ofChange s with cond := some uptoSmall }

/-- 'arcadelaw6.PpuMemory', WHERE WHAT IT READS IS OF BULK AT MOST 1048576: true; the input reads as it did. -/
def ppuMemoryUptoRow : OpenClaim := { program := "ytmjfccdhjhkocaa", sum := "66c301738c571f297f2fd9878dba41e4e7410a77b113a596f94b2518f09abf50", func := "arcade/arcadelaw6.PpuMemory", spec := "ppuMemory", apart := false, narrowed := true }
def PpuMemoryUptoSaid : Prop := ppuMemoryUptoRow.holds Try.pinned (OpenSpec.upto ppuMemorySpec)

/-- 'arcadelaw6.PpuTimes', WHERE WHAT IT READS IS OF BULK AT MOST 1048576: true; the input reads as it did. -/
def ppuTimesUptoRow : OpenClaim := { program := "ytmjfccdhjhkocaa", sum := "66c301738c571f297f2fd9878dba41e4e7410a77b113a596f94b2518f09abf50", func := "arcade/arcadelaw6.PpuTimes", spec := "ppuTimes", unfollowed := true, recurses := true, apart := false, narrowed := true }
def PpuTimesUptoSaid : Prop := ppuTimesUptoRow.holds Try.pinned (OpenSpec.upto ppuTimesSpec)

/-- 'arcadelaw6.PpuAsks', WHERE WHAT IT READS IS OF BULK AT MOST 1048576: true; the input reads as it did. -/
def ppuAsksUptoRow : OpenClaim := { program := "ytmjfccdhjhkocaa", sum := "66c301738c571f297f2fd9878dba41e4e7410a77b113a596f94b2518f09abf50", func := "arcade/arcadelaw6.PpuAsks", spec := "ppuAsks", unfollowed := true, recurses := true, apart := false, narrowed := true }
def PpuAsksUptoSaid : Prop := ppuAsksUptoRow.holds Try.pinned (OpenSpec.upto ppuAsksSpec)

/-- 'arcadelaw6.PpuLocked', WHERE WHAT IT READS IS OF BULK AT MOST 1048576: true; the input reads as it did. -/
def ppuLockedUptoRow : OpenClaim := { program := "ytmjfccdhjhkocaa", sum := "66c301738c571f297f2fd9878dba41e4e7410a77b113a596f94b2518f09abf50", func := "arcade/arcadelaw6.PpuLocked", spec := "ppuLocked", unfollowed := true, recurses := true, apart := false, narrowed := true }
def PpuLockedUptoSaid : Prop := ppuLockedUptoRow.holds Try.pinned (OpenSpec.upto ppuLockedSpec)

/-- 'arcadelaw6.PpuPure', WHERE WHAT IT READS IS OF BULK AT MOST 1048576: true; the input reads as it did. -/
def ppuPureUptoRow : OpenClaim := { program := "ytmjfccdhjhkocaa", sum := "66c301738c571f297f2fd9878dba41e4e7410a77b113a596f94b2518f09abf50", func := "arcade/arcadelaw6.PpuPure", spec := "ppuPure", unfollowed := true, recurses := true, apart := false, narrowed := true }
def PpuPureUptoSaid : Prop := ppuPureUptoRow.holds Try.pinned (OpenSpec.upto ppuPureSpec)

/-- 'arcadelaw6.PpuScrolls', WHERE WHAT IT READS IS OF BULK AT MOST 1048576: true; the input reads as it did. -/
def ppuScrollsUptoRow : OpenClaim := { program := "ytmjfccdhjhkocaa", sum := "66c301738c571f297f2fd9878dba41e4e7410a77b113a596f94b2518f09abf50", func := "arcade/arcadelaw6.PpuScrolls", spec := "ppuScrolls", unfollowed := true, recurses := true, apart := false, narrowed := true }
def PpuScrollsUptoSaid : Prop := ppuScrollsUptoRow.holds Try.pinned (OpenSpec.upto ppuScrollsSpec)

/-- 'arcadelaw6.PpuColours', WHERE WHAT IT READS IS OF BULK AT MOST 1048576: true; the input reads as it did. -/
def ppuColoursUptoRow : OpenClaim := { program := "ytmjfccdhjhkocaa", sum := "66c301738c571f297f2fd9878dba41e4e7410a77b113a596f94b2518f09abf50", func := "arcade/arcadelaw6.PpuColours", spec := "ppuColours", unfollowed := true, recurses := true, apart := false, narrowed := true }
def PpuColoursUptoSaid : Prop := ppuColoursUptoRow.holds Try.pinned (OpenSpec.upto ppuColoursSpec)

/-- 'arcadelaw6.PpuWindow', WHERE WHAT IT READS IS OF BULK AT MOST 1048576: true; the input reads as it did. -/
def ppuWindowUptoRow : OpenClaim := { program := "ytmjfccdhjhkocaa", sum := "66c301738c571f297f2fd9878dba41e4e7410a77b113a596f94b2518f09abf50", func := "arcade/arcadelaw6.PpuWindow", spec := "ppuWindow", unfollowed := true, recurses := true, apart := false, narrowed := true }
def PpuWindowUptoSaid : Prop := ppuWindowUptoRow.holds Try.pinned (OpenSpec.upto ppuWindowSpec)

/-- 'arcadelaw6.PpuSprites', WHERE WHAT IT READS IS OF BULK AT MOST 1048576: true; the input reads as it did. -/
def ppuSpritesUptoRow : OpenClaim := { program := "ytmjfccdhjhkocaa", sum := "66c301738c571f297f2fd9878dba41e4e7410a77b113a596f94b2518f09abf50", func := "arcade/arcadelaw6.PpuSprites", spec := "ppuSprites", unfollowed := true, recurses := true, apart := false, narrowed := true }
def PpuSpritesUptoSaid : Prop := ppuSpritesUptoRow.holds Try.pinned (OpenSpec.upto ppuSpritesSpec)

/-- 'arcadelaw6.PpuTen', WHERE WHAT IT READS IS OF BULK AT MOST 1048576: true; the input reads as it did. -/
def ppuTenUptoRow : OpenClaim := { program := "ytmjfccdhjhkocaa", sum := "66c301738c571f297f2fd9878dba41e4e7410a77b113a596f94b2518f09abf50", func := "arcade/arcadelaw6.PpuTen", spec := "ppuTen", unfollowed := true, recurses := true, apart := false, narrowed := true }
def PpuTenUptoSaid : Prop := ppuTenUptoRow.holds Try.pinned (OpenSpec.upto ppuTenSpec)

/-- 'arcadelaw6.PpuOff', WHERE WHAT IT READS IS OF BULK AT MOST 1048576: true; the input reads as it did. -/
def ppuOffUptoRow : OpenClaim := { program := "ytmjfccdhjhkocaa", sum := "66c301738c571f297f2fd9878dba41e4e7410a77b113a596f94b2518f09abf50", func := "arcade/arcadelaw6.PpuOff", spec := "ppuOff", unfollowed := true, recurses := true, apart := false, narrowed := true }
def PpuOffUptoSaid : Prop := ppuOffUptoRow.holds Try.pinned (OpenSpec.upto ppuOffSpec)

/-- 'arcadelaw6.PpuAbove', WHERE WHAT IT READS IS OF BULK AT MOST 1048576: true; the input reads as it did. -/
def ppuAboveUptoRow : OpenClaim := { program := "ytmjfccdhjhkocaa", sum := "66c301738c571f297f2fd9878dba41e4e7410a77b113a596f94b2518f09abf50", func := "arcade/arcadelaw6.PpuAbove", spec := "ppuAbove", unfollowed := true, recurses := true, apart := false, narrowed := true }
def PpuAboveUptoSaid : Prop := ppuAboveUptoRow.holds Try.pinned (OpenSpec.upto ppuAboveSpec)

/-- 'arcadelaw6.PpuLoads', WHERE WHAT IT READS IS OF BULK AT MOST 1048576: true; the input reads as it did. -/
def ppuLoadsUptoRow : OpenClaim := { program := "ytmjfccdhjhkocaa", sum := "66c301738c571f297f2fd9878dba41e4e7410a77b113a596f94b2518f09abf50", func := "arcade/arcadelaw6.PpuLoads", spec := "ppuLoads", unfollowed := true, recurses := true, apart := false, narrowed := true }
def PpuLoadsUptoSaid : Prop := ppuLoadsUptoRow.holds Try.pinned (OpenSpec.upto ppuLoadsSpec)

/-- 'arcadelaw6.PpuCut', WHERE WHAT IT READS IS OF BULK AT MOST 1048576: true; the input reads as it did. -/
def ppuCutUptoRow : OpenClaim := { program := "ytmjfccdhjhkocaa", sum := "66c301738c571f297f2fd9878dba41e4e7410a77b113a596f94b2518f09abf50", func := "arcade/arcadelaw6.PpuCut", spec := "ppuCut", unfollowed := true, recurses := true, apart := false, narrowed := true }
def PpuCutUptoSaid : Prop := ppuCutUptoRow.holds Try.pinned (OpenSpec.upto ppuCutSpec)

end Rows
end Go.Proofs.Ytmjfccdhjhkocaa
