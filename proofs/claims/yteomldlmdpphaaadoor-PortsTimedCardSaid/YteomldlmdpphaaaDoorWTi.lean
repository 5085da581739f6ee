/- PortsTimed: the walk. -/
import Derived.Test.YteomldlmdpphaaaDoorWTi0
import Derived.Test.YteomldlmdpphaaaDoorWTi1
import Derived.Test.YteomldlmdpphaaaDoorWTi2
import Derived.Test.YteomldlmdpphaaaDoorWTi3
namespace Go.Proofs.YteomldlmdpphaaaDoor
open Go.RowKit
set_option linter.unusedVariables false
theorem timed_walk {W : World} (hL : LaidP W) {aa : Option Addr} {ab ao len cap : Nat} {f : Nat → Nat → Int} (hA : Acts W aa ab ao len cap f) (r : Int) (hr : I64 r) (a : Int) (ha : I64 a) (c : Int) (hc : I64 c) :
    Calls Tryd.prog 3 #[.slice aa len cap, .int .i64 r, .int .i64 a, .int .i64 c] W fun e w' => e = .returned (.bool true) ∧ Up W w' := by
  have r0 := pickI_lo r 4 (by decide)
  have r1 := pickI_hi r 4 (by decide)
  have : pickI r 4 = 0 ∨ pickI r 4 = 1 ∨ pickI r 4 = 2 ∨ pickI r 4 = 3 := by omega
  rcases this with h | h | h | h
  · exact timed_walk0 hL hA r hr a ha c hc h
  · exact timed_walk1 hL hA r hr a ha c hc h
  · exact timed_walk2 hL hA r hr a ha c hc h
  · exact timed_walk3 hL hA r hr a ha c hc h
end Go.Proofs.YteomldlmdpphaaaDoor
