/- CartRam: the walk. -/
import Derived.Test.YtkcmhojninhhoaaDoorWRa0
import Derived.Test.YtkcmhojninhhoaaDoorWRa1
import Derived.Test.YtkcmhojninhhoaaDoorWRa1b
import Derived.Test.YtkcmhojninhhoaaDoorWRa2
import Derived.Test.YtkcmhojninhhoaaDoorWRa3
import Derived.Test.YtkcmhojninhhoaaDoorWRa3b
import Derived.Test.YtkcmhojninhhoaaDoorWRa4
import Derived.Test.YtkcmhojninhhoaaDoorWRa4b
namespace Go.Proofs.YtkcmhojninhhoaaDoor
open Go.Shelf Go.RowKit
set_option linter.unusedVariables false
theorem ram_walk {W : World} {va : Option Addr} {vb vo vn vc : Nat} {vf : Nat → Int} (hT : Tb W ∧ Tys W) (wh : Int) (i1 : I64 wh) (cd : Int) (i2 : I64 cd) (hV : Ints W va vb vo vn vc vf) (at' : Int) (i3 : I64 at') (sh : Int) (i4 : I64 sh) :
    Calls Tryd.prog 6 #[.int .i64 wh, .int .i64 cd, .slice va vn vc, .int .i64 at', .int .i64 sh] W fun e w' => e = .returned (.bool true) ∧ Up W w' := by
  have p1 := pickI_lo wh 5 (by decide)
  have p2 := pickI_hi wh 5 (by decide)
  have : pickI wh 5 = 0 ∨ pickI wh 5 = 1 ∨ pickI wh 5 = 2 ∨ pickI wh 5 = 3 ∨ pickI wh 5 = 4 := by omega
  by_cases hc : pickI cd 2 = 1
  · rcases this with h | h | h | h | h
    · exact ramW_0 hT.1 hT.2 i1 i2 i3 i4 hV h
    · exact ramW_1b hT.1 hT.2 i1 i2 i3 i4 hV h hc
    · exact ramW_2 hT.1 hT.2 i1 i2 i3 i4 hV h
    · exact ramW_3b hT.1 hT.2 i1 i2 i3 i4 hV h hc
    · exact ramW_4b hT.1 hT.2 i1 i2 i3 i4 hV h hc
  · rcases this with h | h | h | h | h
    · exact ramW_0 hT.1 hT.2 i1 i2 i3 i4 hV h
    · exact ramW_1 hT.1 hT.2 i1 i2 i3 i4 hV h hc
    · exact ramW_2 hT.1 hT.2 i1 i2 i3 i4 hV h
    · exact ramW_3 hT.1 hT.2 i1 i2 i3 i4 hV h hc
    · exact ramW_4 hT.1 hT.2 i1 i2 i3 i4 hV h hc
end Go.Proofs.YtkcmhojninhhoaaDoor
