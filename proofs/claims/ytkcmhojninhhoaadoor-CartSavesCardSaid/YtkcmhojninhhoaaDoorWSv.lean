/- CartSaves: the walk. -/
import Derived.Test.YtkcmhojninhhoaaDoorWSv0
import Derived.Test.YtkcmhojninhhoaaDoorWSv1
import Derived.Test.YtkcmhojninhhoaaDoorWSv2
import Derived.Test.YtkcmhojninhhoaaDoorWSv3
import Derived.Test.YtkcmhojninhhoaaDoorWSv4
namespace Go.Proofs.YtkcmhojninhhoaaDoor
open Go.Shelf Go.RowKit
set_option linter.unusedVariables false
theorem saves_walk {W : World} {va : Option Addr} {vb vo vn vc : Nat} {vf : Nat → Int} (hT : Tb W ∧ Tys W) (wh : Int) (i1 : I64 wh) (hV : Ints W va vb vo vn vc vf) (at' : Int) (i3 : I64 at') :
    Calls Tryd.prog 9 #[.int .i64 wh, .slice va vn vc, .int .i64 at'] W fun e w' => e = .returned (.bool true) ∧ Up W w' := by
  have p1 := pickI_lo wh 5 (by decide)
  have p2 := pickI_hi wh 5 (by decide)
  have : pickI wh 5 = 0 ∨ pickI wh 5 = 1 ∨ pickI wh 5 = 2 ∨ pickI wh 5 = 3 ∨ pickI wh 5 = 4 := by omega
  rcases this with h | h | h | h | h
  · exact savesW_0 hT.1 hT.2 i1 i3 hV h
  · exact savesW_1 hT.1 hT.2 i1 i3 hV h
  · exact savesW_2 hT.1 hT.2 i1 i3 hV h
  · exact savesW_3 hT.1 hT.2 i1 i3 hV h
  · exact savesW_4 hT.1 hT.2 i1 i3 hV h
end Go.Proofs.YtkcmhojninhhoaaDoor
