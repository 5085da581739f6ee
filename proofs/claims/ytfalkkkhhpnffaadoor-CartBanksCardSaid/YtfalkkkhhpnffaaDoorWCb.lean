/- CartBanks: the walk. -/
import Derived.Test.YtfalkkkhhpnffaaDoorWCb0
import Derived.Test.YtfalkkkhhpnffaaDoorWCb1
import Derived.Test.YtfalkkkhhpnffaaDoorWCb2
import Derived.Test.YtfalkkkhhpnffaaDoorWCb3
import Derived.Test.YtfalkkkhhpnffaaDoorWCb4
namespace Go.Proofs.YtfalkkkhhpnffaaDoor
open Go.Shelf Go.RowKit
set_option linter.unusedVariables false
theorem banks_walk {W : World} (hT : Tb W ∧ Tys W) (wh : Int) (i1 : I64 wh) (cd : Int) (i2 : I64 cd) (sd : Int) (i3 : I64 sd) (bk : Int) (i4 : I64 bk) (at' : Int) (i5 : I64 at') :
    Calls Tryd.prog 5 #[.int .i64 wh, .int .i64 cd, .int .i64 sd, .int .i64 bk, .int .i64 at'] W fun e w' => e = .returned (.bool true) ∧ Up W w' := by
  have p1 := pickI_lo wh 5 (by decide)
  have p2 := pickI_hi wh 5 (by decide)
  have : pickI wh 5 = 0 ∨ pickI wh 5 = 1 ∨ pickI wh 5 = 2 ∨ pickI wh 5 = 3 ∨ pickI wh 5 = 4 := by omega
  rcases this with h | h | h | h | h
  · exact banks_0 hT.1 hT.2 i1 i2 i3 i4 i5 h
  · exact banks_1 hT.1 hT.2 i1 i2 i3 i4 i5 h
  · exact banks_2 hT.1 hT.2 i1 i2 i3 i4 i5 h
  · exact banks_3 hT.1 hT.2 i1 i2 i3 i4 i5 h
  · exact banks_4 hT.1 hT.2 i1 i2 i3 i4 i5 h
end Go.Proofs.YtfalkkkhhpnffaaDoor
