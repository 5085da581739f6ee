/- Cart: CartStrict. -/
import Derived.Test.YtfalkkkhhpnffaaDoorWSt0
import Derived.Test.YtfalkkkhhpnffaaDoorWSt1
import Derived.Test.YtfalkkkhhpnffaaDoorWSt2
import Derived.Test.YtfalkkkhhpnffaaDoorWSt3
import Derived.Test.YtfalkkkhhpnffaaDoorWSt4
namespace Go.Proofs.YtfalkkkhhpnffaaDoor
open Go.Shelf Go.RowKit
set_option linter.unusedVariables false
theorem strict_walk {W : World} (hT : Tb W ∧ Tys W) (wh : Int) (i1 : I64 wh) (at' : Int) (i2 : I64 at') (bz : Int) (i3 : I64 bz) :
    Calls Tryd.prog 4 #[.int .i64 wh, .int .i64 at', .int .i64 bz] W fun e w' => e = .returned (.bool true) ∧ Up W w' := by
  obtain ⟨j, hj, jb⟩ : ∃ c : Nat, pickI wh 10 = (c : Int) ∧ c < 10 := by
    obtain ⟨c, hc⟩ := Int.eq_ofNat_of_zero_le (pickI_lo wh 10 (by decide))
    exact ⟨c, hc, by have := pickI_hi wh 10 (by decide); omega⟩
  obtain ⟨ty, rm, R0, hR0, hty, hcs, hk, ht8, hbk, hlo, hhi⟩ := ten_rows ⟨j, jb⟩
  have hB : Box0 ty rm R0 := ⟨hR0, hk, ht8, hbk, hlo, hhi, by omega⟩
  rcases hcs with ⟨rfl, h1, h2, h3, h4⟩ | ⟨rfl, h | h | h | h⟩
  · exact strict_0 hT.1 hT.2 i1 i2 i3 hj jb hty hB ⟨h1, h2, h3, h4⟩
  · exact strict_1 hT.1 hT.2 i1 i2 i3 hj jb hty hB h
  · exact strict_2 hT.1 hT.2 i1 i2 i3 hj jb hty hB h
  · exact strict_3 hT.1 hT.2 i1 i2 i3 hj jb hty hB h
  · exact strict_4 hT.1 hT.2 i1 i2 i3 hj jb hty hB h
end Go.Proofs.YtfalkkkhhpnffaaDoor
