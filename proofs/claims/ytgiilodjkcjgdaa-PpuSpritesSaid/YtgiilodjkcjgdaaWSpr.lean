/- PpuSprites: the walk. -/
import Derived.Test.YtgiilodjkcjgdaaWSpA
import Derived.Test.YtgiilodjkcjgdaaWSpB
import Derived.Test.YtgiilodjkcjgdaaWSpC
import Derived.Test.YtgiilodjkcjgdaaWSpD
namespace Go.Proofs.Ytgiilodjkcjgdaa
open Go.RowKit
set_option linter.unusedVariables false
variable {b : Nat} {p : Pic}
theorem sprites_walk {W : World} {aa : Option Addr} {ab ao len cap : Nat} {f : Nat → Int} {r0 c0 k0 : Int} (D : Byts W aa ab ao len cap f) (hr : I64 r0) (hc : I64 c0) (hk : I64 k0) :
    Calls Try.prog 11 #[.slice aa len cap, .int .i64 r0, .int .i64 c0, .int .i64 k0] W fun e w' => e = .returned (.bool true) ∧ Up W w' := by
  have g := and16_i64 (pickI k0 256) (pickI_lo k0 256 (by decide)) (by have := pickI_hi k0 256 (by decide); omega)
  by_cases h : bits .and .u8 (pickI k0 256) 16 = 0
  · have t1 : (bits .and .i64 (pickI k0 256) 16 != 0) = false := by rw [g, h]; rfl
    have hQ : sprQ (pickI k0 256) = 228 := if_pos h
    by_cases h6 : bits .and .u8 (pickI k0 256) 64 = 0
    · exact sprites_walkA D hr hc hk t1 hQ h6
    · exact sprites_walkB D hr hc hk t1 hQ h6
  · have t1 : (bits .and .i64 (pickI k0 256) 16 != 0) = true := by rw [g]; exact bne_iff_ne.2 h
    have hQ : sprQ (pickI k0 256) = 27 := if_neg h
    by_cases h6 : bits .and .u8 (pickI k0 256) 64 = 0
    · exact sprites_walkC D hr hc hk t1 hQ h6
    · exact sprites_walkD D hr hc hk t1 hQ h6
end Go.Proofs.Ytgiilodjkcjgdaa
