/- CpuBits: the walk . -/
import Derived.Test.YtbfjihcnnefehaaGreatDoorWBi
import Derived.Test.YtbfjihcnnefehaaGreatDoorWBj
namespace Go.Proofs.YtbfjihcnnefehaaGreatDoor
open Go.RowKit
set_option linter.unusedVariables false
theorem bits_walk (g : Rg) (i : g.In) (bit which : Int) (h1 : I64 bit) (h2 : I64 which) (w : World) (hB : LaidB w) :
    Calls Tryz.prog 6 #[.agg g.cells, .int .i64 bit, .int .i64 which] w fun e w' => e = .returned (.bool true) ∧ Up w w' := by
  obtain ⟨K, hKe⟩ : ∃ K : Nat, pickI bit 8 = (K : Int) := ⟨(pickI bit 8).toNat, by have := pickI_lo bit 8 (by decide); omega⟩
  obtain ⟨N, hNe⟩ : ∃ N : Nat, pickI which 8 = (N : Int) := ⟨(pickI which 8).toNat, by have := pickI_lo which 8 (by decide); omega⟩
  have hK : K < 8 := by have := pickI_hi bit 8 (by decide); omega
  have hN : N < 8 := by have := pickI_hi which 8 (by decide); omega
  have HB : Hid (∀ W, Calls Tryz.prog 14 #[.agg #[.int .i64 g.a, .int .i64 g.f, .int .i64 g.b, .int .i64 g.c, .int .i64 g.d, .int .i64 g.e, .int .i64 g.h, .int .i64 g.l, .int .i64 g.sp, .int .i64 g.pc, .bool g.ime, .int .i64 g.state]] W fun e w' => e = .returned (.agg (bnd g).cells) ∧ Up W w') := fun W => bounded_any g i W
  have o := bnd_ok g
  have hs : (bnd g).state = 0 := rfl
  generalize bnd g = G at HB o hs
  by_cases h6 : N = 6
  · subst h6
    exact bits_mem g G bit which K hK o hs HB h1 h2 hKe hNe w hB
  · exact bits_reg g G bit which K N hK hN h6 o hs HB h1 h2 hKe hNe w hB
end Go.Proofs.YtbfjihcnnefehaaGreatDoor
