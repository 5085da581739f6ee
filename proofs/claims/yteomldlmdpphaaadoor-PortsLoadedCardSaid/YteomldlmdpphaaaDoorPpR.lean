/- What is asked for, told without a change. -/
import Derived.Test.YteomldlmdpphaaaDoorPpM
namespace Go.Proofs.YteomldlmdpphaaaDoor
open Go.RowKit
set_option linter.unusedVariables false
variable {b : Nat} {p : Po}
theorem requests_same (o : p.Ok) (v : Value) (W : World) (h : PoAt W b p v) : Calls Tryd.prog 18 #[.pointer (some ⟨b, 0, none⟩)] W fun e w' => e = .returned (.int .i64 p.rq) ∧ w' = W := by
  obtain ⟨c0, c1, c2, c3, c4, c5, c6, c7, c8, c9, c10, c11, c12⟩ := h.all
  have r0 := o.rq.1
  have r1 := o.rq.2
  go_enter Tryd.func18, Tryd.ntmps18
  go_wp2
  go_ret
  exact ⟨rfl, rfl⟩
theorem Pb.reqs {W0 : World} {K : List (Nat × Obj)} {zs : List Int} {W : World} (h : Pb W0 K b p zs W) :
    Calls Tryd.prog 18 #[.pointer (some ⟨b, 0, none⟩)] W fun e w' => e = .returned (.int .i64 p.rq) ∧ w' = W := by
  obtain ⟨v, h1, _⟩ := h.row
  exact requests_same h.ok v W h1
end Go.Proofs.YteomldlmdpphaaaDoor
