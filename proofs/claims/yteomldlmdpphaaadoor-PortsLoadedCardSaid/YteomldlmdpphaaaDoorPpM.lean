/- Ports that are made by acts. -/
import Derived.Test.YteomldlmdpphaaaDoorPpA
namespace Go.Proofs.YteomldlmdpphaaaDoor
open Go.RowKit
set_option linter.unusedVariables false
variable {b : Nat} {p : Po}
theorem Pb.first {W w' : World} (hL : LaidP W) (h : PoAt w' W.heap.size newPo (.slice none 0 0)) (u : Up W w') : Pb W [] W.heap.size newPo [] w' :=
  ⟨hL, newPo_ok, by decide, Nat.le_refl _, u, .slice none 0 0, h, ⟨by simp, Or.inl ⟨rfl, rfl⟩⟩, fun k o hk => by cases hk⟩
/-- what the acts make -/
def madeP (len : Nat) (f : Nat → Nat → Int) : Po × List Int := actsP f (newPo, []) (min len 200)
set_option maxRecDepth 100000 in
set_option maxHeartbeats 1000000 in
theorem made_any {W : World} (hL : LaidP W) {aa : Option Addr} {ab ao len cap : Nat} {f : Nat → Nat → Int} (hA : Acts W aa ab ao len cap f) :
    Calls Tryd.prog 13 #[.slice aa len cap] W fun e w' => e = .returned (.pointer (some ⟨W.heap.size, 0, none⟩)) ∧ Pb W [] W.heap.size (madeP len f).1 (madeP len f).2 w' := by
  have HN : Hid _ := new_any W
  have HL : Hid _ := hL
  have HA : Hid _ := hA
  clear hL hA
  go_enter Tryd.func13, Tryd.ntmps13
  go_wp2_with fail
  refine Calls.mono HN.out ?_
  rintro e w1 ⟨rfl, h1, u1⟩
  have P1 : Hid _ := Pb.first HL.out h1 u1
  clear h1 u1 HN
  go_wp2_with fail
  refine (P1.out.read 3 (by decide) (by decide)).mono ?_
  rintro e w2 ⟨rfl, h2⟩
  have P2 : Hid _ := h2
  clear h2 P1
  have e2 : newPo.rd 3 = 171 := by decide
  rw [e2]
  clear e2
  go_wp2_with fail
  refine (P2.out.acts HA.out).mono ?_
  rintro e w3 ⟨rfl, h3⟩
  have P3 : Hid _ := h3
  clear h3 P2
  go_wp2
  go_ret
  exact ⟨rfl, P3.out⟩
end Go.Proofs.YteomldlmdpphaaaDoor
