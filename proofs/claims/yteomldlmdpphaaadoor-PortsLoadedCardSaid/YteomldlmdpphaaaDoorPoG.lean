/- The ports' timer: what changes its drive. -/
import Derived.Test.YteomldlmdpphaaaDoorPoF
namespace Go.Proofs.YteomldlmdpphaaaDoor
open Go.RowKit
set_option linter.unusedVariables false
variable {b : Nat} {p : Po}
def Po.drive (p : Po) : Bool := !decide (p.ct < 4) && (bits .and .u16 p.co (drv p.ct) != 0)
set_option maxRecDepth 100000 in
theorem drive_any (o : p.Ok) (v : Value) (W : World) (h : PoAt W b p v) (hL : LaidP W) :
    Calls Tryd.prog 97 #[.pointer (some ⟨b, 0, none⟩)] W fun e w' => e = .returned (.bool p.drive) ∧ PoAt w' b p v ∧ Fr b W w' := by
  have ce := ctF' p.ct o.ct.1 (by have := o.ct.2; omega) o.ct.2
  have HD : Hid (∀ W, PoAt W b p v → LaidP W → Calls Tryd.prog 69 #[.pointer (some ⟨b, 0, none⟩)] W fun e w' => e = .returned (.int .u16 (drv p.ct)) ∧ w' = W) := fun W h hL => driver_any o v W h hL
  obtain ⟨c0, c1, c2, c3, c4, c5, c6, c7, c8, c9, c10, c11, c12⟩ := h.all
  have H : Hid (PoAt W b p v) := h
  have HL : Hid _ := hL
  clear h hL
  unfold Po.drive
  by_cases e : p.ct < 4
  · rw [decide_eq_true e] at ce ⊢
    clear e
    go_enter Tryd.func97, Tryd.ntmps97
    go_wp2_with fail
    try dsimp only [List.append]
    go_quiet ((go_at_call 69; exact Calls.quiet_of_same (HD.out _ (by exact H.out) (by exact HL.out))))
    go_wp2
    go_ret
    exact ⟨by first | rfl | (simp; done), H.out.up (by first | exact Up.drewN W _ | exact (Up.refl W).drew | exact Up.refl W), Fr.ofUp (by first | exact Up.drewN W _ | exact (Up.refl W).drew | exact Up.refl W)⟩
  · rw [decide_eq_false e] at ce ⊢
    clear e
    go_enter Tryd.func97, Tryd.ntmps97
    go_wp2_with fail
    try dsimp only [List.append]
    go_quiet ((go_at_call 69; exact Calls.quiet_of_same (HD.out _ (by exact H.out) (by exact HL.out))))
    go_wp2
    go_ret
    exact ⟨by first | rfl | (simp; done), H.out.up (by first | exact Up.drewN W _ | exact (Up.refl W).drew | exact Up.refl W), Fr.ofUp (by first | exact Up.drewN W _ | exact (Up.refl W).drew | exact Up.refl W)⟩
end Go.Proofs.YteomldlmdpphaaaDoor
