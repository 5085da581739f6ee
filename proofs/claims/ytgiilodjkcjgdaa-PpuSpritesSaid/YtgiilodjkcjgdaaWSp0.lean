/- One sprite: a point of the frame, plainly. -/
import Derived.Test.YtgiilodjkcjgdaaPsL
namespace Go.Proofs.Ytgiilodjkcjgdaa
open Go.RowKit
set_option linter.unusedVariables false
variable {b : Nat} {p : Pic}
theorem spr_in {T : Nat → Int} {r c k : Int} (hT : ∀ m, 0 ≤ T m ∧ T m ≤ 255) (y x vn hn un sn : Nat) (hv : vn < 8) (hh : hn < 8) (ev : (y : Int) + 16 - r = (vn : Int)) (eh : (x : Int) + 8 - c = (hn : Int)) (eu : un = if bits .and .u8 k 64 = 0 then vn else 7 - vn) (es : sn = if bits .and .u8 k 32 = 0 then 7 - hn else hn) (A B : Int) (eA : T (2 * un) / 2 ^ sn % 2 = A) (eB : T (2 * un + 1) / 2 ^ sn % 2 = B) : sprPoint T r c k y x = if A + 2 * B = 0 then 0 else colourI (sprQ k) (A + 2 * B) := by
  have eV : sprV r k y = un := by
    unfold sprV
    rw [ev, eu]
    split <;> omega
  have eS : (sprB k (hn : Int)).toNat = sn := by
    unfold sprB
    rw [es]
    split <;> omega
  have eN : sprN T r c k y (hn : Int) = A + 2 * B := by
    unfold sprN
    rw [eV, numberI_sum (hT _).1 (hT _).2 (hT _).1 (hT _).2, eS, eA, eB]
  unfold sprPoint
  rw [ev, eh, eN]
  by_cases h0 : A + 2 * B = 0
  · rw [if_pos h0, if_neg (fun a => a.2.2.2 h0)]
  · rw [if_neg h0, if_pos ⟨⟨by omega, by omega⟩, by omega, by omega, h0⟩]
theorem spr_out {T : Nat → Int} {r c k : Int} (y x : Nat) (h : ¬ ((0 ≤ (y : Int) + 16 - r ∧ (y : Int) + 16 - r < 8) ∧ 0 ≤ (x : Int) + 8 - c ∧ (x : Int) + 8 - c < 8)) : sprPoint T r c k y x = 0 := by
  unfold sprPoint
  rw [if_neg (fun a => h ⟨a.1, a.2.1, a.2.2.1⟩)]
end Go.Proofs.Ytgiilodjkcjgdaa
