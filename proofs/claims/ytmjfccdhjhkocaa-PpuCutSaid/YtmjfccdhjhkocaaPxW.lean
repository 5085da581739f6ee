/- Scenes: a place of a piece, a register. -/
import Derived.Test.YtmjfccdhjhkocaaPxV
import Derived.Test.YtmjfccdhjhkocaaPxM
namespace Go.Proofs.Ytmjfccdhjhkocaa
open Go.RowKit
set_option linter.unusedVariables false
variable {b : Nat} {p : Pic}
def spotI (a : Int) (k : Nat) : Int := 32768 + (wrap64 (pickI a 8192 + (k : Int))).tmod 8192
theorem spotI_lo (a : Int) (k : Nat) : 24576 < spotI a k := by
  unfold spotI
  have := Int.lt_tmod_of_pos (wrap64 (pickI a 8192 + (k : Int))) (show (0 : Int) < 8192 by decide)
  omega
theorem spotI_hi (a : Int) (k : Nat) : spotI a k < 40960 := by
  unfold spotI
  have := Int.tmod_lt_of_pos (wrap64 (pickI a 8192 + (k : Int))) (show (0 : Int) < 8192 by decide)
  omega
set_option maxRecDepth 100000 in
theorem spot_any (a : Int) (ha : I64 a) (v : Value) (k : Nat) (hk : (k : Int) ≤ 9223372036854775807) (W : World) : Calls Try.prog 52 #[.agg #[.int .i64 a, v], .int .i64 (k : Int)] W fun e w' => e = .returned (.int .i64 (spotI a k)) ∧ Up W w' := by
  have HP : Hid (∀ W, Calls Try.prog 19 #[.int .i64 a, .int .i64 8192] W fun e w' => e = .returned (.int .i64 (pickI a 8192)) ∧ w' = W) := fun W => pick_any a 8192 W ha (by decide) (by decide)
  have a1 := pickI_lo a 8192 (by decide)
  have a2 := pickI_hi a 8192 (by decide)
  have s1 := spotI_lo a k
  have s2 := spotI_hi a k
  unfold spotI at *
  clear ha
  generalize pickI a 8192 = A at *
  go_enter Try.func52, Try.ntmps52
  go_wp2_with fail
  refine (HP.out _).mono ?_
  rintro e w' ⟨rfl, hw'⟩
  obtain rfl := hw'.symm
  go_wp2_with fail
  go_ret
  exact ⟨by first | rfl | exact ret1 (by omega), (Up.refl W).alloc _⟩
def regN (r : Int) (i : Nat) : Int := if i = 0 then bits .or .i64 (pickI r 256) 128 else pickI r 256
set_option maxRecDepth 100000 in
theorem reg_any (rb ro cap : Nat) (oa pa : Value) (i : Nat) (hi : i < 12) (r : Int) (hr : I64 r) (W : World) (hc : W.cell? ⟨rb, ro + i, none⟩ = some (.int .i64 r)) :
    Calls Try.prog 53 #[.agg #[.slice (some ⟨rb, ro, none⟩) 12 cap, oa, pa], .int .i64 (i : Int)] W fun e w' => e = .returned (.int .i64 (regN r i)) ∧ Up W w' := by
  have HP : Hid (∀ W, Calls Try.prog 19 #[.int .i64 r, .int .i64 256] W fun e w' => e = .returned (.int .i64 (pickI r 256)) ∧ w' = W) := fun W => pick_any r 256 W hr (by decide) (by decide)
  have a1 := pickI_lo r 256 (by decide)
  have a2 := pickI_hi r 256 (by decide)
  have d1 : decide ((i : Int) < 12) = true := decide_eq_true (by omega)
  have i1 : (i : Int) < 12 := by omega
  have hc2 : (W.alloc (Obj.cells #[.slice (some ⟨rb, ro, none⟩) 12 cap, oa, pa] 37)).cell? ⟨rb, ro + i, none⟩ = some (.int .i64 r) := (((Up.refl W).alloc _).cell (World.block_lt_of_cell? _ _ hc)).trans hc
  unfold regN
  clear hr
  generalize pickI r 256 = A at *
  by_cases e0 : i = 0
  · rw [if_pos e0]
    have d0 : ((i : Int) == 0) = true := beq_iff_eq.2 (by omega)
    clear e0
    go_enter Try.func53, Try.ntmps53
    go_wp2_with fail
    refine (HP.out _).mono ?_
    rintro e w' ⟨rfl, hw'⟩
    obtain rfl := hw'.symm
    go_wp2_with fail
    go_ret
    exact ⟨rfl, (Up.refl W).alloc _⟩
  · rw [if_neg e0]
    have d0 : ((i : Int) == 0) = false := beq_eq_false_iff_ne.2 (by omega)
    clear e0
    go_enter Try.func53, Try.ntmps53
    go_wp2_with fail
    refine (HP.out _).mono ?_
    rintro e w' ⟨rfl, hw'⟩
    obtain rfl := hw'.symm
    go_wp2_with fail
    go_ret
    exact ⟨rfl, (Up.refl W).alloc _⟩
end Go.Proofs.Ytmjfccdhjhkocaa
