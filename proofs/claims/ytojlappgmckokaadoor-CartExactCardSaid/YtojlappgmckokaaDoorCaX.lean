/- Cart: the bank of RAM that a mapper shows. -/
import Derived.Test.YtojlappgmckokaaDoorCaL
namespace Go.Proofs.YtojlappgmckokaaDoor
open Go.Shelf Go.RowKit
set_option linter.unusedVariables false
set_option linter.unusedSimpArgs false
variable {w w' W : World} {b : Nat} {on pick mode low high : Nat}
set_option maxRecDepth 100000 in
theorem ram_2 (h0 : W.cell? ⟨b, 0, none⟩ = some (.int .u8 (on : Int))) : Calls Tryd.prog 100 #[.pointer (some ⟨b, 0, none⟩)] W fun e w' => e = .returned (.tuple #[.int .i64 0, .bool ((on : Int) == 1)]) ∧ Up W w' := by
  go_enter Tryd.func100, Tryd.ntmps100
  go_wp2_with fail
  go_quiet (fail)
  go_wp2_with fail
  first | go_ret | go_ret2
  exact ⟨by first | rfl | (simp; done) | (simp [*]; done), Up.drewN _ _⟩
set_option maxRecDepth 100000 in
theorem ram_5 (h0 : W.cell? ⟨b, 0, none⟩ = some (.int .u8 (on : Int))) (h3 : W.cell? ⟨b, 3, none⟩ = some (.int .u8 (pick : Int))) (hp : pick ≤ 15) : Calls Tryd.prog 110 #[.pointer (some ⟨b, 0, none⟩)] W fun e w' => e = .returned (.tuple #[.int .i64 (pick : Int), .bool ((on : Int) == 1)]) ∧ Up W w' := by
  go_enter Tryd.func110, Tryd.ntmps110
  go_wp2_with fail
  go_quiet (fail)
  go_wp2_with fail
  first | go_ret | go_ret2
  exact ⟨by first | rfl | (simp; done) | (simp [*]; done), Up.drewN _ _⟩
set_option maxRecDepth 100000 in
theorem ram_3 (h0 : W.cell? ⟨b, 0, none⟩ = some (.int .u8 (on : Int))) (h2 : W.cell? ⟨b, 2, none⟩ = some (.int .u8 (pick : Int))) (hp : pick ≤ 15) : Calls Tryd.prog 105 #[.pointer (some ⟨b, 0, none⟩)] W fun e w' => e = .returned (.tuple #[.int .i64 (pick : Int), .bool (((on : Int) == 1) && decide ((pick : Int) < 4))]) ∧ Up W w' := by
  by_cases ho : (on : Int) = 1
  · have z : ((on : Int) == 1) = true := by rw [beq_iff_eq]; exact ho
    clear ho
    go_enter Tryd.func105, Tryd.ntmps105
    go_wp2_with fail
    go_quiet (fail)
    go_wp2_with fail
    first | go_ret | go_ret2
    exact ⟨by first | rfl | (simp; done) | (simp [*]; done), Up.drewN _ _⟩
  · have z : ((on : Int) == 1) = false := by rw [beq_eq_false_iff_ne]; exact ho
    clear ho
    go_enter Tryd.func105, Tryd.ntmps105
    go_wp2_with fail
    go_quiet (fail)
    go_wp2_with fail
    first | go_ret | go_ret2
    exact ⟨by first | rfl | (simp; done) | (simp [*]; done), Up.drewN _ _⟩
set_option maxRecDepth 100000 in
theorem ram_1 (h0 : W.cell? ⟨b, 0, none⟩ = some (.int .u8 (on : Int))) (h2 : W.cell? ⟨b, 2, none⟩ = some (.int .u8 (pick : Int))) (h3 : W.cell? ⟨b, 3, none⟩ = some (.int .u8 (mode : Int))) (hp : pick ≤ 15) (hm : mode ≤ 1) : Calls Tryd.prog 94 #[.pointer (some ⟨b, 0, none⟩)] W fun e w' => e = .returned (.tuple #[.int .i64 ((if mode = 0 then 0 else pick : Nat) : Int), .bool ((on : Int) == 1)]) ∧ Up W w' := by
  have HF : Hid (∀ w, Up W w → Calls Tryd.prog 91 #[.pointer (some ⟨b, 0, none⟩)] w fun e w' => e = .returned (.int .i64 ((if mode = 0 then 0 else pick : Nat) : Int)) ∧ w' = w) := fun w u => further_1 (cell_up u h2) (cell_up u h3) hp hm
  obtain ⟨q, hq, hq2⟩ : ∃ q, (if mode = 0 then 0 else pick) = q ∧ q ≤ 15 := ⟨_, rfl, by split <;> omega⟩
  rw [hq] at HF ⊢
  clear h2 h3 hq
  go_enter Tryd.func94, Tryd.ntmps94
  go_wp2_with fail
  go_quiet ((go_at_call 91; exact Calls.quiet_of_same (HF.out _ (by first | exact Up.refl _ | exact Up.drewN _ _ | exact (Up.refl _).drew))))
  go_wp2_with fail
  first | go_ret | go_ret2
  exact ⟨by first | rfl | (simp; done), Up.drewN _ _⟩
end Go.Proofs.YtojlappgmckokaaDoor
