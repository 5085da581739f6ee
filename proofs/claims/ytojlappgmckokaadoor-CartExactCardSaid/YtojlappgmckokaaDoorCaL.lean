/- Cart: what mappers tell. -/
import Derived.Test.YtojlappgmckokaaDoorCaK
namespace Go.Proofs.YtojlappgmckokaaDoor
open Go.Shelf Go.RowKit
set_option linter.unusedVariables false
set_option linter.unusedSimpArgs false
variable {w w' W : World} {g n b : Nat} {f : Nat → Int} {v : Value} {on low high pick mode : Nat}
set_option maxRecDepth 100000 in
theorem lower_0 : Calls Tryd.prog 114 #[.agg #[]] W fun e w' => e = .returned (.int .i64 0) ∧ Up W w' := by
  go_enter Tryd.func114, Tryd.ntmps114
  go_wp2_with fail
  first | go_ret | go_ret2
  exact ⟨by first | rfl | (simp; done), (Up.refl W).alloc _⟩
set_option maxRecDepth 100000 in
theorem upper_0 : Calls Tryd.prog 117 #[.agg #[]] W fun e w' => e = .returned (.int .i64 1) ∧ Up W w' := by
  go_enter Tryd.func117, Tryd.ntmps117
  go_wp2_with fail
  first | go_ret | go_ret2
  exact ⟨by first | rfl | (simp; done), (Up.refl W).alloc _⟩
set_option maxRecDepth 100000 in
theorem kept_0 : Calls Tryd.prog 113 #[.agg #[]] W fun e w' => e = .returned (.int .u8 255) ∧ Up W w' := by
  go_enter Tryd.func113, Tryd.ntmps113
  go_wp2_with fail
  first | go_ret | go_ret2
  exact ⟨by first | rfl | (simp; done), (Up.refl W).alloc _⟩
set_option maxRecDepth 100000 in
theorem ram_0 : Calls Tryd.prog 115 #[.agg #[]] W fun e w' => e = .returned (.tuple #[.int .i64 0, .bool true]) ∧ Up W w' := by
  go_enter Tryd.func115, Tryd.ntmps115
  go_wp2_with fail
  first | go_ret | go_ret2
  exact ⟨by first | rfl | (simp; done), (Up.refl W).alloc _⟩
set_option maxRecDepth 100000 in
theorem kept_1 : Calls Tryd.prog 92 #[.pointer (some ⟨b, 0, none⟩)] W fun e w' => e = .returned (.int .u8 255) ∧ w' = W := by
  go_enter Tryd.func92, Tryd.ntmps92
  go_wp2_with fail
  go_ret
  exact ⟨by first | rfl | (simp; done), rfl⟩
set_option maxRecDepth 100000 in
theorem kept_2 : Calls Tryd.prog 98 #[.pointer (some ⟨b, 0, none⟩)] W fun e w' => e = .returned (.int .u8 15) ∧ w' = W := by
  go_enter Tryd.func98, Tryd.ntmps98
  go_wp2_with fail
  go_ret
  exact ⟨by first | rfl | (simp; done), rfl⟩
set_option maxRecDepth 100000 in
theorem kept_3 : Calls Tryd.prog 103 #[.pointer (some ⟨b, 0, none⟩)] W fun e w' => e = .returned (.int .u8 255) ∧ w' = W := by
  go_enter Tryd.func103, Tryd.ntmps103
  go_wp2_with fail
  go_ret
  exact ⟨by first | rfl | (simp; done), rfl⟩
set_option maxRecDepth 100000 in
theorem kept_5 : Calls Tryd.prog 108 #[.pointer (some ⟨b, 0, none⟩)] W fun e w' => e = .returned (.int .u8 255) ∧ w' = W := by
  go_enter Tryd.func108, Tryd.ntmps108
  go_wp2_with fail
  go_ret
  exact ⟨by first | rfl | (simp; done), rfl⟩
set_option maxRecDepth 100000 in
theorem lower_2 : Calls Tryd.prog 99 #[.pointer (some ⟨b, 0, none⟩)] W fun e w' => e = .returned (.int .i64 0) ∧ w' = W := by
  go_enter Tryd.func99, Tryd.ntmps99
  go_wp2_with fail
  go_ret
  exact ⟨by first | rfl | (simp; done), rfl⟩
set_option maxRecDepth 100000 in
theorem lower_3 : Calls Tryd.prog 104 #[.pointer (some ⟨b, 0, none⟩)] W fun e w' => e = .returned (.int .i64 0) ∧ w' = W := by
  go_enter Tryd.func104, Tryd.ntmps104
  go_wp2_with fail
  go_ret
  exact ⟨by first | rfl | (simp; done), rfl⟩
set_option maxRecDepth 100000 in
theorem lower_5 : Calls Tryd.prog 109 #[.pointer (some ⟨b, 0, none⟩)] W fun e w' => e = .returned (.int .i64 0) ∧ w' = W := by
  go_enter Tryd.func109, Tryd.ntmps109
  go_wp2_with fail
  go_ret
  exact ⟨by first | rfl | (simp; done), rfl⟩
set_option maxRecDepth 100000 in
theorem further_1 (h2 : W.cell? ⟨b, 2, none⟩ = some (.int .u8 (pick : Int))) (h3 : W.cell? ⟨b, 3, none⟩ = some (.int .u8 (mode : Int))) (hp : pick ≤ 15) (hm : mode ≤ 1) : Calls Tryd.prog 91 #[.pointer (some ⟨b, 0, none⟩)] W fun e w' => e = .returned (.int .i64 ((if mode = 0 then 0 else pick : Nat) : Int)) ∧ w' = W := by
  by_cases hz : mode = 0
  · subst hz
    go_enter Tryd.func91, Tryd.ntmps91
    go_wp2_with fail
    go_ret
    exact ⟨by first | rfl | (simp; done), rfl⟩
  · have e1 : ¬ (mode : Int) = 0 := by omega
    rw [if_neg hz]
    go_enter Tryd.func91, Tryd.ntmps91
    go_wp2_with fail
    go_ret
    exact ⟨by first | rfl | (simp; done), rfl⟩
set_option maxRecDepth 100000 in
theorem lower_1 (h2 : W.cell? ⟨b, 2, none⟩ = some (.int .u8 (pick : Int))) (h3 : W.cell? ⟨b, 3, none⟩ = some (.int .u8 (mode : Int))) (hp : pick ≤ 15) (hm : mode ≤ 1) : Calls Tryd.prog 93 #[.pointer (some ⟨b, 0, none⟩)] W fun e w' => e = .returned (.int .i64 ((32 * (if mode = 0 then 0 else pick) : Nat) : Int)) ∧ w' = W := by
  have HF : Hid _ := further_1 h2 h3 hp hm
  obtain ⟨q, hq, hq2⟩ : ∃ q, (if mode = 0 then 0 else pick) = q ∧ q ≤ 15 := ⟨_, rfl, by split <;> omega⟩
  rw [hq] at HF ⊢
  clear h2 h3 hq
  go_enter Tryd.func93, Tryd.ntmps93
  go_wp2_with fail
  refine Calls.mono HF.out ?_
  rintro e w' ⟨rfl, hw'⟩
  obtain rfl := hw'.symm
  go_wp2_with fail
  go_ret
  exact ⟨ret1 (by omega), rfl⟩
set_option maxRecDepth 100000 in
theorem upper_1 (h1 : W.cell? ⟨b, 1, none⟩ = some (.int .u8 (low : Int))) (h2 : W.cell? ⟨b, 2, none⟩ = some (.int .u8 (pick : Int))) (hl : low ≤ 255) (hp : pick ≤ 15) : Calls Tryd.prog 96 #[.pointer (some ⟨b, 0, none⟩)] W fun e w' => e = .returned (.int .i64 ((low + 32 * pick : Nat) : Int)) ∧ Up W w' := by
  go_enter Tryd.func96, Tryd.ntmps96
  go_wp2_with fail
  go_quiet (fail)
  go_wp2_with fail
  go_ret
  exact ⟨ret1 (by omega), Up.drewN _ _⟩
set_option maxRecDepth 100000 in
theorem upper_5 (h1 : W.cell? ⟨b, 1, none⟩ = some (.int .u8 (low : Int))) (h2 : W.cell? ⟨b, 2, none⟩ = some (.int .u8 (high : Int))) (hl : low ≤ 255) (hp : high ≤ 1) : Calls Tryd.prog 112 #[.pointer (some ⟨b, 0, none⟩)] W fun e w' => e = .returned (.int .i64 ((low + 256 * high : Nat) : Int)) ∧ Up W w' := by
  go_enter Tryd.func112, Tryd.ntmps112
  go_wp2_with fail
  go_quiet (fail)
  go_wp2_with fail
  go_ret
  exact ⟨ret1 (by omega), Up.drewN _ _⟩
set_option maxRecDepth 100000 in
theorem upper_2 (h1 : W.cell? ⟨b, 1, none⟩ = some (.int .u8 (low : Int))) (hl : low ≤ 255) : Calls Tryd.prog 102 #[.pointer (some ⟨b, 0, none⟩)] W fun e w' => e = .returned (.int .i64 (low : Int)) ∧ w' = W := by
  go_enter Tryd.func102, Tryd.ntmps102
  go_wp2_with fail
  go_ret
  exact ⟨by first | rfl | (simp; done), rfl⟩
set_option maxRecDepth 100000 in
theorem upper_3 (h1 : W.cell? ⟨b, 1, none⟩ = some (.int .u8 (low : Int))) (hl : low ≤ 255) : Calls Tryd.prog 107 #[.pointer (some ⟨b, 0, none⟩)] W fun e w' => e = .returned (.int .i64 (low : Int)) ∧ w' = W := by
  go_enter Tryd.func107, Tryd.ntmps107
  go_wp2_with fail
  go_ret
  exact ⟨by first | rfl | (simp; done), rfl⟩
end Go.Proofs.YtojlappgmckokaaDoor
