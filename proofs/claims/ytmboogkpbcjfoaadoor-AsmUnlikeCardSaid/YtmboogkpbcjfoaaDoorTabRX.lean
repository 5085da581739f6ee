/- The tables of rules as they lie in memory: all. -/
import Derived.Test.YtmboogkpbcjfoaaDoorTabR3
import Derived.Test.YtmboogkpbcjfoaaDoorTabR0
namespace Go.Proofs.YtmboogkpbcjfoaaDoor
open Go.RowKit
set_option linter.unusedVariables false
set_option maxRecDepth 1000000 in
set_option maxHeartbeats 2000000 in
theorem first_3 (w : World) :
    Calls Tryd.prog 8 #[.int .i64 3] w fun e w' => ∃ v, e = .returned v ∧ RulesAt w' v rules3 ∧ Below w.heap.size w w' := by
  go_enter Tryd.func8, Tryd.ntmps8
  go_wp2_with fail
  refine (last_any _).mono ?_
  rintro e w1 ⟨v, rfl, hr, hb⟩
  go_wp2
  go_ret
  exact ⟨_, rfl, hr, hb⟩
theorem table_any (x : Nat) (second : Bool) (w : World) (hx : x < 4) :
    Calls Tryd.prog (if second then 9 else 8) #[.int .i64 x] w fun e w' => ∃ v, e = .returned v ∧ RulesAt w' v (rulesOf x second) ∧ Below w.heap.size w w' := by
  have h4 : x = 0 ∨ x = 1 ∨ x = 2 ∨ x = 3 := by omega
  cases second
  · rcases h4 with rfl | rfl | rfl | rfl
    · exact first_0 w
    · exact first_1 w
    · exact first_2 w
    · exact first_3 w
  · rcases h4 with rfl | rfl | rfl | rfl
    · exact second_0 w
    · exact second_1 w
    · exact second_2 w
    · exact second_3 w
end Go.Proofs.YtmboogkpbcjfoaaDoor
