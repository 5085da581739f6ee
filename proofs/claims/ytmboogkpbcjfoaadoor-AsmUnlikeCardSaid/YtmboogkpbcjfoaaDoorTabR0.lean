/- The tables of rules as they lie in memory, a part. -/
import Derived.Test.YtmboogkpbcjfoaaDoorTabR
namespace Go.Proofs.YtmboogkpbcjfoaaDoor
open Go.RowKit
set_option linter.unusedVariables false
set_option maxRecDepth 1000000 in
set_option maxHeartbeats 2000000 in
theorem first_0 (w : World) :
    Calls Tryd.prog 8 #[.int .i64 0] w fun e w' => ∃ v, e = .returned v ∧ RulesAt w' v rules0 ∧ Below w.heap.size w w' := by
  go_enter Tryd.func8, Tryd.ntmps8
  go_wp2
  go_ret
  exact ⟨_, rfl, ⟨w.heap.size, rfl, heap_alloc_new w _⟩, (Below.refl _ w).alloc (Nat.le_refl _) _⟩
end Go.Proofs.YtmboogkpbcjfoaaDoor
