/- The last table of rules as it lies in memory. -/
import Derived.Test.YtmboogkpbcjfoaaDoorTabR
namespace Go.Proofs.YtmboogkpbcjfoaaDoor
open Go.RowKit
set_option linter.unusedVariables false
set_option maxRecDepth 1000000 in
set_option maxHeartbeats 2000000 in
theorem last_any (w : World) :
    Calls Tryd.prog 14 #[] w fun e w' => ∃ v, e = .returned v ∧ RulesAt w' v rules3 ∧ Below w.heap.size w w' := by
  have hie : Tryd.prog.info? 40 = some Tryd.t40 := by kernel_rfl
  have hz : Tryd.t40.zero = some (.agg #[.int .i64 0, .int .u8 0, .string ⟨#[]⟩, .int .i64 0, .int .i64 0, .int .i64 0, .int .i64 0]) := by kernel_rfl
  go_enter Tryd.func14, Tryd.ntmps14
  go_wp2_with (refine wpList_buildSlice rfl 38 40 23 _ rfl (ruleCells rules3).toArray _ _ Tryd.underlying38 hie hz (by decide +kernel) (by decide +kernel) (by kernel_rfl) ?_)
  go_ret
  exact ⟨_, rfl, ⟨w.heap.size, rfl, heap_alloc_new w _⟩, (Below.refl _ w).alloc (Nat.le_refl _) _⟩
end Go.Proofs.YtmboogkpbcjfoaaDoor
