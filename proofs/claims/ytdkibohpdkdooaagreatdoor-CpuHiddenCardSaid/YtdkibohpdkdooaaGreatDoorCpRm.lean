/- The rows of acts, over the translation: moves. -/
import Derived.Test.YtdkibohpdkdooaaGreatDoorCpR
namespace Go.Proofs.YtdkibohpdkdooaaGreatDoor
open Go.RowKit
set_option linter.unusedVariables false
set_option maxRecDepth 100000 in
set_option maxHeartbeats 8000000 in
theorem moveRow_any (y z : Int) (w : World) (h0 : 0 ≤ y) (h1 : y ≤ 7) (h2 : 0 ≤ z) (h3 : z ≤ 7) :
    Calls Tryz.prog 61 #[.int .u8 y, .int .u8 z] w fun e w' => e = .returned (.agg (moveP y z).cells) ∧ Up w w' := by
  have hy := cases8 h0 h1
  have hz := cases8 h2 h3
  clear h0 h1 h2 h3
  rcases hz with rfl | rfl | rfl | rfl | rfl | rfl | rfl | rfl
  all_goals rcases hy with rfl | rfl | rfl | rfl | rfl | rfl | rfl | rfl
  all_goals
    go_enter Tryz.func61, Tryz.ntmps61
    go_wp2
    refine bodyPost_ret (v := .agg _) (results_row Tryz.results61 _ _ _ 75 _ (0, 0) _ rfl (heap_alloc_new _ _) Tryz.underlying75 rfl (by kernel_rfl)) rfl ⟨rfl, (Up.refl w).alloc _⟩
end Go.Proofs.YtdkibohpdkdooaaGreatDoor
