/- The rows of acts, over the translation: high. -/
import Derived.Test.YtdkibohpdkdooaaGreatDoorCpR
namespace Go.Proofs.YtdkibohpdkdooaaGreatDoor
open Go.RowKit
set_option linter.unusedVariables false
set_option maxRecDepth 100000 in
set_option maxHeartbeats 4000000 in
theorem highRow_2 (y : Int) (w : World) (h0 : 0 ≤ y) (h1 : y ≤ 7) :
    Calls Tryz.prog 63 #[.int .u8 y, .int .u8 2] w fun e w' => e = .returned (.agg (high2.getD y.toNat noRow).cells) ∧ Up w w' := by
  generalize hR : (high2.getD y.toNat noRow) = R
  go_enter Tryz.func63, Tryz.ntmps63
  go_wp2_with (first
    | (refine wpList_index_agg rfl 92 _ _ rfl 75 8 8 _ R.cells .u8 y _ rfl rfl Tryz.underlying92 (by omega) (by omega) Tryz.underlying75 rfl (by kernel_rfl) (by subst hR; rcases cases8 h0 h1 with rfl | rfl | rfl | rfl | rfl | rfl | rfl | rfl <;> kernel_rfl) ?_; clear hR)
    | (refine wpList_store_rowTo rfl 75 _ _ rfl rfl w.heap.size R.cells rfl rfl 75 _ (heap_alloc_new w _) (by kernel_rfl) rfl (cells_one R) ?_))
  refine bodyPost_ret (v := .agg _) (results_row Tryz.results63 _ _ _ 75 _ (0, 0) _ rfl (setRow_heap _ _ _ _ _ _ (heap_alloc_new w _)) Tryz.underlying75 rfl (by kernel_rfl)) rfl ⟨rfl, ((Up.refl w).alloc _).setRow (Nat.le_refl _) _⟩
set_option maxRecDepth 100000 in
set_option maxHeartbeats 4000000 in
theorem highRow_3 (y : Int) (w : World) (h0 : 0 ≤ y) (h1 : y ≤ 7) :
    Calls Tryz.prog 63 #[.int .u8 y, .int .u8 3] w fun e w' => e = .returned (.agg (high3.getD y.toNat noRow).cells) ∧ Up w w' := by
  generalize hR : (high3.getD y.toNat noRow) = R
  go_enter Tryz.func63, Tryz.ntmps63
  go_wp2_with (first
    | (refine wpList_index_agg rfl 92 _ _ rfl 75 8 8 _ R.cells .u8 y _ rfl rfl Tryz.underlying92 (by omega) (by omega) Tryz.underlying75 rfl (by kernel_rfl) (by subst hR; rcases cases8 h0 h1 with rfl | rfl | rfl | rfl | rfl | rfl | rfl | rfl <;> kernel_rfl) ?_; clear hR)
    | (refine wpList_store_rowTo rfl 75 _ _ rfl rfl w.heap.size R.cells rfl rfl 75 _ (heap_alloc_new w _) (by kernel_rfl) rfl (cells_one R) ?_))
  refine bodyPost_ret (v := .agg _) (results_row Tryz.results63 _ _ _ 75 _ (0, 0) _ rfl (setRow_heap _ _ _ _ _ _ (heap_alloc_new w _)) Tryz.underlying75 rfl (by kernel_rfl)) rfl ⟨rfl, ((Up.refl w).alloc _).setRow (Nat.le_refl _) _⟩
end Go.Proofs.YtdkibohpdkdooaaGreatDoor
