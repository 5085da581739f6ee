/- The rows of acts, over the translation: low. -/
import Derived.Test.YtdkibohpdkdooaaGreatDoorCpR
namespace Go.Proofs.YtdkibohpdkdooaaGreatDoor
open Go.RowKit
set_option linter.unusedVariables false
set_option maxRecDepth 100000 in
set_option maxHeartbeats 4000000 in
theorem lowRow_0 (y : Int) (w : World) (h0 : 0 ≤ y) (h1 : y ≤ 7) :
    Calls Tryz.prog 58 #[.int .u8 y, .int .u8 0] w fun e w' => e = .returned (.agg (low0.getD y.toNat noRow).cells) ∧ Up w w' := by
  generalize hR : (low0.getD y.toNat noRow) = R
  go_enter Tryz.func58, Tryz.ntmps58
  go_wp2_with (first
    | (refine wpList_index_agg rfl 92 _ _ rfl 75 8 8 _ R.cells .u8 y _ rfl rfl Tryz.underlying92 (by omega) (by omega) Tryz.underlying75 rfl (by kernel_rfl) (by subst hR; rcases cases8 h0 h1 with rfl | rfl | rfl | rfl | rfl | rfl | rfl | rfl <;> kernel_rfl) ?_; clear hR)
    | (refine wpList_store_rowTo rfl 75 _ _ rfl rfl w.heap.size R.cells rfl rfl 75 _ (heap_alloc_new w _) (by kernel_rfl) rfl (cells_one R) ?_))
  refine bodyPost_ret (v := .agg _) (results_row Tryz.results58 _ _ _ 75 _ (0, 0) _ rfl (setRow_heap _ _ _ _ _ _ (heap_alloc_new w _)) Tryz.underlying75 rfl (by kernel_rfl)) rfl ⟨rfl, ((Up.refl w).alloc _).setRow (Nat.le_refl _) _⟩
set_option maxRecDepth 100000 in
set_option maxHeartbeats 4000000 in
theorem lowRow_1 (y : Int) (w : World) (h0 : 0 ≤ y) (h1 : y ≤ 7) :
    Calls Tryz.prog 58 #[.int .u8 y, .int .u8 1] w fun e w' => e = .returned (.agg (low1.getD (y % 2).toNat noRow).cells) ∧ Up w w' := by
  have hy : ∃ q : Int, bits .and .u8 y 1 = q ∧ q = y % 2 := ⟨_, u8_and1 y h0 (by omega), rfl⟩
  obtain ⟨q, hq, hqy⟩ := hy
  have hq0 : 0 ≤ q := by omega
  have hq1 : q ≤ 1 := by omega
  rw [← hqy]
  clear hqy h0 h1
  generalize hR : (low1.getD q.toNat noRow) = R
  go_enter Tryz.func58, Tryz.ntmps58
  go_wp2_with (first
    | (refine wpList_index_agg rfl 93 _ _ rfl 75 2 8 _ R.cells .u8 q _ rfl (by first | rfl | (simp only [Act.eval]; simp)) Tryz.underlying93 (by omega) (by omega) Tryz.underlying75 rfl (by kernel_rfl) (by subst hR; rcases (show q = 0 ∨ q = 1 by omega) with rfl | rfl <;> kernel_rfl) ?_; clear hR)
    | (refine wpList_store_rowTo rfl 75 _ _ rfl rfl w.heap.size R.cells rfl rfl 75 _ (heap_alloc_new w _) (by kernel_rfl) rfl (cells_one R) ?_))
  refine bodyPost_ret (v := .agg _) (results_row Tryz.results58 _ _ _ 75 _ (0, 0) _ rfl (setRow_heap _ _ _ _ _ _ (heap_alloc_new w _)) Tryz.underlying75 rfl (by kernel_rfl)) rfl ⟨rfl, ((Up.refl w).alloc _).setRow (Nat.le_refl _) _⟩
set_option maxRecDepth 100000 in
set_option maxHeartbeats 4000000 in
theorem lowRow_3 (y : Int) (w : World) (h0 : 0 ≤ y) (h1 : y ≤ 7) :
    Calls Tryz.prog 58 #[.int .u8 y, .int .u8 3] w fun e w' => e = .returned (.agg (low3.getD (y % 2).toNat noRow).cells) ∧ Up w w' := by
  have hy : ∃ q : Int, bits .and .u8 y 1 = q ∧ q = y % 2 := ⟨_, u8_and1 y h0 (by omega), rfl⟩
  obtain ⟨q, hq, hqy⟩ := hy
  have hq0 : 0 ≤ q := by omega
  have hq1 : q ≤ 1 := by omega
  rw [← hqy]
  clear hqy h0 h1
  generalize hR : (low3.getD q.toNat noRow) = R
  go_enter Tryz.func58, Tryz.ntmps58
  go_wp2_with (first
    | (refine wpList_index_agg rfl 93 _ _ rfl 75 2 8 _ R.cells .u8 q _ rfl (by first | rfl | (simp only [Act.eval]; simp)) Tryz.underlying93 (by omega) (by omega) Tryz.underlying75 rfl (by kernel_rfl) (by subst hR; rcases (show q = 0 ∨ q = 1 by omega) with rfl | rfl <;> kernel_rfl) ?_; clear hR)
    | (refine wpList_store_rowTo rfl 75 _ _ rfl rfl w.heap.size R.cells rfl rfl 75 _ (heap_alloc_new w _) (by kernel_rfl) rfl (cells_one R) ?_))
  refine bodyPost_ret (v := .agg _) (results_row Tryz.results58 _ _ _ 75 _ (0, 0) _ rfl (setRow_heap _ _ _ _ _ _ (heap_alloc_new w _)) Tryz.underlying75 rfl (by kernel_rfl)) rfl ⟨rfl, ((Up.refl w).alloc _).setRow (Nat.le_refl _) _⟩
set_option maxRecDepth 100000 in
set_option maxHeartbeats 4000000 in
theorem lowRow_2 (y  : Int) (w : World) (h0 : 0 ≤ y) (h1 : y ≤ 7) :
    Calls Tryz.prog 58 #[.int .u8 y, .int .u8 2] w fun e w' => e = .returned (.agg (thru.getD y.toNat noRow).cells) ∧ Up w w' := by
  have H : Hid (∀ W : World, Calls Tryz.prog 82 #[.int .u8 y] W fun e w' => e = .returned (.agg (thru.getD y.toNat noRow).cells) ∧ Up W w') := fun W => throughRow_any y W h0 h1
  generalize (thru.getD y.toNat noRow) = R at H ⊢
  clear h0 h1
  go_enter Tryz.func58, Tryz.ntmps58
  go_wp2_with (first
    | (go_at_call 82; refine (H.out _).mono ?_; rintro e w1 ⟨rfl, hu⟩
       have hu0 := hu
       have hw1 : Hid (w1.heap[w.heap.size]? = _) := (hu.block _ (by simp)).trans (heap_alloc_new w _)
       have hup : Hid (Up w w1) := ((Up.refl w).alloc _).trans hu
       clear hu hu0)
    | (refine wpList_store_rowTo rfl 75 _ _ rfl rfl w.heap.size R.cells rfl rfl 75 _ hw1.out (by kernel_rfl) rfl (cells_one R) ?_))
  refine bodyPost_ret (v := .agg _) (results_row Tryz.results58 _ _ _ 75 _ (0, 0) _ rfl (setRow_heap _ _ _ _ _ _ hw1.out) Tryz.underlying75 rfl (by kernel_rfl)) rfl ⟨rfl, hup.out.setRow (Nat.le_refl _) _⟩
end Go.Proofs.YtdkibohpdkdooaaGreatDoor
