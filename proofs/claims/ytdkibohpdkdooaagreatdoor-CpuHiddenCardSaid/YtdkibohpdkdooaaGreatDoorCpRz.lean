/- The rows of acts, over the translation: all. -/
import Derived.Test.YtdkibohpdkdooaaGreatDoorCpRb
import Derived.Test.YtdkibohpdkdooaaGreatDoorCpRc
import Derived.Test.YtdkibohpdkdooaaGreatDoorCpRm
import Derived.Test.YtdkibohpdkdooaaGreatDoorCpRl
import Derived.Test.YtdkibohpdkdooaaGreatDoorCpRh
import Derived.Test.YtdkibohpdkdooaaGreatDoorCpRi
namespace Go.Proofs.YtdkibohpdkdooaaGreatDoor
open Go.RowKit
set_option linter.unusedVariables false
set_option maxRecDepth 100000 in
set_option maxHeartbeats 4000000 in
theorem lowRow_b (y z : Int) (w : World) (h0 : 0 ≤ y) (h1 : y ≤ 7) (h2 : 4 ≤ z) (h3 : z ≤ 7) :
    Calls Tryz.prog 58 #[.int .u8 y, .int .u8 z] w fun e w' => e = .returned (.agg (byteP y z).cells) ∧ Up w w' := by
  have H : Hid (∀ W : World, Calls Tryz.prog 85 #[.int .u8 y, .int .u8 z] W fun e w' => e = .returned (.agg (byteP y z).cells) ∧ Up W w') := fun W => byteRow_any y z W h0 h1 (by omega) h3
  generalize (byteP y z) = R at H ⊢
  have n0 : (z == 0) = false := beq_eq_false_iff_ne.2 (by omega)
  have n1 : (z == 1) = false := beq_eq_false_iff_ne.2 (by omega)
  have n2 : (z == 2) = false := beq_eq_false_iff_ne.2 (by omega)
  have n3 : (z == 3) = false := beq_eq_false_iff_ne.2 (by omega)
  clear h0 h1 h2 h3
  go_enter Tryz.func58, Tryz.ntmps58
  go_wp2_with (first
    | (go_at_call 85; refine (H.out _).mono ?_; rintro e w1 ⟨rfl, hu⟩
       have hu0 := hu
       have hw1 : Hid (w1.heap[w.heap.size]? = _) := (hu.block _ (by simp)).trans (heap_alloc_new w _)
       have hup : Hid (Up w w1) := ((Up.refl w).alloc _).trans hu
       clear hu hu0)
    | (refine wpList_store_rowTo rfl 75 _ _ rfl rfl w.heap.size R.cells rfl rfl 75 _ hw1.out (by kernel_rfl) rfl (cells_one R) ?_))
  refine bodyPost_ret (v := .agg _) (results_row Tryz.results58 _ _ _ 75 _ (0, 0) _ rfl (setRow_heap _ _ _ _ _ _ hw1.out) Tryz.underlying75 rfl (by kernel_rfl)) rfl ⟨rfl, hup.out.setRow (Nat.le_refl _) _⟩
set_option maxRecDepth 100000 in
set_option maxHeartbeats 4000000 in
theorem highRow_b (y z : Int) (w : World) (h0 : 0 ≤ y) (h1 : y ≤ 7) (h2 : 4 ≤ z) (h3 : z ≤ 7) :
    Calls Tryz.prog 63 #[.int .u8 y, .int .u8 z] w fun e w' => e = .returned (.agg (callP y z).cells) ∧ Up w w' := by
  have H : Hid (∀ W : World, Calls Tryz.prog 101 #[.int .u8 y, .int .u8 z] W fun e w' => e = .returned (.agg (callP y z).cells) ∧ Up W w') := fun W => callRow_any y z W h0 h1 (by omega) h3
  generalize (callP y z) = R at H ⊢
  have n0 : (z == 0) = false := beq_eq_false_iff_ne.2 (by omega)
  have n1 : (z == 1) = false := beq_eq_false_iff_ne.2 (by omega)
  have n2 : (z == 2) = false := beq_eq_false_iff_ne.2 (by omega)
  have n3 : (z == 3) = false := beq_eq_false_iff_ne.2 (by omega)
  clear h0 h1 h2 h3
  go_enter Tryz.func63, Tryz.ntmps63
  go_wp2_with (first
    | (go_at_call 101; refine (H.out _).mono ?_; rintro e w1 ⟨rfl, hu⟩
       have hu0 := hu
       have hw1 : Hid (w1.heap[w.heap.size]? = _) := (hu.block _ (by simp)).trans (heap_alloc_new w _)
       have hup : Hid (Up w w1) := ((Up.refl w).alloc _).trans hu
       clear hu hu0)
    | (refine wpList_store_rowTo rfl 75 _ _ rfl rfl w.heap.size R.cells rfl rfl 75 _ hw1.out (by kernel_rfl) rfl (cells_one R) ?_))
  refine bodyPost_ret (v := .agg _) (results_row Tryz.results63 _ _ _ 75 _ (0, 0) _ rfl (setRow_heap _ _ _ _ _ _ hw1.out) Tryz.underlying75 rfl (by kernel_rfl)) rfl ⟨rfl, hup.out.setRow (Nat.le_refl _) _⟩
theorem lowRow_any (y z : Int) (w : World) (h0 : 0 ≤ y) (h1 : y ≤ 7) (h2 : 0 ≤ z) (h3 : z ≤ 7) :
    Calls Tryz.prog 58 #[.int .u8 y, .int .u8 z] w fun e w' => e = .returned (.agg (lowP y z).cells) ∧ Up w w' := by
  unfold lowP
  by_cases e0 : z = 0
  · subst e0; simp only [if_true]; exact lowRow_0 y w h0 h1
  by_cases e1 : z = 1
  · subst e1; simp only [if_true, e0, if_false]; exact lowRow_1 y w h0 h1
  by_cases e2 : z = 2
  · subst e2; simp only [if_true, e0, e1, if_false]; exact lowRow_2 y w h0 h1
  by_cases e3 : z = 3
  · subst e3; simp only [if_true, e0, e1, e2, if_false]; exact lowRow_3 y w h0 h1
  simp only [e0, e1, e2, e3, if_false]
  exact lowRow_b y z w h0 h1 (by omega) h3
theorem highRow_any (y z : Int) (w : World) (h0 : 0 ≤ y) (h1 : y ≤ 7) (h2 : 0 ≤ z) (h3 : z ≤ 7) :
    Calls Tryz.prog 63 #[.int .u8 y, .int .u8 z] w fun e w' => e = .returned (.agg (highP y z).cells) ∧ Up w w' := by
  unfold highP
  by_cases e0 : z = 0
  · subst e0; simp only [if_true]; exact highRow_0 y w h0 h1
  by_cases e1 : z = 1
  · subst e1; simp only [if_true, e0, if_false]; exact highRow_1 y w h0 h1
  by_cases e2 : z = 2
  · subst e2; simp only [if_true, e0, e1, if_false]; exact highRow_2 y w h0 h1
  by_cases e3 : z = 3
  · subst e3; simp only [if_true, e0, e1, e2, if_false]; exact highRow_3 y w h0 h1
  simp only [e0, e1, e2, e3, if_false]
  exact highRow_b y z w h0 h1 (by omega) h3
end Go.Proofs.YtdkibohpdkdooaaGreatDoor
