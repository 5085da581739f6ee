/- The row of what goes on, over the translation: row itself, and what comes next. -/
import Derived.Test.YtdkibohpdkdooaaGreatDoorCpL
namespace Go.Proofs.YtdkibohpdkdooaaGreatDoor
open Go.RowKit
set_option linter.unusedVariables false
set_option maxRecDepth 100000 in
set_option maxHeartbeats 1000000 in
theorem row_disp (b : Nat) (s : St) (w : World) (h : Cp w b s) (o : s.Ok) (hp : s.phase = 2) :
    Calls Tryz.prog 26 #[.pointer (some ⟨b, 0, none⟩)] w fun e w' => e = .returned (.agg s.row.cells) ∧ Up w w' := by
  have c14 : w.cell? ⟨b, 14, none⟩ = some (.int .u8 s.phase) := h.cell 14
  have hb := h.lt
  rw [hp] at c14
  have e : s.row = dispRow := by unfold St.row; rw [if_pos hp]
  rw [e]
  clear hp e
  go_enter Tryz.func26, Tryz.ntmps26
  go_wp2
  refine bodyPost_ret (v := .agg _) (results_row Tryz.results26 _ _ _ 75 _ (0, 0) _ rfl (heap_alloc_new _ _) Tryz.underlying75 rfl (by kernel_rfl)) rfl ⟨rfl, (Up.refl w).alloc _⟩
set_option maxRecDepth 100000 in
set_option maxHeartbeats 1000000 in
theorem row_second (b : Nat) (s : St) (w : World) (h : Cp w b s) (o : s.Ok) (hp : s.phase ≠ 2) (hc : s.code = 203) (hm : 0 < s.many) :
    Calls Tryz.prog 26 #[.pointer (some ⟨b, 0, none⟩)] w fun e w' => e = .returned (.agg s.row.cells) ∧ Up w w' := by
  have c14 : w.cell? ⟨b, 14, none⟩ = some (.int .u8 s.phase) := h.cell 14
  have c15 : w.cell? ⟨b, 15, none⟩ = some (.int .u8 s.code) := h.cell 15
  have c17 : w.cell? ⟨b, 17, none⟩ = some (.int .u8 (s.rd 0)) := h.cell 17
  have c20 : w.cell? ⟨b, 20, none⟩ = some (.int .u8 s.many) := h.cell 20
  have hb := h.lt
  have HN : Hid (∀ o, (w.alloc o).heap[w.heap.size]? = some o) := fun o => heap_alloc_new w o
  have HA : Hid (∀ o, Cp (w.alloc o) b s) := fun o => h.up ((Up.refl w).alloc o)
  have HUa : Hid (∀ o, Up w (w.alloc o)) := fun o => (Up.refl w).alloc o
  have e : s.row = secondP (s.rd 0) := by unfold St.row; rw [if_neg hp, if_pos ⟨hc, hm⟩]
  rw [e]
  have hb1 := (o.rd 0).1
  have hb2 := (o.rd 0).2
  have HS : Hid (∀ W, Calls Tryz.prog 56 #[.int .u8 (s.rd 0)] W fun e w' => e = .returned (.agg (secondP (s.rd 0)).cells) ∧ Up W w') := fun W => secondRow_any (s.rd 0) W hb1 hb2
  generalize secondP (s.rd 0) = R at HS ⊢
  rw [hc] at c15
  have hp' : (s.phase == 2) = false := beq_eq_false_iff_ne.2 hp
  have hm' : decide (0 < s.many) = true := decide_eq_true hm
  have hm'' : decide (s.many > 0) = true := decide_eq_true hm
  clear e hp hc
  go_enter Tryz.func26, Tryz.ntmps26
  go_wp2_with (first
    | (go_at_call 56; refine (HS.out _).mono ?_; rintro e w1 ⟨rfl, hu⟩
       have hw1 : Hid (w1.heap[w.heap.size]? = _) := (hu.block _ (by simp)).trans (HN.out _)
       have hup : Hid (Up w w1) := Up.trans (HUa.out _) (hu)
       clear hu)
    | (refine wpList_store_rowTo rfl 75 _ _ rfl rfl w.heap.size R.cells rfl rfl 75 _ hw1.out (by kernel_rfl) rfl (cells_one R) ?_))
  refine bodyPost_ret (v := .agg _) (results_row Tryz.results26 _ _ _ 75 _ (0, 0) _ rfl (setRow_heap _ _ _ _ _ _ hw1.out) Tryz.underlying75 rfl (by kernel_rfl)) rfl ⟨rfl, hup.out.setRow (Nat.le_refl _) _⟩
set_option maxRecDepth 100000 in
set_option maxHeartbeats 1000000 in
theorem row_x0 (b : Nat) (s : St) (w : World) (h : Cp w b s) (o : s.Ok) (hp : s.phase ≠ 2) (hs : ¬ (s.code = 203 ∧ 0 < s.many)) (hx : s.x = 0) :
    Calls Tryz.prog 26 #[.pointer (some ⟨b, 0, none⟩)] w fun e w' => e = .returned (.agg s.row.cells) ∧ Up w w' := by
  have c14 : w.cell? ⟨b, 14, none⟩ = some (.int .u8 s.phase) := h.cell 14
  have c15 : w.cell? ⟨b, 15, none⟩ = some (.int .u8 s.code) := h.cell 15
  have c17 : w.cell? ⟨b, 17, none⟩ = some (.int .u8 (s.rd 0)) := h.cell 17
  have c20 : w.cell? ⟨b, 20, none⟩ = some (.int .u8 s.many) := h.cell 20
  have hb := h.lt
  have HN : Hid (∀ o, (w.alloc o).heap[w.heap.size]? = some o) := fun o => heap_alloc_new w o
  have HA : Hid (∀ o, Cp (w.alloc o) b s) := fun o => h.up ((Up.refl w).alloc o)
  have HUa : Hid (∀ o, Up w (w.alloc o)) := fun o => (Up.refl w).alloc o
  have e : s.row = lowP s.y s.z := by
    unfold St.row codeRow
    rw [if_neg hp, if_neg hs]
    unfold St.x at hx
    rw [hx]
    rfl
  rw [e]
  have HS : Hid (∀ W, Calls Tryz.prog 58 #[.int .u8 s.y, .int .u8 s.z] W fun e w' => e = .returned (.agg (lowP s.y s.z).cells) ∧ Up W w') := fun W => lowRow_any s.y s.z W o.y.1 o.y.2 o.z.1 o.z.2
  generalize lowP s.y s.z = R at HS ⊢
  have HX : Hid (s.x = 0) := hx
  have hp' : (s.phase == 2) = false := beq_eq_false_iff_ne.2 hp
  have hs' : (s.code == 203) = false ∨ (s.code = 203 ∧ decide (0 < s.many) = false) := by
    by_cases hc : s.code = 203
    · right; exact ⟨hc, decide_eq_false (fun hm => hs ⟨hc, hm⟩)⟩
    · left; exact beq_eq_false_iff_ne.2 hc
  clear e hp hs hx
  rcases hs' with hs' | ⟨hc, hs'⟩
  rotate_left
  · rw [hc] at c15
    clear hc
    go_enter Tryz.func26, Tryz.ntmps26
    go_wp2_with (first
      | (go_at_call 57; refine (x_any b s _ (by first | exact HA.out _ | exact h) o).mono ?_; rw [HX.out]; rintro e w' ⟨rfl, n, rfl⟩)
      | (go_at_call 59; refine (y_any b s _ (by first | exact HA.out _ | exact h) o).mono ?_; rintro e w' ⟨rfl, n, rfl⟩)
      | (go_at_call 60; refine (z_any b s _ (by first | exact HA.out _ | exact h) o).mono ?_; rintro e w' ⟨rfl, n, rfl⟩)
      | (go_at_call 58; refine (HS.out _).mono ?_; rintro e w1 ⟨rfl, hu⟩
         have hw1 : Hid (w1.heap[w.heap.size]? = _) := (hu.block _ (by simp)).trans (HN.out _)
         have hup : Hid (Up w w1) := Up.trans (HUa.out _) ((Up.drewN _ _).trans hu)
         clear hu)
      | (refine wpList_store_rowTo rfl 75 _ _ rfl rfl w.heap.size R.cells rfl rfl 75 _ hw1.out (by kernel_rfl) rfl (cells_one R) ?_))
    refine bodyPost_ret (v := .agg _) (results_row Tryz.results26 _ _ _ 75 _ (0, 0) _ rfl (setRow_heap _ _ _ _ _ _ hw1.out) Tryz.underlying75 rfl (by kernel_rfl)) rfl ⟨rfl, hup.out.setRow (Nat.le_refl _) _⟩
  · go_enter Tryz.func26, Tryz.ntmps26
    go_wp2_with (first
      | (go_at_call 57; refine (x_any b s _ (by first | exact HA.out _ | exact h) o).mono ?_; rw [HX.out]; rintro e w' ⟨rfl, n, rfl⟩)
      | (go_at_call 59; refine (y_any b s _ (by first | exact HA.out _ | exact h) o).mono ?_; rintro e w' ⟨rfl, n, rfl⟩)
      | (go_at_call 60; refine (z_any b s _ (by first | exact HA.out _ | exact h) o).mono ?_; rintro e w' ⟨rfl, n, rfl⟩)
      | (go_at_call 58; refine (HS.out _).mono ?_; rintro e w1 ⟨rfl, hu⟩
         have hw1 : Hid (w1.heap[w.heap.size]? = _) := (hu.block _ (by simp)).trans (HN.out _)
         have hup : Hid (Up w w1) := Up.trans (HUa.out _) ((Up.drewN _ _).trans hu)
         clear hu)
      | (refine wpList_store_rowTo rfl 75 _ _ rfl rfl w.heap.size R.cells rfl rfl 75 _ hw1.out (by kernel_rfl) rfl (cells_one R) ?_))
    refine bodyPost_ret (v := .agg _) (results_row Tryz.results26 _ _ _ 75 _ (0, 0) _ rfl (setRow_heap _ _ _ _ _ _ hw1.out) Tryz.underlying75 rfl (by kernel_rfl)) rfl ⟨rfl, hup.out.setRow (Nat.le_refl _) _⟩
set_option maxRecDepth 100000 in
set_option maxHeartbeats 1000000 in
theorem row_x1 (b : Nat) (s : St) (w : World) (h : Cp w b s) (o : s.Ok) (hp : s.phase ≠ 2) (hs : ¬ (s.code = 203 ∧ 0 < s.many)) (hx : s.x = 1) :
    Calls Tryz.prog 26 #[.pointer (some ⟨b, 0, none⟩)] w fun e w' => e = .returned (.agg s.row.cells) ∧ Up w w' := by
  have c14 : w.cell? ⟨b, 14, none⟩ = some (.int .u8 s.phase) := h.cell 14
  have c15 : w.cell? ⟨b, 15, none⟩ = some (.int .u8 s.code) := h.cell 15
  have c17 : w.cell? ⟨b, 17, none⟩ = some (.int .u8 (s.rd 0)) := h.cell 17
  have c20 : w.cell? ⟨b, 20, none⟩ = some (.int .u8 s.many) := h.cell 20
  have hb := h.lt
  have HN : Hid (∀ o, (w.alloc o).heap[w.heap.size]? = some o) := fun o => heap_alloc_new w o
  have HA : Hid (∀ o, Cp (w.alloc o) b s) := fun o => h.up ((Up.refl w).alloc o)
  have HUa : Hid (∀ o, Up w (w.alloc o)) := fun o => (Up.refl w).alloc o
  have e : s.row = moveP s.y s.z := by
    unfold St.row codeRow
    rw [if_neg hp, if_neg hs]
    unfold St.x at hx
    rw [hx]
    rfl
  rw [e]
  have HS : Hid (∀ W, Calls Tryz.prog 61 #[.int .u8 s.y, .int .u8 s.z] W fun e w' => e = .returned (.agg (moveP s.y s.z).cells) ∧ Up W w') := fun W => moveRow_any s.y s.z W o.y.1 o.y.2 o.z.1 o.z.2
  generalize moveP s.y s.z = R at HS ⊢
  have HX : Hid (s.x = 1) := hx
  have hp' : (s.phase == 2) = false := beq_eq_false_iff_ne.2 hp
  have hs' : (s.code == 203) = false ∨ (s.code = 203 ∧ decide (0 < s.many) = false) := by
    by_cases hc : s.code = 203
    · right; exact ⟨hc, decide_eq_false (fun hm => hs ⟨hc, hm⟩)⟩
    · left; exact beq_eq_false_iff_ne.2 hc
  clear e hp hs hx
  rcases hs' with hs' | ⟨hc, hs'⟩
  rotate_left
  · rw [hc] at c15
    clear hc
    go_enter Tryz.func26, Tryz.ntmps26
    go_wp2_with (first
      | (go_at_call 57; refine (x_any b s _ (by first | exact HA.out _ | exact h) o).mono ?_; rw [HX.out]; rintro e w' ⟨rfl, n, rfl⟩)
      | (go_at_call 59; refine (y_any b s _ (by first | exact HA.out _ | exact h) o).mono ?_; rintro e w' ⟨rfl, n, rfl⟩)
      | (go_at_call 60; refine (z_any b s _ (by first | exact HA.out _ | exact h) o).mono ?_; rintro e w' ⟨rfl, n, rfl⟩)
      | (go_at_call 61; refine (HS.out _).mono ?_; rintro e w1 ⟨rfl, hu⟩
         have hw1 : Hid (w1.heap[w.heap.size]? = _) := (hu.block _ (by simp)).trans (HN.out _)
         have hup : Hid (Up w w1) := Up.trans (HUa.out _) ((Up.drewN _ _).trans hu)
         clear hu)
      | (refine wpList_store_rowTo rfl 75 _ _ rfl rfl w.heap.size R.cells rfl rfl 75 _ hw1.out (by kernel_rfl) rfl (cells_one R) ?_))
    refine bodyPost_ret (v := .agg _) (results_row Tryz.results26 _ _ _ 75 _ (0, 0) _ rfl (setRow_heap _ _ _ _ _ _ hw1.out) Tryz.underlying75 rfl (by kernel_rfl)) rfl ⟨rfl, hup.out.setRow (Nat.le_refl _) _⟩
  · go_enter Tryz.func26, Tryz.ntmps26
    go_wp2_with (first
      | (go_at_call 57; refine (x_any b s _ (by first | exact HA.out _ | exact h) o).mono ?_; rw [HX.out]; rintro e w' ⟨rfl, n, rfl⟩)
      | (go_at_call 59; refine (y_any b s _ (by first | exact HA.out _ | exact h) o).mono ?_; rintro e w' ⟨rfl, n, rfl⟩)
      | (go_at_call 60; refine (z_any b s _ (by first | exact HA.out _ | exact h) o).mono ?_; rintro e w' ⟨rfl, n, rfl⟩)
      | (go_at_call 61; refine (HS.out _).mono ?_; rintro e w1 ⟨rfl, hu⟩
         have hw1 : Hid (w1.heap[w.heap.size]? = _) := (hu.block _ (by simp)).trans (HN.out _)
         have hup : Hid (Up w w1) := Up.trans (HUa.out _) ((Up.drewN _ _).trans hu)
         clear hu)
      | (refine wpList_store_rowTo rfl 75 _ _ rfl rfl w.heap.size R.cells rfl rfl 75 _ hw1.out (by kernel_rfl) rfl (cells_one R) ?_))
    refine bodyPost_ret (v := .agg _) (results_row Tryz.results26 _ _ _ 75 _ (0, 0) _ rfl (setRow_heap _ _ _ _ _ _ hw1.out) Tryz.underlying75 rfl (by kernel_rfl)) rfl ⟨rfl, hup.out.setRow (Nat.le_refl _) _⟩
set_option maxRecDepth 100000 in
set_option maxHeartbeats 1000000 in
theorem row_x2 (b : Nat) (s : St) (w : World) (h : Cp w b s) (o : s.Ok) (hp : s.phase ≠ 2) (hs : ¬ (s.code = 203 ∧ 0 < s.many)) (hx : s.x = 2) :
    Calls Tryz.prog 26 #[.pointer (some ⟨b, 0, none⟩)] w fun e w' => e = .returned (.agg s.row.cells) ∧ Up w w' := by
  have c14 : w.cell? ⟨b, 14, none⟩ = some (.int .u8 s.phase) := h.cell 14
  have c15 : w.cell? ⟨b, 15, none⟩ = some (.int .u8 s.code) := h.cell 15
  have c17 : w.cell? ⟨b, 17, none⟩ = some (.int .u8 (s.rd 0)) := h.cell 17
  have c20 : w.cell? ⟨b, 20, none⟩ = some (.int .u8 s.many) := h.cell 20
  have hb := h.lt
  have HN : Hid (∀ o, (w.alloc o).heap[w.heap.size]? = some o) := fun o => heap_alloc_new w o
  have HA : Hid (∀ o, Cp (w.alloc o) b s) := fun o => h.up ((Up.refl w).alloc o)
  have HUa : Hid (∀ o, Up w (w.alloc o)) := fun o => (Up.refl w).alloc o
  have e : s.row = sumP s.z := by
    unfold St.row codeRow
    rw [if_neg hp, if_neg hs]
    unfold St.x at hx
    rw [hx]
    rfl
  rw [e]
  have HS : Hid (∀ W, Calls Tryz.prog 62 #[.int .u8 s.z] W fun e w' => e = .returned (.agg (sumP s.z).cells) ∧ Up W w') := fun W => sumRow_any s.z W o.z.1 o.z.2
  generalize sumP s.z = R at HS ⊢
  have HX : Hid (s.x = 2) := hx
  have hp' : (s.phase == 2) = false := beq_eq_false_iff_ne.2 hp
  have hs' : (s.code == 203) = false ∨ (s.code = 203 ∧ decide (0 < s.many) = false) := by
    by_cases hc : s.code = 203
    · right; exact ⟨hc, decide_eq_false (fun hm => hs ⟨hc, hm⟩)⟩
    · left; exact beq_eq_false_iff_ne.2 hc
  clear e hp hs hx
  rcases hs' with hs' | ⟨hc, hs'⟩
  rotate_left
  · rw [hc] at c15
    clear hc
    go_enter Tryz.func26, Tryz.ntmps26
    go_wp2_with (first
      | (go_at_call 57; refine (x_any b s _ (by first | exact HA.out _ | exact h) o).mono ?_; rw [HX.out]; rintro e w' ⟨rfl, n, rfl⟩)
      | (go_at_call 60; refine (z_any b s _ (by first | exact HA.out _ | exact h) o).mono ?_; rintro e w' ⟨rfl, n, rfl⟩)
      | (go_at_call 62; refine (HS.out _).mono ?_; rintro e w1 ⟨rfl, hu⟩
         have hw1 : Hid (w1.heap[w.heap.size]? = _) := (hu.block _ (by simp)).trans (HN.out _)
         have hup : Hid (Up w w1) := Up.trans (HUa.out _) ((Up.drewN _ _).trans hu)
         clear hu)
      | (refine wpList_store_rowTo rfl 75 _ _ rfl rfl w.heap.size R.cells rfl rfl 75 _ hw1.out (by kernel_rfl) rfl (cells_one R) ?_))
    refine bodyPost_ret (v := .agg _) (results_row Tryz.results26 _ _ _ 75 _ (0, 0) _ rfl (setRow_heap _ _ _ _ _ _ hw1.out) Tryz.underlying75 rfl (by kernel_rfl)) rfl ⟨rfl, hup.out.setRow (Nat.le_refl _) _⟩
  · go_enter Tryz.func26, Tryz.ntmps26
    go_wp2_with (first
      | (go_at_call 57; refine (x_any b s _ (by first | exact HA.out _ | exact h) o).mono ?_; rw [HX.out]; rintro e w' ⟨rfl, n, rfl⟩)
      | (go_at_call 60; refine (z_any b s _ (by first | exact HA.out _ | exact h) o).mono ?_; rintro e w' ⟨rfl, n, rfl⟩)
      | (go_at_call 62; refine (HS.out _).mono ?_; rintro e w1 ⟨rfl, hu⟩
         have hw1 : Hid (w1.heap[w.heap.size]? = _) := (hu.block _ (by simp)).trans (HN.out _)
         have hup : Hid (Up w w1) := Up.trans (HUa.out _) ((Up.drewN _ _).trans hu)
         clear hu)
      | (refine wpList_store_rowTo rfl 75 _ _ rfl rfl w.heap.size R.cells rfl rfl 75 _ hw1.out (by kernel_rfl) rfl (cells_one R) ?_))
    refine bodyPost_ret (v := .agg _) (results_row Tryz.results26 _ _ _ 75 _ (0, 0) _ rfl (setRow_heap _ _ _ _ _ _ hw1.out) Tryz.underlying75 rfl (by kernel_rfl)) rfl ⟨rfl, hup.out.setRow (Nat.le_refl _) _⟩
set_option maxRecDepth 100000 in
set_option maxHeartbeats 1000000 in
theorem row_x3 (b : Nat) (s : St) (w : World) (h : Cp w b s) (o : s.Ok) (hp : s.phase ≠ 2) (hs : ¬ (s.code = 203 ∧ 0 < s.many)) (hx : s.x = 3) :
    Calls Tryz.prog 26 #[.pointer (some ⟨b, 0, none⟩)] w fun e w' => e = .returned (.agg s.row.cells) ∧ Up w w' := by
  have c14 : w.cell? ⟨b, 14, none⟩ = some (.int .u8 s.phase) := h.cell 14
  have c15 : w.cell? ⟨b, 15, none⟩ = some (.int .u8 s.code) := h.cell 15
  have c17 : w.cell? ⟨b, 17, none⟩ = some (.int .u8 (s.rd 0)) := h.cell 17
  have c20 : w.cell? ⟨b, 20, none⟩ = some (.int .u8 s.many) := h.cell 20
  have hb := h.lt
  have HN : Hid (∀ o, (w.alloc o).heap[w.heap.size]? = some o) := fun o => heap_alloc_new w o
  have HA : Hid (∀ o, Cp (w.alloc o) b s) := fun o => h.up ((Up.refl w).alloc o)
  have HUa : Hid (∀ o, Up w (w.alloc o)) := fun o => (Up.refl w).alloc o
  have e : s.row = highP s.y s.z := by
    unfold St.row codeRow
    rw [if_neg hp, if_neg hs]
    unfold St.x at hx
    rw [hx]
    rfl
  rw [e]
  have HS : Hid (∀ W, Calls Tryz.prog 63 #[.int .u8 s.y, .int .u8 s.z] W fun e w' => e = .returned (.agg (highP s.y s.z).cells) ∧ Up W w') := fun W => highRow_any s.y s.z W o.y.1 o.y.2 o.z.1 o.z.2
  generalize highP s.y s.z = R at HS ⊢
  have HX : Hid (s.x = 3) := hx
  have hp' : (s.phase == 2) = false := beq_eq_false_iff_ne.2 hp
  have hs' : (s.code == 203) = false ∨ (s.code = 203 ∧ decide (0 < s.many) = false) := by
    by_cases hc : s.code = 203
    · right; exact ⟨hc, decide_eq_false (fun hm => hs ⟨hc, hm⟩)⟩
    · left; exact beq_eq_false_iff_ne.2 hc
  clear e hp hs hx
  rcases hs' with hs' | ⟨hc, hs'⟩
  rotate_left
  · rw [hc] at c15
    clear hc
    go_enter Tryz.func26, Tryz.ntmps26
    go_wp2_with (first
      | (go_at_call 57; refine (x_any b s _ (by first | exact HA.out _ | exact h) o).mono ?_; rw [HX.out]; rintro e w' ⟨rfl, n, rfl⟩)
      | (go_at_call 59; refine (y_any b s _ (by first | exact HA.out _ | exact h) o).mono ?_; rintro e w' ⟨rfl, n, rfl⟩)
      | (go_at_call 60; refine (z_any b s _ (by first | exact HA.out _ | exact h) o).mono ?_; rintro e w' ⟨rfl, n, rfl⟩)
      | (go_at_call 63; refine (HS.out _).mono ?_; rintro e w1 ⟨rfl, hu⟩
         have hw1 : Hid (w1.heap[w.heap.size]? = _) := (hu.block _ (by simp)).trans (HN.out _)
         have hup : Hid (Up w w1) := Up.trans (HUa.out _) ((Up.drewN _ _).trans hu)
         clear hu)
      | (refine wpList_store_rowTo rfl 75 _ _ rfl rfl w.heap.size R.cells rfl rfl 75 _ hw1.out (by kernel_rfl) rfl (cells_one R) ?_))
    refine bodyPost_ret (v := .agg _) (results_row Tryz.results26 _ _ _ 75 _ (0, 0) _ rfl (setRow_heap _ _ _ _ _ _ hw1.out) Tryz.underlying75 rfl (by kernel_rfl)) rfl ⟨rfl, hup.out.setRow (Nat.le_refl _) _⟩
  · go_enter Tryz.func26, Tryz.ntmps26
    go_wp2_with (first
      | (go_at_call 57; refine (x_any b s _ (by first | exact HA.out _ | exact h) o).mono ?_; rw [HX.out]; rintro e w' ⟨rfl, n, rfl⟩)
      | (go_at_call 59; refine (y_any b s _ (by first | exact HA.out _ | exact h) o).mono ?_; rintro e w' ⟨rfl, n, rfl⟩)
      | (go_at_call 60; refine (z_any b s _ (by first | exact HA.out _ | exact h) o).mono ?_; rintro e w' ⟨rfl, n, rfl⟩)
      | (go_at_call 63; refine (HS.out _).mono ?_; rintro e w1 ⟨rfl, hu⟩
         have hw1 : Hid (w1.heap[w.heap.size]? = _) := (hu.block _ (by simp)).trans (HN.out _)
         have hup : Hid (Up w w1) := Up.trans (HUa.out _) ((Up.drewN _ _).trans hu)
         clear hu)
      | (refine wpList_store_rowTo rfl 75 _ _ rfl rfl w.heap.size R.cells rfl rfl 75 _ hw1.out (by kernel_rfl) rfl (cells_one R) ?_))
    refine bodyPost_ret (v := .agg _) (results_row Tryz.results26 _ _ _ 75 _ (0, 0) _ rfl (setRow_heap _ _ _ _ _ _ hw1.out) Tryz.underlying75 rfl (by kernel_rfl)) rfl ⟨rfl, hup.out.setRow (Nat.le_refl _) _⟩
theorem row_any (b : Nat) (s : St) (w : World) (h : Cp w b s) (o : s.Ok) :
    Calls Tryz.prog 26 #[.pointer (some ⟨b, 0, none⟩)] w fun e w' => e = .returned (.agg s.row.cells) ∧ Up w w' := by
  by_cases hp : s.phase = 2
  · exact row_disp b s w h o hp
  by_cases hs : s.code = 203 ∧ 0 < s.many
  · exact row_second b s w h o hp hs.1 hs.2
  have hx := o.x
  have hx4 : s.x = 0 ∨ s.x = 1 ∨ s.x = 2 ∨ s.x = 3 := by omega
  rcases hx4 with hx | hx | hx | hx
  · exact row_x0 b s w h o hp hs hx
  · exact row_x1 b s w h o hp hs hx
  · exact row_x2 b s w h o hp hs hx
  · exact row_x3 b s w h o hp hs hx
end Go.Proofs.YtdkibohpdkdooaaGreatDoor
