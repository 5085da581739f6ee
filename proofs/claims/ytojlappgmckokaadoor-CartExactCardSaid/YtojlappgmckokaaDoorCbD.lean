/- Cart: registers told. -/
import Derived.Test.YtojlappgmckokaaDoorCbB
import Derived.StillTailTactics
namespace Go.Proofs.YtojlappgmckokaaDoor
open Go.Shelf Go.RowKit
set_option linter.unusedVariables false
set_option linter.unusedSimpArgs false
variable {w w' W : World} {b : Nat}
theorem still_of_quiet {P : Program} {ops : Array Oper} {w0 : World} {Q : Act → Prop} : ∀ (l : List Oper) (a : Act), wpQuiet P ops (fun w' => w' = w0) Q l a → wpStill P ops w0 Q l a
  | [], a, h => h
  | o :: rest, a, h => by
    unfold wpQuiet at h
    unfold wpStill
    split
    · rename_i hw
      rw [if_pos hw] at h
      obtain ⟨v, h1, h2⟩ := h
      have h3 := h1 w0 rfl
      have h4 := still_of_quiet rest _ h2
      unfold Oper.quietAt at h3
      unfold Oper.still
      generalize (execOp a.eval o).run P w0 = r at *
      cases r with
      | ok n w' =>
        cases n <;> simp only [Oper.quietUpon] at h3 <;> simp only [Oper.stillUpon]
        case value u =>
          obtain ⟨e1, e2⟩ := h3
          subst e2
          exact ⟨e1, h4⟩
        case skip =>
          obtain ⟨e1, e2⟩ := h3
          subst e2
          exact ⟨e1, h4⟩
        case enter f args =>
          exact ⟨h3.1, v, h3.2, h4⟩
      | _ => simp only [Oper.quietUpon] at h3
    · rename_i hw
      rw [if_neg hw] at h
      exact still_of_quiet rest _ h
theorem wp_still2 {P : Program} {id : Nat} {Q : Exit → Act → World → Prop} {a : Act} {w : World} {l : List Oper} (n : Nat) (hm : P.follows .mixedOrders = true) (hB : Region.lexTailB .any l.toArray n = true)
    (h : ∀ w1, w1 = w.drew → wpQuiet P l.toArray (fun w' => w' = w1) (fun a' => wpList P l.toArray Q (l.drop n) a' w1) (l.take n) a) : (Code.region id l.toArray true).wp P Q a w :=
  wp_region_still_tail n hm hB (still_of_quiet _ _ (h w.drew rfl))
theorem ta_0_1 (w : World) : (Instr.typeAssert (.iface 121 (.agg #[])) 78 108 true).run Tryd.prog w = .ok (.tuple #[.pointer none, .bool false]) w := by
  kernel_rfl
theorem ta_0_2 (w : World) : (Instr.typeAssert (.iface 121 (.agg #[])) 78 111 true).run Tryd.prog w = .ok (.tuple #[.pointer none, .bool false]) w := by
  kernel_rfl
theorem ta_0_3 (w : World) : (Instr.typeAssert (.iface 121 (.agg #[])) 78 114 true).run Tryd.prog w = .ok (.tuple #[.pointer none, .bool false]) w := by
  kernel_rfl
theorem ta_0_5 (w : World) : (Instr.typeAssert (.iface 121 (.agg #[])) 78 117 true).run Tryd.prog w = .ok (.tuple #[.pointer none, .bool false]) w := by
  kernel_rfl
theorem ta_1_1 (w : World) : (Instr.typeAssert (.iface 108 (.pointer (some ⟨b, 0, none⟩))) 78 108 true).run Tryd.prog w = .ok (.tuple #[.pointer (some ⟨b, 0, none⟩), .bool true]) w := by
  kernel_rfl
theorem ta_2_1 (w : World) : (Instr.typeAssert (.iface 111 (.pointer (some ⟨b, 0, none⟩))) 78 108 true).run Tryd.prog w = .ok (.tuple #[.pointer none, .bool false]) w := by
  kernel_rfl
theorem ta_2_2 (w : World) : (Instr.typeAssert (.iface 111 (.pointer (some ⟨b, 0, none⟩))) 78 111 true).run Tryd.prog w = .ok (.tuple #[.pointer (some ⟨b, 0, none⟩), .bool true]) w := by
  kernel_rfl
theorem ta_3_1 (w : World) : (Instr.typeAssert (.iface 114 (.pointer (some ⟨b, 0, none⟩))) 78 108 true).run Tryd.prog w = .ok (.tuple #[.pointer none, .bool false]) w := by
  kernel_rfl
theorem ta_3_2 (w : World) : (Instr.typeAssert (.iface 114 (.pointer (some ⟨b, 0, none⟩))) 78 111 true).run Tryd.prog w = .ok (.tuple #[.pointer none, .bool false]) w := by
  kernel_rfl
theorem ta_3_3 (w : World) : (Instr.typeAssert (.iface 114 (.pointer (some ⟨b, 0, none⟩))) 78 114 true).run Tryd.prog w = .ok (.tuple #[.pointer (some ⟨b, 0, none⟩), .bool true]) w := by
  kernel_rfl
theorem ta_5_1 (w : World) : (Instr.typeAssert (.iface 117 (.pointer (some ⟨b, 0, none⟩))) 78 108 true).run Tryd.prog w = .ok (.tuple #[.pointer none, .bool false]) w := by
  kernel_rfl
theorem ta_5_2 (w : World) : (Instr.typeAssert (.iface 117 (.pointer (some ⟨b, 0, none⟩))) 78 111 true).run Tryd.prog w = .ok (.tuple #[.pointer none, .bool false]) w := by
  kernel_rfl
theorem ta_5_3 (w : World) : (Instr.typeAssert (.iface 117 (.pointer (some ⟨b, 0, none⟩))) 78 114 true).run Tryd.prog w = .ok (.tuple #[.pointer none, .bool false]) w := by
  kernel_rfl
theorem ta_5_5 (w : World) : (Instr.typeAssert (.iface 117 (.pointer (some ⟨b, 0, none⟩))) 78 117 true).run Tryd.prog w = .ok (.tuple #[.pointer (some ⟨b, 0, none⟩), .bool true]) w := by
  kernel_rfl
set_option maxRecDepth 100000 in
set_option maxHeartbeats 1000000 in
theorem told_0 : Calls Tryd.prog 45 #[.iface 121 (.agg #[])] W fun e w' => e = .returned (.agg #[.int .u8 0, .int .u8 0, .int .u8 0, .int .u8 0, .int .u8 0]) ∧ Up W w' := by
  have t1 := ta_0_1
  have t2 := ta_0_2
  have t3 := ta_0_3
  have t5 := ta_0_5
  go_enter Tryd.func45, Tryd.ntmps45
  go_wp2_with fail
  refine bodyPost_ret (v := .agg _) (results_row Tryd.results45 _ _ _ 87 _ (0, 0) _ rfl (heap_alloc_new W _) Tryd.underlying87 rfl (by kernel_rfl)) rfl ?_
  exact ⟨rfl, (Up.refl W).alloc _⟩
set_option maxRecDepth 100000 in
set_option maxHeartbeats 1000000 in
theorem told_1 {on low pick mode : Nat} (h : W.heap[b]? = some (.cells #[.int .u8 ((on : Nat) : Int), .int .u8 ((low : Nat) : Int), .int .u8 ((pick : Nat) : Int), .int .u8 ((mode : Nat) : Int)] 110 (0, 0))) : Calls Tryd.prog 45 #[.iface 108 (.pointer (some ⟨b, 0, none⟩))] W fun e w' => e = .returned (.agg #[.int .u8 (on : Int), .int .u8 (low : Int), .int .u8 0, .int .u8 (pick : Int), .int .u8 (mode : Int)]) ∧ Up W w' := by
  have k0 : W.cell? ⟨b, 0, none⟩ = some (.int .u8 (on : Int)) := heap_cell h rfl
  have k1 : W.cell? ⟨b, 1, none⟩ = some (.int .u8 (low : Int)) := heap_cell h rfl
  have k2 : W.cell? ⟨b, 2, none⟩ = some (.int .u8 (pick : Int)) := heap_cell h rfl
  have k3 : W.cell? ⟨b, 3, none⟩ = some (.int .u8 (mode : Int)) := heap_cell h rfl
  have hb := heap_at h
  clear h
  have t1 := ta_1_1 (b := b)
  go_enter Tryd.func45, Tryd.ntmps45
  go_wp2_with fail
  have hR := heap_alloc_new W (.cells #[.int .u8 0, .int .u8 0, .int .u8 0, .int .u8 0, .int .u8 0] 87)
  have hU : Up W (W.alloc (.cells #[.int .u8 0, .int .u8 0, .int .u8 0, .int .u8 0, .int .u8 0] 87)) := (Up.refl W).alloc _
  have HW : Hid (W.heap.size ≤ W.heap.size) := Nat.le_refl _
  generalize World.alloc W _ = w5 at hR hU ⊢
  generalize hrb : W.heap.size = rb at hR HW ⊢
  have HRB : Hid (W.heap.size = rb) := hrb
  have HR : Hid _ := hR
  have HU : Hid (Up W w5) := hU
  clear hR hU hrb
  refine wp_still2 17 (by kernel_rfl) (by decide +kernel) ?_
  intro w6 hw6
  have u6 : Up w5 w6 := by rw [hw6]; exact (Up.refl w5).drew
  have HU6 : Hid (Up W w6) := HU.out.trans u6
  have hR6 := (u6.block rb (heap_at HR.out)).trans HR.out
  replace k0 := cell_up HU6.out k0
  replace k1 := cell_up HU6.out k1
  replace k2 := cell_up HU6.out k2
  replace k3 := cell_up HU6.out k3
  have HT : Hid (w6.there rb 0 5) := there_heap hR6 (by simp)
  have hB : (w6.setCells rb 0 [.int .u8 (on : Int), .int .u8 (low : Int), .int .u8 0, .int .u8 (pick : Int), .int .u8 (mode : Int)]).heap[rb]? = some (.cells #[.int .u8 (on : Int), .int .u8 (low : Int), .int .u8 0, .int .u8 (pick : Int), .int .u8 (mode : Int)] 87 (0, 0)) := heap_setCells_same rb _ _ 0 _ _ hR6
  have HB : Hid _ := hB
  have HF : Hid (Up W (w6.setCells rb 0 [.int .u8 (on : Int), .int .u8 (low : Int), .int .u8 0, .int .u8 (pick : Int), .int .u8 (mode : Int)])) := Fr.up HU6.out (by rw [← HRB.out]; exact Nat.le_refl _) (fr_setCells rb _ 0 w6)
  clear hw6 u6 hR6 hB
  simp only [List.take_succ_cons, List.take_zero, List.drop_succ_cons, List.drop_zero]
  repeat (go_big_quiet_step (fail))
  refine wpQuiet_nil ?_
  go_wp2_with (refine wpList_store_mid rfl 87 _ _ rfl rb 0 #[.int .u8 (on : Int), .int .u8 (low : Int), .int .u8 0, .int .u8 (pick : Int), .int .u8 (mode : Int)] rfl rfl HT.out (by kernel_rfl) (by simp [Value.oneCell']) ?_)
  refine bodyPost_ret (v := .agg _) (results_row Tryd.results45 _ _ _ 87 _ (0, 0) _ rfl HB.out Tryd.underlying87 rfl (by kernel_rfl)) rfl ?_
  exact ⟨rfl, HF.out⟩
set_option maxRecDepth 100000 in
set_option maxHeartbeats 1000000 in
theorem told_2 {on low : Nat} (h : W.heap[b]? = some (.cells #[.int .u8 ((on : Nat) : Int), .int .u8 ((low : Nat) : Int)] 113 (0, 0))) : Calls Tryd.prog 45 #[.iface 111 (.pointer (some ⟨b, 0, none⟩))] W fun e w' => e = .returned (.agg #[.int .u8 (on : Int), .int .u8 (low : Int), .int .u8 0, .int .u8 0, .int .u8 0]) ∧ Up W w' := by
  have k0 : W.cell? ⟨b, 0, none⟩ = some (.int .u8 (on : Int)) := heap_cell h rfl
  have k1 : W.cell? ⟨b, 1, none⟩ = some (.int .u8 (low : Int)) := heap_cell h rfl
  have hb := heap_at h
  clear h
  have t1 := ta_2_1 (b := b)
  have t2 := ta_2_2 (b := b)
  go_enter Tryd.func45, Tryd.ntmps45
  go_wp2_with fail
  have hR := heap_alloc_new W (.cells #[.int .u8 0, .int .u8 0, .int .u8 0, .int .u8 0, .int .u8 0] 87)
  have hU : Up W (W.alloc (.cells #[.int .u8 0, .int .u8 0, .int .u8 0, .int .u8 0, .int .u8 0] 87)) := (Up.refl W).alloc _
  have HW : Hid (W.heap.size ≤ W.heap.size) := Nat.le_refl _
  generalize World.alloc W _ = w5 at hR hU ⊢
  generalize hrb : W.heap.size = rb at hR HW ⊢
  have HRB : Hid (W.heap.size = rb) := hrb
  have HR : Hid _ := hR
  have HU : Hid (Up W w5) := hU
  clear hR hU hrb
  refine wp_still2 9 (by kernel_rfl) (by decide +kernel) ?_
  intro w6 hw6
  have u6 : Up w5 w6 := by rw [hw6]; exact (Up.refl w5).drew
  have HU6 : Hid (Up W w6) := HU.out.trans u6
  have hR6 := (u6.block rb (heap_at HR.out)).trans HR.out
  replace k0 := cell_up HU6.out k0
  replace k1 := cell_up HU6.out k1
  have HT : Hid (w6.there rb 0 5) := there_heap hR6 (by simp)
  have hB : (w6.setCells rb 0 [.int .u8 (on : Int), .int .u8 (low : Int), .int .u8 0, .int .u8 0, .int .u8 0]).heap[rb]? = some (.cells #[.int .u8 (on : Int), .int .u8 (low : Int), .int .u8 0, .int .u8 0, .int .u8 0] 87 (0, 0)) := heap_setCells_same rb _ _ 0 _ _ hR6
  have HB : Hid _ := hB
  have HF : Hid (Up W (w6.setCells rb 0 [.int .u8 (on : Int), .int .u8 (low : Int), .int .u8 0, .int .u8 0, .int .u8 0])) := Fr.up HU6.out (by rw [← HRB.out]; exact Nat.le_refl _) (fr_setCells rb _ 0 w6)
  clear hw6 u6 hR6 hB
  simp only [List.take_succ_cons, List.take_zero, List.drop_succ_cons, List.drop_zero]
  repeat (go_big_quiet_step (fail))
  refine wpQuiet_nil ?_
  go_wp2_with (refine wpList_store_mid rfl 87 _ _ rfl rb 0 #[.int .u8 (on : Int), .int .u8 (low : Int), .int .u8 0, .int .u8 0, .int .u8 0] rfl rfl HT.out (by kernel_rfl) (by simp [Value.oneCell']) ?_)
  refine bodyPost_ret (v := .agg _) (results_row Tryd.results45 _ _ _ 87 _ (0, 0) _ rfl HB.out Tryd.underlying87 rfl (by kernel_rfl)) rfl ?_
  exact ⟨rfl, HF.out⟩
set_option maxRecDepth 100000 in
set_option maxHeartbeats 1000000 in
theorem told_3 {on low pick : Nat} (h : W.heap[b]? = some (.cells #[.int .u8 ((on : Nat) : Int), .int .u8 ((low : Nat) : Int), .int .u8 ((pick : Nat) : Int)] 116 (0, 0))) : Calls Tryd.prog 45 #[.iface 114 (.pointer (some ⟨b, 0, none⟩))] W fun e w' => e = .returned (.agg #[.int .u8 (on : Int), .int .u8 (low : Int), .int .u8 0, .int .u8 (pick : Int), .int .u8 0]) ∧ Up W w' := by
  have k0 : W.cell? ⟨b, 0, none⟩ = some (.int .u8 (on : Int)) := heap_cell h rfl
  have k1 : W.cell? ⟨b, 1, none⟩ = some (.int .u8 (low : Int)) := heap_cell h rfl
  have k2 : W.cell? ⟨b, 2, none⟩ = some (.int .u8 (pick : Int)) := heap_cell h rfl
  have hb := heap_at h
  clear h
  have t1 := ta_3_1 (b := b)
  have t2 := ta_3_2 (b := b)
  have t3 := ta_3_3 (b := b)
  go_enter Tryd.func45, Tryd.ntmps45
  go_wp2_with fail
  have hR := heap_alloc_new W (.cells #[.int .u8 0, .int .u8 0, .int .u8 0, .int .u8 0, .int .u8 0] 87)
  have hU : Up W (W.alloc (.cells #[.int .u8 0, .int .u8 0, .int .u8 0, .int .u8 0, .int .u8 0] 87)) := (Up.refl W).alloc _
  have HW : Hid (W.heap.size ≤ W.heap.size) := Nat.le_refl _
  generalize World.alloc W _ = w5 at hR hU ⊢
  generalize hrb : W.heap.size = rb at hR HW ⊢
  have HRB : Hid (W.heap.size = rb) := hrb
  have HR : Hid _ := hR
  have HU : Hid (Up W w5) := hU
  clear hR hU hrb
  refine wp_still2 13 (by kernel_rfl) (by decide +kernel) ?_
  intro w6 hw6
  have u6 : Up w5 w6 := by rw [hw6]; exact (Up.refl w5).drew
  have HU6 : Hid (Up W w6) := HU.out.trans u6
  have hR6 := (u6.block rb (heap_at HR.out)).trans HR.out
  replace k0 := cell_up HU6.out k0
  replace k1 := cell_up HU6.out k1
  replace k2 := cell_up HU6.out k2
  have HT : Hid (w6.there rb 0 5) := there_heap hR6 (by simp)
  have hB : (w6.setCells rb 0 [.int .u8 (on : Int), .int .u8 (low : Int), .int .u8 0, .int .u8 (pick : Int), .int .u8 0]).heap[rb]? = some (.cells #[.int .u8 (on : Int), .int .u8 (low : Int), .int .u8 0, .int .u8 (pick : Int), .int .u8 0] 87 (0, 0)) := heap_setCells_same rb _ _ 0 _ _ hR6
  have HB : Hid _ := hB
  have HF : Hid (Up W (w6.setCells rb 0 [.int .u8 (on : Int), .int .u8 (low : Int), .int .u8 0, .int .u8 (pick : Int), .int .u8 0])) := Fr.up HU6.out (by rw [← HRB.out]; exact Nat.le_refl _) (fr_setCells rb _ 0 w6)
  clear hw6 u6 hR6 hB
  simp only [List.take_succ_cons, List.take_zero, List.drop_succ_cons, List.drop_zero]
  repeat (go_big_quiet_step (fail))
  refine wpQuiet_nil ?_
  go_wp2_with (refine wpList_store_mid rfl 87 _ _ rfl rb 0 #[.int .u8 (on : Int), .int .u8 (low : Int), .int .u8 0, .int .u8 (pick : Int), .int .u8 0] rfl rfl HT.out (by kernel_rfl) (by simp [Value.oneCell']) ?_)
  refine bodyPost_ret (v := .agg _) (results_row Tryd.results45 _ _ _ 87 _ (0, 0) _ rfl HB.out Tryd.underlying87 rfl (by kernel_rfl)) rfl ?_
  exact ⟨rfl, HF.out⟩
set_option maxRecDepth 100000 in
set_option maxHeartbeats 1000000 in
theorem told_5 {on low high pick : Nat} (h : W.heap[b]? = some (.cells #[.int .u8 ((on : Nat) : Int), .int .u8 ((low : Nat) : Int), .int .u8 ((high : Nat) : Int), .int .u8 ((pick : Nat) : Int)] 119 (0, 0))) : Calls Tryd.prog 45 #[.iface 117 (.pointer (some ⟨b, 0, none⟩))] W fun e w' => e = .returned (.agg #[.int .u8 (on : Int), .int .u8 (low : Int), .int .u8 (high : Int), .int .u8 (pick : Int), .int .u8 0]) ∧ Up W w' := by
  have k0 : W.cell? ⟨b, 0, none⟩ = some (.int .u8 (on : Int)) := heap_cell h rfl
  have k1 : W.cell? ⟨b, 1, none⟩ = some (.int .u8 (low : Int)) := heap_cell h rfl
  have k2 : W.cell? ⟨b, 2, none⟩ = some (.int .u8 (high : Int)) := heap_cell h rfl
  have k3 : W.cell? ⟨b, 3, none⟩ = some (.int .u8 (pick : Int)) := heap_cell h rfl
  have hb := heap_at h
  clear h
  have t1 := ta_5_1 (b := b)
  have t2 := ta_5_2 (b := b)
  have t3 := ta_5_3 (b := b)
  have t5 := ta_5_5 (b := b)
  go_enter Tryd.func45, Tryd.ntmps45
  go_wp2_with fail
  have hR := heap_alloc_new W (.cells #[.int .u8 0, .int .u8 0, .int .u8 0, .int .u8 0, .int .u8 0] 87)
  have hU : Up W (W.alloc (.cells #[.int .u8 0, .int .u8 0, .int .u8 0, .int .u8 0, .int .u8 0] 87)) := (Up.refl W).alloc _
  have HW : Hid (W.heap.size ≤ W.heap.size) := Nat.le_refl _
  generalize World.alloc W _ = w5 at hR hU ⊢
  generalize hrb : W.heap.size = rb at hR HW ⊢
  have HRB : Hid (W.heap.size = rb) := hrb
  have HR : Hid _ := hR
  have HU : Hid (Up W w5) := hU
  clear hR hU hrb
  refine wp_still2 17 (by kernel_rfl) (by decide +kernel) ?_
  intro w6 hw6
  have u6 : Up w5 w6 := by rw [hw6]; exact (Up.refl w5).drew
  have HU6 : Hid (Up W w6) := HU.out.trans u6
  have hR6 := (u6.block rb (heap_at HR.out)).trans HR.out
  replace k0 := cell_up HU6.out k0
  replace k1 := cell_up HU6.out k1
  replace k2 := cell_up HU6.out k2
  replace k3 := cell_up HU6.out k3
  have HT : Hid (w6.there rb 0 5) := there_heap hR6 (by simp)
  have hB : (w6.setCells rb 0 [.int .u8 (on : Int), .int .u8 (low : Int), .int .u8 (high : Int), .int .u8 (pick : Int), .int .u8 0]).heap[rb]? = some (.cells #[.int .u8 (on : Int), .int .u8 (low : Int), .int .u8 (high : Int), .int .u8 (pick : Int), .int .u8 0] 87 (0, 0)) := heap_setCells_same rb _ _ 0 _ _ hR6
  have HB : Hid _ := hB
  have HF : Hid (Up W (w6.setCells rb 0 [.int .u8 (on : Int), .int .u8 (low : Int), .int .u8 (high : Int), .int .u8 (pick : Int), .int .u8 0])) := Fr.up HU6.out (by rw [← HRB.out]; exact Nat.le_refl _) (fr_setCells rb _ 0 w6)
  clear hw6 u6 hR6 hB
  simp only [List.take_succ_cons, List.take_zero, List.drop_succ_cons, List.drop_zero]
  repeat (go_big_quiet_step (fail))
  refine wpQuiet_nil ?_
  go_wp2_with (refine wpList_store_mid rfl 87 _ _ rfl rb 0 #[.int .u8 (on : Int), .int .u8 (low : Int), .int .u8 (high : Int), .int .u8 (pick : Int), .int .u8 0] rfl rfl HT.out (by kernel_rfl) (by simp [Value.oneCell']) ?_)
  refine bodyPost_ret (v := .agg _) (results_row Tryd.results45 _ _ _ 87 _ (0, 0) _ rfl HB.out Tryd.underlying87 rfl (by kernel_rfl)) rfl ?_
  exact ⟨rfl, HF.out⟩
end Go.Proofs.YtojlappgmckokaaDoor
