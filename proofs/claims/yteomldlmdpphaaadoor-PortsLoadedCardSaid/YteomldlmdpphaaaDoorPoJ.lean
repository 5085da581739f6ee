/- The ports: which port stands at an address. -/
import Derived.Test.YteomldlmdpphaaaDoorPoI
import Derived.Test.YteomldlmdpphaaaDoorTabL
import Derived.Laws.ResultCell
import Derived.Laws.CopyOwn
import Derived.Great.BuildSlice
namespace Go.Proofs.YteomldlmdpphaaaDoor
open Go.RowKit
set_option linter.unusedVariables false
theorem run_index_agg {P : Program} (t e : TypeId) (n m : Nat) (cs : Array Value) (k : IntKind) (i : Int) (d : TypeDesc) (w : World) (h : P.underlying t = some (.array n e)) (h0 : 0 ≤ i) (h1 : i < (n : Int))
    (hu : P.underlying e = some d) (hd : (match d with | .struct _ | .array _ _ => true | _ => false) = true) (hi : (P.info? e).map (·.size) = some m) :
    (Instr.index t (.agg cs) (.int k i)).run P w = .ok (.agg (cs.extract (i.toNat * m) (i.toNat * m + m))) w := by
  have ha : (isAgg e).run P w = .ok true w := by
    cases d <;> simp_all [isAgg, run_underlying hu]
  have hs : (sizeOf e).run P w = .ok m w := by
    obtain ⟨x, hx, hm⟩ := Option.map_eq_some_iff.1 hi
    simp [sizeOf, typeInfo, hx, hm]
  simp [Instr.index, run_underlying h, asIntOf, h0, h1, part, ha, hs, go_sem]
theorem wpList_index_agg {P : Program} {ops : Array Oper} {rest : List Oper} {o : Oper} {a : Act} {w : World} {Q : Exit → Act → World → Prop} (hgd : o.guard = none) (t : TypeId) (x y : Operand) (ho : o.op = .index t x y)
    (e : TypeId) (n m : Nat) (cs R : Array Value) (k : IntKind) (i : Int) (d : TypeDesc) (hx : a.eval x = .agg cs) (hy : a.eval y = .int k i)
    (h : P.underlying t = some (.array n e)) (h0 : 0 ≤ i) (h1 : i < (n : Int)) (hu : P.underlying e = some d) (hd : (match d with | .struct _ | .array _ _ => true | _ => false) = true) (hi : (P.info? e).map (·.size) = some m)
    (hR : cs.extract (i.toNat * m) (i.toNat * m + m) = R) (hh : wpList P ops Q rest (a.put o.dst (.agg R)) w) : wpList P ops Q (o :: rest) a w := by
  refine wpList_plain hgd fun K hK => ?_
  subst hR
  unfold Oper.wp execOp
  simp only [ho, hx, hy, Sem.run_bind, run_index_agg t e n m cs k i d w h h0 h1 hu hd hi, Result.andThen_ok, Sem.run_pure]
  exact hK _ _ hh
theorem hp2 (W : World) (o o2 : Obj) : ((W.alloc o).alloc o2).drew.heap[W.heap.size]? = some o := by
  show ((W.alloc o).alloc o2).heap[W.heap.size]? = some o
  rw [((Up.refl (W.alloc o)).alloc o2).block _ (by simp)]
  exact heap_alloc_new W o
set_option maxRecDepth 100000 in
set_option maxHeartbeats 1000000 in
theorem at65280 (W : World) : Calls Tryd.prog 29 #[.int .i64 65280] W fun e w' => e = .returned (.tuple #[.agg #[.func (.func 51) #[] #[], .func (.func 52) #[] #[]], .bool true]) ∧ Up W w' := by
  have hne : ∀ w, (binOp BinOp.neq 51 (.func (.func 51) #[] #[]) Value.nilFunc).run Tryd.prog w = .ok (.bool true) w := fun w => by first | rfl | kernel_rfl
  go_enter Tryd.func29, Tryd.ntmps29
  go_wp2_with (first
    | (refine wpList_index_agg rfl 90 _ _ rfl 54 16 2 _ #[.func (.func 51) #[] #[], .func (.func 52) #[] #[]] .i64 0 _ rfl rfl Tryd.underlying90 (by decide) (by decide) Tryd.underlying54 rfl (by kernel_rfl) (by kernel_rfl) ?_))
  go_region_held3 (fun w' => w'.cell? ⟨W.heap.size + 1, 0, none⟩ = some (.func (.func 51) #[] #[]) ∧ w'.cell? ⟨W.heap.size + 1, 1, none⟩ = some (.func (.func 52) #[] #[])) (first | go_keep) (fail)
  go_wp2_with fail
  refine bodyPost_ret (v := .tuple #[.agg #[.func (.func 51) #[] #[], .func (.func 52) #[] #[]], .bool true]) (results_row_tmp Tryd.results29 _ _ W.heap.size 54 #[.func (.func 51) #[] #[], .func (.func 52) #[] #[]] (0, 0) _ rfl (hp2 W _ _) Tryd.underlying54 rfl (by kernel_rfl)) rfl ⟨rfl, (((Up.refl W).alloc _).alloc _).drew⟩
set_option maxRecDepth 100000 in
set_option maxHeartbeats 1000000 in
theorem at65281 (W : World) : Calls Tryd.prog 29 #[.int .i64 65281] W fun e w' => e = .returned (.tuple #[.agg #[.func (.func 53) #[] #[], .func (.func 54) #[] #[]], .bool true]) ∧ Up W w' := by
  have hne : ∀ w, (binOp BinOp.neq 51 (.func (.func 53) #[] #[]) Value.nilFunc).run Tryd.prog w = .ok (.bool true) w := fun w => by first | rfl | kernel_rfl
  go_enter Tryd.func29, Tryd.ntmps29
  go_wp2_with (first
    | (refine wpList_index_agg rfl 90 _ _ rfl 54 16 2 _ #[.func (.func 53) #[] #[], .func (.func 54) #[] #[]] .i64 1 _ rfl rfl Tryd.underlying90 (by decide) (by decide) Tryd.underlying54 rfl (by kernel_rfl) (by kernel_rfl) ?_))
  go_region_held3 (fun w' => w'.cell? ⟨W.heap.size + 1, 0, none⟩ = some (.func (.func 53) #[] #[]) ∧ w'.cell? ⟨W.heap.size + 1, 1, none⟩ = some (.func (.func 54) #[] #[])) (first | go_keep) (fail)
  go_wp2_with fail
  refine bodyPost_ret (v := .tuple #[.agg #[.func (.func 53) #[] #[], .func (.func 54) #[] #[]], .bool true]) (results_row_tmp Tryd.results29 _ _ W.heap.size 54 #[.func (.func 53) #[] #[], .func (.func 54) #[] #[]] (0, 0) _ rfl (hp2 W _ _) Tryd.underlying54 rfl (by kernel_rfl)) rfl ⟨rfl, (((Up.refl W).alloc _).alloc _).drew⟩
set_option maxRecDepth 100000 in
set_option maxHeartbeats 1000000 in
theorem at65282 (W : World) : Calls Tryd.prog 29 #[.int .i64 65282] W fun e w' => e = .returned (.tuple #[.agg #[.func (.func 55) #[] #[], .func (.func 56) #[] #[]], .bool true]) ∧ Up W w' := by
  have hne : ∀ w, (binOp BinOp.neq 51 (.func (.func 55) #[] #[]) Value.nilFunc).run Tryd.prog w = .ok (.bool true) w := fun w => by first | rfl | kernel_rfl
  go_enter Tryd.func29, Tryd.ntmps29
  go_wp2_with (first
    | (refine wpList_index_agg rfl 90 _ _ rfl 54 16 2 _ #[.func (.func 55) #[] #[], .func (.func 56) #[] #[]] .i64 2 _ rfl rfl Tryd.underlying90 (by decide) (by decide) Tryd.underlying54 rfl (by kernel_rfl) (by kernel_rfl) ?_))
  go_region_held3 (fun w' => w'.cell? ⟨W.heap.size + 1, 0, none⟩ = some (.func (.func 55) #[] #[]) ∧ w'.cell? ⟨W.heap.size + 1, 1, none⟩ = some (.func (.func 56) #[] #[])) (first | go_keep) (fail)
  go_wp2_with fail
  refine bodyPost_ret (v := .tuple #[.agg #[.func (.func 55) #[] #[], .func (.func 56) #[] #[]], .bool true]) (results_row_tmp Tryd.results29 _ _ W.heap.size 54 #[.func (.func 55) #[] #[], .func (.func 56) #[] #[]] (0, 0) _ rfl (hp2 W _ _) Tryd.underlying54 rfl (by kernel_rfl)) rfl ⟨rfl, (((Up.refl W).alloc _).alloc _).drew⟩
set_option maxRecDepth 100000 in
set_option maxHeartbeats 1000000 in
theorem at65283 (W : World) : Calls Tryd.prog 29 #[.int .i64 65283] W fun e w' => e = .returned (.tuple #[.agg #[.nilFunc, .nilFunc], .bool false]) ∧ Up W w' := by
  have hne : ∀ w, (binOp BinOp.neq 51 (.nilFunc) Value.nilFunc).run Tryd.prog w = .ok (.bool false) w := fun w => by first | rfl | kernel_rfl
  go_enter Tryd.func29, Tryd.ntmps29
  go_wp2_with (first
    | (refine wpList_index_agg rfl 90 _ _ rfl 54 16 2 _ #[.nilFunc, .nilFunc] .i64 3 _ rfl rfl Tryd.underlying90 (by decide) (by decide) Tryd.underlying54 rfl (by kernel_rfl) (by kernel_rfl) ?_))
  go_region_held3 (fun w' => w'.cell? ⟨W.heap.size + 1, 0, none⟩ = some (.nilFunc) ∧ w'.cell? ⟨W.heap.size + 1, 1, none⟩ = some (.nilFunc)) (first | go_keep) (fail)
  go_wp2_with fail
  refine bodyPost_ret (v := .tuple #[.agg #[.nilFunc, .nilFunc], .bool false]) (results_row_tmp Tryd.results29 _ _ W.heap.size 54 #[.nilFunc, .nilFunc] (0, 0) _ rfl (hp2 W _ _) Tryd.underlying54 rfl (by kernel_rfl)) rfl ⟨rfl, (((Up.refl W).alloc _).alloc _).drew⟩
set_option maxRecDepth 100000 in
set_option maxHeartbeats 1000000 in
theorem at65284 (W : World) : Calls Tryd.prog 29 #[.int .i64 65284] W fun e w' => e = .returned (.tuple #[.agg #[.func (.func 57) #[] #[], .func (.func 58) #[] #[]], .bool true]) ∧ Up W w' := by
  have hne : ∀ w, (binOp BinOp.neq 51 (.func (.func 57) #[] #[]) Value.nilFunc).run Tryd.prog w = .ok (.bool true) w := fun w => by first | rfl | kernel_rfl
  go_enter Tryd.func29, Tryd.ntmps29
  go_wp2_with (first
    | (refine wpList_index_agg rfl 90 _ _ rfl 54 16 2 _ #[.func (.func 57) #[] #[], .func (.func 58) #[] #[]] .i64 4 _ rfl rfl Tryd.underlying90 (by decide) (by decide) Tryd.underlying54 rfl (by kernel_rfl) (by kernel_rfl) ?_))
  go_region_held3 (fun w' => w'.cell? ⟨W.heap.size + 1, 0, none⟩ = some (.func (.func 57) #[] #[]) ∧ w'.cell? ⟨W.heap.size + 1, 1, none⟩ = some (.func (.func 58) #[] #[])) (first | go_keep) (fail)
  go_wp2_with fail
  refine bodyPost_ret (v := .tuple #[.agg #[.func (.func 57) #[] #[], .func (.func 58) #[] #[]], .bool true]) (results_row_tmp Tryd.results29 _ _ W.heap.size 54 #[.func (.func 57) #[] #[], .func (.func 58) #[] #[]] (0, 0) _ rfl (hp2 W _ _) Tryd.underlying54 rfl (by kernel_rfl)) rfl ⟨rfl, (((Up.refl W).alloc _).alloc _).drew⟩
set_option maxRecDepth 100000 in
set_option maxHeartbeats 1000000 in
theorem at65285 (W : World) : Calls Tryd.prog 29 #[.int .i64 65285] W fun e w' => e = .returned (.tuple #[.agg #[.func (.func 59) #[] #[], .func (.func 60) #[] #[]], .bool true]) ∧ Up W w' := by
  have hne : ∀ w, (binOp BinOp.neq 51 (.func (.func 59) #[] #[]) Value.nilFunc).run Tryd.prog w = .ok (.bool true) w := fun w => by first | rfl | kernel_rfl
  go_enter Tryd.func29, Tryd.ntmps29
  go_wp2_with (first
    | (refine wpList_index_agg rfl 90 _ _ rfl 54 16 2 _ #[.func (.func 59) #[] #[], .func (.func 60) #[] #[]] .i64 5 _ rfl rfl Tryd.underlying90 (by decide) (by decide) Tryd.underlying54 rfl (by kernel_rfl) (by kernel_rfl) ?_))
  go_region_held3 (fun w' => w'.cell? ⟨W.heap.size + 1, 0, none⟩ = some (.func (.func 59) #[] #[]) ∧ w'.cell? ⟨W.heap.size + 1, 1, none⟩ = some (.func (.func 60) #[] #[])) (first | go_keep) (fail)
  go_wp2_with fail
  refine bodyPost_ret (v := .tuple #[.agg #[.func (.func 59) #[] #[], .func (.func 60) #[] #[]], .bool true]) (results_row_tmp Tryd.results29 _ _ W.heap.size 54 #[.func (.func 59) #[] #[], .func (.func 60) #[] #[]] (0, 0) _ rfl (hp2 W _ _) Tryd.underlying54 rfl (by kernel_rfl)) rfl ⟨rfl, (((Up.refl W).alloc _).alloc _).drew⟩
set_option maxRecDepth 100000 in
set_option maxHeartbeats 1000000 in
theorem at65286 (W : World) : Calls Tryd.prog 29 #[.int .i64 65286] W fun e w' => e = .returned (.tuple #[.agg #[.func (.func 61) #[] #[], .func (.func 62) #[] #[]], .bool true]) ∧ Up W w' := by
  have hne : ∀ w, (binOp BinOp.neq 51 (.func (.func 61) #[] #[]) Value.nilFunc).run Tryd.prog w = .ok (.bool true) w := fun w => by first | rfl | kernel_rfl
  go_enter Tryd.func29, Tryd.ntmps29
  go_wp2_with (first
    | (refine wpList_index_agg rfl 90 _ _ rfl 54 16 2 _ #[.func (.func 61) #[] #[], .func (.func 62) #[] #[]] .i64 6 _ rfl rfl Tryd.underlying90 (by decide) (by decide) Tryd.underlying54 rfl (by kernel_rfl) (by kernel_rfl) ?_))
  go_region_held3 (fun w' => w'.cell? ⟨W.heap.size + 1, 0, none⟩ = some (.func (.func 61) #[] #[]) ∧ w'.cell? ⟨W.heap.size + 1, 1, none⟩ = some (.func (.func 62) #[] #[])) (first | go_keep) (fail)
  go_wp2_with fail
  refine bodyPost_ret (v := .tuple #[.agg #[.func (.func 61) #[] #[], .func (.func 62) #[] #[]], .bool true]) (results_row_tmp Tryd.results29 _ _ W.heap.size 54 #[.func (.func 61) #[] #[], .func (.func 62) #[] #[]] (0, 0) _ rfl (hp2 W _ _) Tryd.underlying54 rfl (by kernel_rfl)) rfl ⟨rfl, (((Up.refl W).alloc _).alloc _).drew⟩
set_option maxRecDepth 100000 in
set_option maxHeartbeats 1000000 in
theorem at65287 (W : World) : Calls Tryd.prog 29 #[.int .i64 65287] W fun e w' => e = .returned (.tuple #[.agg #[.func (.func 63) #[] #[], .func (.func 64) #[] #[]], .bool true]) ∧ Up W w' := by
  have hne : ∀ w, (binOp BinOp.neq 51 (.func (.func 63) #[] #[]) Value.nilFunc).run Tryd.prog w = .ok (.bool true) w := fun w => by first | rfl | kernel_rfl
  go_enter Tryd.func29, Tryd.ntmps29
  go_wp2_with (first
    | (refine wpList_index_agg rfl 90 _ _ rfl 54 16 2 _ #[.func (.func 63) #[] #[], .func (.func 64) #[] #[]] .i64 7 _ rfl rfl Tryd.underlying90 (by decide) (by decide) Tryd.underlying54 rfl (by kernel_rfl) (by kernel_rfl) ?_))
  go_region_held3 (fun w' => w'.cell? ⟨W.heap.size + 1, 0, none⟩ = some (.func (.func 63) #[] #[]) ∧ w'.cell? ⟨W.heap.size + 1, 1, none⟩ = some (.func (.func 64) #[] #[])) (first | go_keep) (fail)
  go_wp2_with fail
  refine bodyPost_ret (v := .tuple #[.agg #[.func (.func 63) #[] #[], .func (.func 64) #[] #[]], .bool true]) (results_row_tmp Tryd.results29 _ _ W.heap.size 54 #[.func (.func 63) #[] #[], .func (.func 64) #[] #[]] (0, 0) _ rfl (hp2 W _ _) Tryd.underlying54 rfl (by kernel_rfl)) rfl ⟨rfl, (((Up.refl W).alloc _).alloc _).drew⟩
set_option maxRecDepth 100000 in
set_option maxHeartbeats 1000000 in
theorem at65288 (W : World) : Calls Tryd.prog 29 #[.int .i64 65288] W fun e w' => e = .returned (.tuple #[.agg #[.nilFunc, .nilFunc], .bool false]) ∧ Up W w' := by
  have hne : ∀ w, (binOp BinOp.neq 51 (.nilFunc) Value.nilFunc).run Tryd.prog w = .ok (.bool false) w := fun w => by first | rfl | kernel_rfl
  go_enter Tryd.func29, Tryd.ntmps29
  go_wp2_with (first
    | (refine wpList_index_agg rfl 90 _ _ rfl 54 16 2 _ #[.nilFunc, .nilFunc] .i64 8 _ rfl rfl Tryd.underlying90 (by decide) (by decide) Tryd.underlying54 rfl (by kernel_rfl) (by kernel_rfl) ?_))
  go_region_held3 (fun w' => w'.cell? ⟨W.heap.size + 1, 0, none⟩ = some (.nilFunc) ∧ w'.cell? ⟨W.heap.size + 1, 1, none⟩ = some (.nilFunc)) (first | go_keep) (fail)
  go_wp2_with fail
  refine bodyPost_ret (v := .tuple #[.agg #[.nilFunc, .nilFunc], .bool false]) (results_row_tmp Tryd.results29 _ _ W.heap.size 54 #[.nilFunc, .nilFunc] (0, 0) _ rfl (hp2 W _ _) Tryd.underlying54 rfl (by kernel_rfl)) rfl ⟨rfl, (((Up.refl W).alloc _).alloc _).drew⟩
set_option maxRecDepth 100000 in
set_option maxHeartbeats 1000000 in
theorem at65289 (W : World) : Calls Tryd.prog 29 #[.int .i64 65289] W fun e w' => e = .returned (.tuple #[.agg #[.nilFunc, .nilFunc], .bool false]) ∧ Up W w' := by
  have hne : ∀ w, (binOp BinOp.neq 51 (.nilFunc) Value.nilFunc).run Tryd.prog w = .ok (.bool false) w := fun w => by first | rfl | kernel_rfl
  go_enter Tryd.func29, Tryd.ntmps29
  go_wp2_with (first
    | (refine wpList_index_agg rfl 90 _ _ rfl 54 16 2 _ #[.nilFunc, .nilFunc] .i64 9 _ rfl rfl Tryd.underlying90 (by decide) (by decide) Tryd.underlying54 rfl (by kernel_rfl) (by kernel_rfl) ?_))
  go_region_held3 (fun w' => w'.cell? ⟨W.heap.size + 1, 0, none⟩ = some (.nilFunc) ∧ w'.cell? ⟨W.heap.size + 1, 1, none⟩ = some (.nilFunc)) (first | go_keep) (fail)
  go_wp2_with fail
  refine bodyPost_ret (v := .tuple #[.agg #[.nilFunc, .nilFunc], .bool false]) (results_row_tmp Tryd.results29 _ _ W.heap.size 54 #[.nilFunc, .nilFunc] (0, 0) _ rfl (hp2 W _ _) Tryd.underlying54 rfl (by kernel_rfl)) rfl ⟨rfl, (((Up.refl W).alloc _).alloc _).drew⟩
set_option maxRecDepth 100000 in
set_option maxHeartbeats 1000000 in
theorem at65290 (W : World) : Calls Tryd.prog 29 #[.int .i64 65290] W fun e w' => e = .returned (.tuple #[.agg #[.nilFunc, .nilFunc], .bool false]) ∧ Up W w' := by
  have hne : ∀ w, (binOp BinOp.neq 51 (.nilFunc) Value.nilFunc).run Tryd.prog w = .ok (.bool false) w := fun w => by first | rfl | kernel_rfl
  go_enter Tryd.func29, Tryd.ntmps29
  go_wp2_with (first
    | (refine wpList_index_agg rfl 90 _ _ rfl 54 16 2 _ #[.nilFunc, .nilFunc] .i64 10 _ rfl rfl Tryd.underlying90 (by decide) (by decide) Tryd.underlying54 rfl (by kernel_rfl) (by kernel_rfl) ?_))
  go_region_held3 (fun w' => w'.cell? ⟨W.heap.size + 1, 0, none⟩ = some (.nilFunc) ∧ w'.cell? ⟨W.heap.size + 1, 1, none⟩ = some (.nilFunc)) (first | go_keep) (fail)
  go_wp2_with fail
  refine bodyPost_ret (v := .tuple #[.agg #[.nilFunc, .nilFunc], .bool false]) (results_row_tmp Tryd.results29 _ _ W.heap.size 54 #[.nilFunc, .nilFunc] (0, 0) _ rfl (hp2 W _ _) Tryd.underlying54 rfl (by kernel_rfl)) rfl ⟨rfl, (((Up.refl W).alloc _).alloc _).drew⟩
set_option maxRecDepth 100000 in
set_option maxHeartbeats 1000000 in
theorem at65291 (W : World) : Calls Tryd.prog 29 #[.int .i64 65291] W fun e w' => e = .returned (.tuple #[.agg #[.nilFunc, .nilFunc], .bool false]) ∧ Up W w' := by
  have hne : ∀ w, (binOp BinOp.neq 51 (.nilFunc) Value.nilFunc).run Tryd.prog w = .ok (.bool false) w := fun w => by first | rfl | kernel_rfl
  go_enter Tryd.func29, Tryd.ntmps29
  go_wp2_with (first
    | (refine wpList_index_agg rfl 90 _ _ rfl 54 16 2 _ #[.nilFunc, .nilFunc] .i64 11 _ rfl rfl Tryd.underlying90 (by decide) (by decide) Tryd.underlying54 rfl (by kernel_rfl) (by kernel_rfl) ?_))
  go_region_held3 (fun w' => w'.cell? ⟨W.heap.size + 1, 0, none⟩ = some (.nilFunc) ∧ w'.cell? ⟨W.heap.size + 1, 1, none⟩ = some (.nilFunc)) (first | go_keep) (fail)
  go_wp2_with fail
  refine bodyPost_ret (v := .tuple #[.agg #[.nilFunc, .nilFunc], .bool false]) (results_row_tmp Tryd.results29 _ _ W.heap.size 54 #[.nilFunc, .nilFunc] (0, 0) _ rfl (hp2 W _ _) Tryd.underlying54 rfl (by kernel_rfl)) rfl ⟨rfl, (((Up.refl W).alloc _).alloc _).drew⟩
set_option maxRecDepth 100000 in
set_option maxHeartbeats 1000000 in
theorem at65292 (W : World) : Calls Tryd.prog 29 #[.int .i64 65292] W fun e w' => e = .returned (.tuple #[.agg #[.nilFunc, .nilFunc], .bool false]) ∧ Up W w' := by
  have hne : ∀ w, (binOp BinOp.neq 51 (.nilFunc) Value.nilFunc).run Tryd.prog w = .ok (.bool false) w := fun w => by first | rfl | kernel_rfl
  go_enter Tryd.func29, Tryd.ntmps29
  go_wp2_with (first
    | (refine wpList_index_agg rfl 90 _ _ rfl 54 16 2 _ #[.nilFunc, .nilFunc] .i64 12 _ rfl rfl Tryd.underlying90 (by decide) (by decide) Tryd.underlying54 rfl (by kernel_rfl) (by kernel_rfl) ?_))
  go_region_held3 (fun w' => w'.cell? ⟨W.heap.size + 1, 0, none⟩ = some (.nilFunc) ∧ w'.cell? ⟨W.heap.size + 1, 1, none⟩ = some (.nilFunc)) (first | go_keep) (fail)
  go_wp2_with fail
  refine bodyPost_ret (v := .tuple #[.agg #[.nilFunc, .nilFunc], .bool false]) (results_row_tmp Tryd.results29 _ _ W.heap.size 54 #[.nilFunc, .nilFunc] (0, 0) _ rfl (hp2 W _ _) Tryd.underlying54 rfl (by kernel_rfl)) rfl ⟨rfl, (((Up.refl W).alloc _).alloc _).drew⟩
set_option maxRecDepth 100000 in
set_option maxHeartbeats 1000000 in
theorem at65293 (W : World) : Calls Tryd.prog 29 #[.int .i64 65293] W fun e w' => e = .returned (.tuple #[.agg #[.nilFunc, .nilFunc], .bool false]) ∧ Up W w' := by
  have hne : ∀ w, (binOp BinOp.neq 51 (.nilFunc) Value.nilFunc).run Tryd.prog w = .ok (.bool false) w := fun w => by first | rfl | kernel_rfl
  go_enter Tryd.func29, Tryd.ntmps29
  go_wp2_with (first
    | (refine wpList_index_agg rfl 90 _ _ rfl 54 16 2 _ #[.nilFunc, .nilFunc] .i64 13 _ rfl rfl Tryd.underlying90 (by decide) (by decide) Tryd.underlying54 rfl (by kernel_rfl) (by kernel_rfl) ?_))
  go_region_held3 (fun w' => w'.cell? ⟨W.heap.size + 1, 0, none⟩ = some (.nilFunc) ∧ w'.cell? ⟨W.heap.size + 1, 1, none⟩ = some (.nilFunc)) (first | go_keep) (fail)
  go_wp2_with fail
  refine bodyPost_ret (v := .tuple #[.agg #[.nilFunc, .nilFunc], .bool false]) (results_row_tmp Tryd.results29 _ _ W.heap.size 54 #[.nilFunc, .nilFunc] (0, 0) _ rfl (hp2 W _ _) Tryd.underlying54 rfl (by kernel_rfl)) rfl ⟨rfl, (((Up.refl W).alloc _).alloc _).drew⟩
set_option maxRecDepth 100000 in
set_option maxHeartbeats 1000000 in
theorem at65294 (W : World) : Calls Tryd.prog 29 #[.int .i64 65294] W fun e w' => e = .returned (.tuple #[.agg #[.nilFunc, .nilFunc], .bool false]) ∧ Up W w' := by
  have hne : ∀ w, (binOp BinOp.neq 51 (.nilFunc) Value.nilFunc).run Tryd.prog w = .ok (.bool false) w := fun w => by first | rfl | kernel_rfl
  go_enter Tryd.func29, Tryd.ntmps29
  go_wp2_with (first
    | (refine wpList_index_agg rfl 90 _ _ rfl 54 16 2 _ #[.nilFunc, .nilFunc] .i64 14 _ rfl rfl Tryd.underlying90 (by decide) (by decide) Tryd.underlying54 rfl (by kernel_rfl) (by kernel_rfl) ?_))
  go_region_held3 (fun w' => w'.cell? ⟨W.heap.size + 1, 0, none⟩ = some (.nilFunc) ∧ w'.cell? ⟨W.heap.size + 1, 1, none⟩ = some (.nilFunc)) (first | go_keep) (fail)
  go_wp2_with fail
  refine bodyPost_ret (v := .tuple #[.agg #[.nilFunc, .nilFunc], .bool false]) (results_row_tmp Tryd.results29 _ _ W.heap.size 54 #[.nilFunc, .nilFunc] (0, 0) _ rfl (hp2 W _ _) Tryd.underlying54 rfl (by kernel_rfl)) rfl ⟨rfl, (((Up.refl W).alloc _).alloc _).drew⟩
set_option maxRecDepth 100000 in
set_option maxHeartbeats 1000000 in
theorem at65295 (W : World) : Calls Tryd.prog 29 #[.int .i64 65295] W fun e w' => e = .returned (.tuple #[.agg #[.func (.func 65) #[] #[], .func (.func 66) #[] #[]], .bool true]) ∧ Up W w' := by
  have hne : ∀ w, (binOp BinOp.neq 51 (.func (.func 65) #[] #[]) Value.nilFunc).run Tryd.prog w = .ok (.bool true) w := fun w => by first | rfl | kernel_rfl
  go_enter Tryd.func29, Tryd.ntmps29
  go_wp2_with (first
    | (refine wpList_index_agg rfl 90 _ _ rfl 54 16 2 _ #[.func (.func 65) #[] #[], .func (.func 66) #[] #[]] .i64 15 _ rfl rfl Tryd.underlying90 (by decide) (by decide) Tryd.underlying54 rfl (by kernel_rfl) (by kernel_rfl) ?_))
  go_region_held3 (fun w' => w'.cell? ⟨W.heap.size + 1, 0, none⟩ = some (.func (.func 65) #[] #[]) ∧ w'.cell? ⟨W.heap.size + 1, 1, none⟩ = some (.func (.func 66) #[] #[])) (first | go_keep) (fail)
  go_wp2_with fail
  refine bodyPost_ret (v := .tuple #[.agg #[.func (.func 65) #[] #[], .func (.func 66) #[] #[]], .bool true]) (results_row_tmp Tryd.results29 _ _ W.heap.size 54 #[.func (.func 65) #[] #[], .func (.func 66) #[] #[]] (0, 0) _ rfl (hp2 W _ _) Tryd.underlying54 rfl (by kernel_rfl)) rfl ⟨rfl, (((Up.refl W).alloc _).alloc _).drew⟩
end Go.Proofs.YteomldlmdpphaaaDoor
