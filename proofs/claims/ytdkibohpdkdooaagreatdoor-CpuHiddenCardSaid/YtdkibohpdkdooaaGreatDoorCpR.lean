/- The rows of acts, over the translation. -/
import Derived.Test.YtdkibohpdkdooaaGreatDoorCpA
import Derived.Test.YtdkibohpdkdooaaGreatDoorTabL
import Derived.Laws.ResultCell
import Derived.Laws.CopyOwn
import Derived.Great.BuildSlice
namespace Go.Proofs.YtdkibohpdkdooaaGreatDoor
open Go.RowKit
set_option linter.unusedVariables false
def doesF (d : Nat) : Nat := [77, 86, 78, 98, 100, 99, 97, 95, 79, 122, 121, 89, 94, 123, 93, 87, 91, 112, 114, 113, 115, 80, 96, 83, 84, 81, 90, 92, 88, 116, 117, 76, 55].getD d 0
def Row.cells (r : Row) : Array Value := #[.int .u8 r.a0, .int .u8 r.a1, .int .u8 r.a2, .int .u8 r.a3, .int .u8 r.a4, .int .u8 r.a5, .int .u8 r.sure, .func (.func (doesF r.d)) #[] #[]]
theorem run_index_agg {P : Program} (t e : TypeId) (n m : Nat) (cs : Array Value) (k : IntKind) (i : Int) (d : TypeDesc) (w : World) (h : P.underlying t = some (.array n e)) (h0 : 0 ≤ i) (h1 : i < (n : Int))
    (hu : P.underlying e = some d) (hd : (match d with | .struct _ | .array _ _ => true | _ => false) = true) (hi : (P.info? e).map (·.size) = some m) :
    (Instr.index t (.agg cs) (.int k i)).run P w = .ok (.agg (cs.extract (i.toNat * m) (i.toNat * m + m))) w := by
  have ha : (isAgg e).run P w = .ok true w := by
    cases d <;> simp_all [isAgg, run_underlying hu]
  have hs : (sizeOf e).run P w = .ok m w := by
    obtain ⟨x, hx, hm⟩ := Option.map_eq_some_iff.1 hi
    simp [sizeOf, typeInfo, hx, hm]
  simp [Instr.index, run_underlying h, asIntOf, h0, h1, part, ha, hs, go_sem]
theorem wpList_index_agg {P : Program} {ops : Array Oper} {rest : List Oper} {o : Oper} {a : Act} {w : World} {Q : Exit → Act → World → Prop} (hgd : o.guard = none) (t : TypeId) (x y : Operand) (ho : o.op = .index t x y)
    (e : TypeId) (n m : Nat) (cs R : Array Value) (k : IntKind) (i : Int) (d : TypeDesc) (hx : a.eval x = .agg cs) (hy : a.eval y = .int k i)
    (h : P.underlying t = some (.array n e)) (h0 : 0 ≤ i) (h1 : i < (n : Int)) (hu : P.underlying e = some d) (hd : (match d with | .struct _ | .array _ _ => true | _ => false) = true) (hi : (P.info? e).map (·.size) = some m)
    (hR : cs.extract (i.toNat * m) (i.toNat * m + m) = R) (hh : wpList P ops Q rest (a.put o.dst (.agg R)) w) : wpList P ops Q (o :: rest) a w := by
  refine wpList_plain hgd fun K hK => ?_
  subst hR
  unfold Oper.wp execOp
  simp only [ho, hx, hy, Sem.run_bind, run_index_agg t e n m cs k i d w h h0 h1 hu hd hi, Result.andThen_ok, Sem.run_pure]
  exact hK _ _ hh
theorem cases8 {y : Int} (h0 : 0 ≤ y) (h1 : y ≤ 7) : y = 0 ∨ y = 1 ∨ y = 2 ∨ y = 3 ∨ y = 4 ∨ y = 5 ∨ y = 6 ∨ y = 7 := by omega
theorem cells_size (r : Row) : r.cells.size = 8 := rfl
theorem cells_one (r : Row) : r.cells.all (·.oneCell') = true := by simp [Row.cells, Value.oneCell']
set_option maxRecDepth 100000 in
set_option maxHeartbeats 4000000 in
theorem sumRow_any (y : Int) (w : World) (h0 : 0 ≤ y) (h1 : y ≤ 7) :
    Calls Tryz.prog 62 #[.int .u8 y] w fun e w' => e = .returned (.agg (sumP y).cells) ∧ Up w w' := by
  have hy := cases8 h0 h1
  clear h0 h1
  rcases hy with rfl | rfl | rfl | rfl | rfl | rfl | rfl | rfl
  all_goals
    go_enter Tryz.func62, Tryz.ntmps62
    go_wp2
    refine bodyPost_ret (v := .agg _) (results_row Tryz.results62 _ _ _ 75 _ (0, 0) _ rfl (heap_alloc_new _ _) Tryz.underlying75 rfl (by kernel_rfl)) rfl ⟨rfl, (Up.refl w).alloc _⟩
set_option maxRecDepth 100000 in
set_option maxHeartbeats 4000000 in
theorem throughRow_any (y : Int) (w : World) (h0 : 0 ≤ y) (h1 : y ≤ 7) :
    Calls Tryz.prog 82 #[.int .u8 y] w fun e w' => e = .returned (.agg (thru.getD y.toNat noRow).cells) ∧ Up w w' := by
  generalize hR : (thru.getD y.toNat noRow) = R
  go_enter Tryz.func82, Tryz.ntmps82
  go_wp2_with (first
    | (refine wpList_index_agg rfl 92 _ _ rfl 75 8 8 _ R.cells .u8 y _ rfl rfl Tryz.underlying92 (by omega) (by omega) Tryz.underlying75 rfl (by kernel_rfl) (by subst hR; rcases cases8 h0 h1 with rfl | rfl | rfl | rfl | rfl | rfl | rfl | rfl <;> kernel_rfl) ?_; clear hR)
    | (refine wpList_store_rowTo rfl 75 _ _ rfl rfl w.heap.size R.cells rfl rfl 75 _ (heap_alloc_new w _) (by kernel_rfl) rfl (cells_one R) ?_))
  refine bodyPost_ret (v := .agg _) (results_row Tryz.results82 _ _ _ 75 _ (0, 0) _ rfl (setRow_heap _ _ _ _ _ _ (heap_alloc_new w _)) Tryz.underlying75 rfl (by kernel_rfl)) rfl ⟨rfl, ((Up.refl w).alloc _).setRow (Nat.le_refl _) _⟩
end Go.Proofs.YtdkibohpdkdooaaGreatDoor
