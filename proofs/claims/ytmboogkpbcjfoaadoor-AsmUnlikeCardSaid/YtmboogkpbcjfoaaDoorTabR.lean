/- The tables of rules as they lie in memory. -/
import Derived.Test.YtmboogkpbcjfoaaDoorTabL
namespace Go.Proofs.YtmboogkpbcjfoaaDoor
open Go.RowKit
set_option linter.unusedVariables false
/-- a rule's cells -/
def ruleV (r : Rule) : List Value := [.int .i64 r.z, .int .u8 r.ys, .string ⟨r.text.toArray⟩, .int .i64 r.bytes, .int .i64 r.cycles, .int .i64 r.taken, .int .i64 r.more]
def ruleCells (rs : List Rule) : List Value := rs.flatMap ruleV
/-- a list of rules in memory -/
def RulesAt (w : World) (v : Value) (rs : List Rule) : Prop :=
  ∃ b, v = .slice (some ⟨b, 0, none⟩) rs.length rs.length ∧ w.heap[b]? = some (.cells (ruleCells rs).toArray 40 (0, 0))
set_option maxRecDepth 1000000 in
set_option maxHeartbeats 2000000 in
theorem second_0 (w : World) :
    Calls Tryd.prog 9 #[.int .i64 0] w fun e w' => ∃ v, e = .returned v ∧ RulesAt w' v sec0 ∧ Below w.heap.size w w' := by
  go_enter Tryd.func9, Tryd.ntmps9
  go_wp2
  go_ret
  exact ⟨_, rfl, ⟨w.heap.size, rfl, heap_alloc_new w _⟩, (Below.refl _ w).alloc (Nat.le_refl _) _⟩
set_option maxRecDepth 1000000 in
set_option maxHeartbeats 2000000 in
theorem second_1 (w : World) :
    Calls Tryd.prog 9 #[.int .i64 1] w fun e w' => ∃ v, e = .returned v ∧ RulesAt w' v sec1 ∧ Below w.heap.size w w' := by
  go_enter Tryd.func9, Tryd.ntmps9
  go_wp2
  go_ret
  exact ⟨_, rfl, ⟨w.heap.size, rfl, heap_alloc_new w _⟩, (Below.refl _ w).alloc (Nat.le_refl _) _⟩
set_option maxRecDepth 1000000 in
set_option maxHeartbeats 2000000 in
theorem second_2 (w : World) :
    Calls Tryd.prog 9 #[.int .i64 2] w fun e w' => ∃ v, e = .returned v ∧ RulesAt w' v sec2 ∧ Below w.heap.size w w' := by
  go_enter Tryd.func9, Tryd.ntmps9
  go_wp2
  go_ret
  exact ⟨_, rfl, ⟨w.heap.size, rfl, heap_alloc_new w _⟩, (Below.refl _ w).alloc (Nat.le_refl _) _⟩
set_option maxRecDepth 1000000 in
set_option maxHeartbeats 2000000 in
theorem second_3 (w : World) :
    Calls Tryd.prog 9 #[.int .i64 3] w fun e w' => ∃ v, e = .returned v ∧ RulesAt w' v sec3 ∧ Below w.heap.size w w' := by
  go_enter Tryd.func9, Tryd.ntmps9
  go_wp2
  go_ret
  exact ⟨_, rfl, ⟨w.heap.size, rfl, heap_alloc_new w _⟩, (Below.refl _ w).alloc (Nat.le_refl _) _⟩
set_option maxRecDepth 1000000 in
set_option maxHeartbeats 2000000 in
theorem first_1 (w : World) :
    Calls Tryd.prog 8 #[.int .i64 1] w fun e w' => ∃ v, e = .returned v ∧ RulesAt w' v rules1 ∧ Below w.heap.size w w' := by
  go_enter Tryd.func8, Tryd.ntmps8
  go_wp2
  go_ret
  exact ⟨_, rfl, ⟨w.heap.size, rfl, heap_alloc_new w _⟩, (Below.refl _ w).alloc (Nat.le_refl _) _⟩
set_option maxRecDepth 1000000 in
set_option maxHeartbeats 2000000 in
theorem first_2 (w : World) :
    Calls Tryd.prog 8 #[.int .i64 2] w fun e w' => ∃ v, e = .returned v ∧ RulesAt w' v rules2 ∧ Below w.heap.size w w' := by
  go_enter Tryd.func8, Tryd.ntmps8
  go_wp2
  go_ret
  exact ⟨_, rfl, ⟨w.heap.size, rfl, heap_alloc_new w _⟩, (Below.refl _ w).alloc (Nat.le_refl _) _⟩
end Go.Proofs.YtmboogkpbcjfoaaDoor
