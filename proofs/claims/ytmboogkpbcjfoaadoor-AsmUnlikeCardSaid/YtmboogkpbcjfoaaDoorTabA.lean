/- The small calls of the tables over the translation: which kind a letter stands for, which word. Conditions: the rows of words lie in their variables as the text has them. -/
import Derived.Test.YtmboogkpbcjfoaaDoorProg
import Derived.Test.YtmboogkpbcjfoaaDoorTabP
import Derived.WalkKit
import Derived.LoopTactic
import Derived.BigCall
import Derived.Handy
import Derived.Lib.OthersKept
namespace Go.Proofs.YtmboogkpbcjfoaaDoor
open Go.RowKit
set_option linter.unusedVariables false

/-- nothing that was there has turned -/
def Kept (w w' : World) : Prop := w.keptBut w' (fun _ => False) ∧ w.heap.size ≤ w'.heap.size
theorem Kept.refl (w : World) : Kept w w := ⟨World.keptBut_refl _ _, Nat.le_refl _⟩
theorem Kept.step {a b c : World} (h : Kept a b) (g : Kept b c) : Kept a c := ⟨World.keptBut_trans h.1 g.1, Nat.le_trans h.2 g.2⟩
theorem Kept.ofBelow {a b : World} (h : Below a.heap.size a b) : Kept a b := ⟨h.frame _, h.size⟩
theorem Kept.cell {a b : World} (h : Kept a b) {k o : Nat} (hk : k < a.heap.size) : b.cell? ⟨k, o, none⟩ = a.cell? ⟨k, o, none⟩ := h.1.cell hk (fun x => x)
theorem ret1 {k : IntKind} {a b : Int} (h : a = b) : Ending.returned (.int k a) = .returned (.int k b) := by rw [h]
theorem argL_eq (c : Nat) : ((argL c : Nat) : Int) = cond (78 == (c : Int)) 1 (cond (83 == (c : Int)) 2 (cond (69 == (c : Int)) 3 (cond (87 == (c : Int)) 4 (cond (72 == (c : Int)) 5 (cond (86 == (c : Int)) 6 (cond (66 == (c : Int)) 7 0)))))) := by
  unfold argL
  simp only [cond_eq_ite, beq_iff_eq]
  repeat' split
  all_goals omega
/-- a row of words in a variable -/
def Row (w : World) (g : Nat) (l : List (List UInt8)) : Prop := g < w.heap.size ∧ ∀ i, i < l.length → w.cell? ⟨g, i, none⟩ = some (.string ⟨(l.getD i []).toArray⟩)
theorem Row.kept {w w' : World} {g : Nat} {l : List (List UInt8)} (h : Row w g l) (k : Kept w w') : Row w' g l :=
  ⟨Nat.lt_of_lt_of_le h.1 k.2, fun i hi => (k.cell h.1).trans (h.2 i hi)⟩
/-- the variables that the tables read -/
structure Laid (w : World) : Prop where
  r : Row w 0 rowR
  rp : Row w 1 rowRP
  rq : Row w 2 rowRQ
  m : Row w 3 rowM
  cc : Row w 4 rowCC
  alu : Row w 5 rowALU
  rot : Row w 6 rowROT
  acc : Row w 7 rowACC
  most : 8 < w.heap.size ∧ ∃ n : Int, w.cell? ⟨8, 0, none⟩ = some (.int .i64 n)
theorem Laid.kept {w w' : World} (h : Laid w) (k : Kept w w') : Laid w' :=
  ⟨h.r.kept k, h.rp.kept k, h.rq.kept k, h.m.kept k, h.cc.kept k, h.alu.kept k, h.rot.kept k, h.acc.kept k, Nat.lt_of_lt_of_le h.most.1 k.2, h.most.2.imp fun n hn => (k.cell h.most.1).trans hn⟩

set_option maxRecDepth 100000 in
set_option maxHeartbeats 1000000 in
theorem argOf_any (c : Nat) (w : World) (hc : c < 128) :
    Calls Tryd.prog 24 #[.int .i32 c] w fun e w' => e = .returned (.int .i64 (argL c)) ∧ Below w.heap.size w w' := by
  have n0 : ∀ ty, (Instr.next (.pointer (some ⟨w.heap.size, 0, none⟩)) true ty).run Tryd.prog (w.iter ⟨#[78, 83, 69, 87, 72, 86, 66]⟩ 0) = .ok (.tuple #[.bool true, .int .i64 0, .int .i32 78]) (w.iter ⟨#[78, 83, 69, 87, 72, 86, 66]⟩ 1) := fun ty => run_next_ascii w ⟨#[78, 83, 69, 87, 72, 86, 66]⟩ 0 ty (by decide) (by decide)
  have n1 : ∀ ty, (Instr.next (.pointer (some ⟨w.heap.size, 0, none⟩)) true ty).run Tryd.prog (w.iter ⟨#[78, 83, 69, 87, 72, 86, 66]⟩ 1) = .ok (.tuple #[.bool true, .int .i64 1, .int .i32 83]) (w.iter ⟨#[78, 83, 69, 87, 72, 86, 66]⟩ 2) := fun ty => run_next_ascii w ⟨#[78, 83, 69, 87, 72, 86, 66]⟩ 1 ty (by decide) (by decide)
  have n2 : ∀ ty, (Instr.next (.pointer (some ⟨w.heap.size, 0, none⟩)) true ty).run Tryd.prog (w.iter ⟨#[78, 83, 69, 87, 72, 86, 66]⟩ 2) = .ok (.tuple #[.bool true, .int .i64 2, .int .i32 69]) (w.iter ⟨#[78, 83, 69, 87, 72, 86, 66]⟩ 3) := fun ty => run_next_ascii w ⟨#[78, 83, 69, 87, 72, 86, 66]⟩ 2 ty (by decide) (by decide)
  have n3 : ∀ ty, (Instr.next (.pointer (some ⟨w.heap.size, 0, none⟩)) true ty).run Tryd.prog (w.iter ⟨#[78, 83, 69, 87, 72, 86, 66]⟩ 3) = .ok (.tuple #[.bool true, .int .i64 3, .int .i32 87]) (w.iter ⟨#[78, 83, 69, 87, 72, 86, 66]⟩ 4) := fun ty => run_next_ascii w ⟨#[78, 83, 69, 87, 72, 86, 66]⟩ 3 ty (by decide) (by decide)
  have n4 : ∀ ty, (Instr.next (.pointer (some ⟨w.heap.size, 0, none⟩)) true ty).run Tryd.prog (w.iter ⟨#[78, 83, 69, 87, 72, 86, 66]⟩ 4) = .ok (.tuple #[.bool true, .int .i64 4, .int .i32 72]) (w.iter ⟨#[78, 83, 69, 87, 72, 86, 66]⟩ 5) := fun ty => run_next_ascii w ⟨#[78, 83, 69, 87, 72, 86, 66]⟩ 4 ty (by decide) (by decide)
  have n5 : ∀ ty, (Instr.next (.pointer (some ⟨w.heap.size, 0, none⟩)) true ty).run Tryd.prog (w.iter ⟨#[78, 83, 69, 87, 72, 86, 66]⟩ 5) = .ok (.tuple #[.bool true, .int .i64 5, .int .i32 86]) (w.iter ⟨#[78, 83, 69, 87, 72, 86, 66]⟩ 6) := fun ty => run_next_ascii w ⟨#[78, 83, 69, 87, 72, 86, 66]⟩ 5 ty (by decide) (by decide)
  have n6 : ∀ ty, (Instr.next (.pointer (some ⟨w.heap.size, 0, none⟩)) true ty).run Tryd.prog (w.iter ⟨#[78, 83, 69, 87, 72, 86, 66]⟩ 6) = .ok (.tuple #[.bool true, .int .i64 6, .int .i32 66]) (w.iter ⟨#[78, 83, 69, 87, 72, 86, 66]⟩ 7) := fun ty => run_next_ascii w ⟨#[78, 83, 69, 87, 72, 86, 66]⟩ 6 ty (by decide) (by decide)
  have n7 : ∀ ty, (Instr.next (.pointer (some ⟨w.heap.size, 0, none⟩)) true ty).run Tryd.prog (w.iter ⟨#[78, 83, 69, 87, 72, 86, 66]⟩ 7) = .ok (.tuple #[.bool false]) (w.iter ⟨#[78, 83, 69, 87, 72, 86, 66]⟩ 7) := fun ty => run_next_end w ⟨#[78, 83, 69, 87, 72, 86, 66]⟩ 7 ty (by decide)
  go_enter Tryd.func24, Tryd.ntmps24
  go_wp2
  go_rounds 8
  all_goals
    go_ret
    exact ⟨ret1 (by rw [argL_eq]; simp only [*]; rfl), (Below.refl _ w).alloc (Nat.le_refl _) _⟩

theorem retS {a b : ByteArray} (h : a = b) : Ending.returned (.string a) = .returned (.string b) := by rw [h]
theorem enc_ascii (c : Nat) (h : c < 128) : Utf8.encode (c : Int) = ⟨#[UInt8.ofNat c]⟩ :=
  (by decide +kernel : ∀ n : Fin 128, Utf8.encode ((n.val : Nat) : Int) = ⟨#[UInt8.ofNat n.val]⟩) ⟨c, h⟩
set_option maxRecDepth 100000 in
set_option maxHeartbeats 1000000 in
theorem wordOf_else (c y z : Nat) (w : World) (hc : c < 128) (h0 : c ≠ 82) (h1 : c ≠ 90) (h2 : c ≠ 80) (h3 : c ≠ 81) (h4 : c ≠ 77) (h5 : c ≠ 67) (h6 : c ≠ 65) (h7 : c ≠ 84) (h8 : c ≠ 85) :
    Calls Tryd.prog 25 #[.int .i32 c, .int .i64 y, .int .i64 z] w fun e w' => e = .returned (.string ⟨#[UInt8.ofNat c]⟩) ∧ w' = w := by
  go_enter Tryd.func25, Tryd.ntmps25
  go_wp2
  go_ret
  exact ⟨retS (enc_ascii c hc), rfl⟩
set_option maxRecDepth 100000 in
set_option maxHeartbeats 1000000 in
theorem wordOf_R (y z : Nat) (v : ByteArray) (w : World) (hy : y < 8) (hc : w.cell? ⟨0, y, none⟩ = some (.string v)) :
    Calls Tryd.prog 25 #[.int .i32 82, .int .i64 y, .int .i64 z] w fun e w' => e = .returned (.string v) ∧ w' = w := by
  go_enter Tryd.func25, Tryd.ntmps25
  go_wp2
  go_ret
  exact ⟨rfl, rfl⟩
set_option maxRecDepth 100000 in
set_option maxHeartbeats 1000000 in
theorem wordOf_Z (y z : Nat) (v : ByteArray) (w : World) (hy : z < 8) (hc : w.cell? ⟨0, z, none⟩ = some (.string v)) :
    Calls Tryd.prog 25 #[.int .i32 90, .int .i64 y, .int .i64 z] w fun e w' => e = .returned (.string v) ∧ w' = w := by
  go_enter Tryd.func25, Tryd.ntmps25
  go_wp2
  go_ret
  exact ⟨rfl, rfl⟩
set_option maxRecDepth 100000 in
set_option maxHeartbeats 1000000 in
theorem wordOf_P (y z : Nat) (v : ByteArray) (w : World) (hy : y < 8) (hc : w.cell? ⟨1, y / 2, none⟩ = some (.string v)) :
    Calls Tryd.prog 25 #[.int .i32 80, .int .i64 y, .int .i64 z] w fun e w' => e = .returned (.string v) ∧ w' = w := by
  go_enter Tryd.func25, Tryd.ntmps25
  go_wp2
  go_ret
  exact ⟨rfl, rfl⟩
set_option maxRecDepth 100000 in
set_option maxHeartbeats 1000000 in
theorem wordOf_Q (y z : Nat) (v : ByteArray) (w : World) (hy : y < 8) (hc : w.cell? ⟨2, y / 2, none⟩ = some (.string v)) :
    Calls Tryd.prog 25 #[.int .i32 81, .int .i64 y, .int .i64 z] w fun e w' => e = .returned (.string v) ∧ w' = w := by
  go_enter Tryd.func25, Tryd.ntmps25
  go_wp2
  go_ret
  exact ⟨rfl, rfl⟩
set_option maxRecDepth 100000 in
set_option maxHeartbeats 1000000 in
theorem wordOf_M (y z : Nat) (v : ByteArray) (w : World) (hy : y < 8) (hc : w.cell? ⟨3, y / 2, none⟩ = some (.string v)) :
    Calls Tryd.prog 25 #[.int .i32 77, .int .i64 y, .int .i64 z] w fun e w' => e = .returned (.string v) ∧ w' = w := by
  go_enter Tryd.func25, Tryd.ntmps25
  go_wp2
  go_ret
  exact ⟨rfl, rfl⟩
set_option maxRecDepth 100000 in
set_option maxHeartbeats 1000000 in
theorem wordOf_C (y z : Nat) (v : ByteArray) (w : World) (hy : y < 8) (hc : w.cell? ⟨4, y % 4, none⟩ = some (.string v)) :
    Calls Tryd.prog 25 #[.int .i32 67, .int .i64 y, .int .i64 z] w fun e w' => e = .returned (.string v) ∧ w' = w := by
  go_enter Tryd.func25, Tryd.ntmps25
  go_wp2
  go_ret
  exact ⟨rfl, rfl⟩
set_option maxRecDepth 100000 in
set_option maxHeartbeats 1000000 in
theorem wordOf_A (y z : Nat) (v : ByteArray) (w : World) (hy : y < 8) (hc : w.cell? ⟨5, y, none⟩ = some (.string v)) :
    Calls Tryd.prog 25 #[.int .i32 65, .int .i64 y, .int .i64 z] w fun e w' => e = .returned (.string v) ∧ w' = w := by
  go_enter Tryd.func25, Tryd.ntmps25
  go_wp2
  go_ret
  exact ⟨rfl, rfl⟩
set_option maxRecDepth 100000 in
set_option maxHeartbeats 1000000 in
theorem wordOf_T (y z : Nat) (v : ByteArray) (w : World) (hy : y < 8) (hc : w.cell? ⟨6, y, none⟩ = some (.string v)) :
    Calls Tryd.prog 25 #[.int .i32 84, .int .i64 y, .int .i64 z] w fun e w' => e = .returned (.string v) ∧ w' = w := by
  go_enter Tryd.func25, Tryd.ntmps25
  go_wp2
  go_ret
  exact ⟨rfl, rfl⟩
set_option maxRecDepth 100000 in
set_option maxHeartbeats 1000000 in
theorem wordOf_U (y z : Nat) (v : ByteArray) (w : World) (hy : y < 8) (hc : w.cell? ⟨7, y, none⟩ = some (.string v)) :
    Calls Tryd.prog 25 #[.int .i32 85, .int .i64 y, .int .i64 z] w fun e w' => e = .returned (.string v) ∧ w' = w := by
  go_enter Tryd.func25, Tryd.ntmps25
  go_wp2
  go_ret
  exact ⟨rfl, rfl⟩
theorem wordOf_any (c y z : Nat) (w : World) (hc : c < 128) (hy : y < 8) (hz : z < 8) (L : Laid w) :
    Calls Tryd.prog 25 #[.int .i32 c, .int .i64 y, .int .i64 z] w fun e w' => e = .returned (.string ⟨(wordL c y z).toArray⟩) ∧ w' = w := by
  unfold wordL
  by_cases e0 : c = 82
  · subst e0
    exact wordOf_R y z _ w hy (L.r.2 y (by simp [rowR]; omega))
  rw [if_neg e0]
  by_cases e1 : c = 90
  · subst e1
    exact wordOf_Z y z _ w hz (L.r.2 z (by simp [rowR]; omega))
  rw [if_neg e1]
  by_cases e2 : c = 80
  · subst e2
    exact wordOf_P y z _ w hy (L.rp.2 (y / 2) (by simp [rowRP]; omega))
  rw [if_neg e2]
  by_cases e3 : c = 81
  · subst e3
    exact wordOf_Q y z _ w hy (L.rq.2 (y / 2) (by simp [rowRQ]; omega))
  rw [if_neg e3]
  by_cases e4 : c = 77
  · subst e4
    exact wordOf_M y z _ w hy (L.m.2 (y / 2) (by simp [rowM]; omega))
  rw [if_neg e4]
  by_cases e5 : c = 67
  · subst e5
    exact wordOf_C y z _ w hy (L.cc.2 (y % 4) (by simp [rowCC]; omega))
  rw [if_neg e5]
  by_cases e6 : c = 65
  · subst e6
    exact wordOf_A y z _ w hy (L.alu.2 y (by simp [rowALU]; omega))
  rw [if_neg e6]
  by_cases e7 : c = 84
  · subst e7
    exact wordOf_T y z _ w hy (L.rot.2 y (by simp [rowROT]; omega))
  rw [if_neg e7]
  by_cases e8 : c = 85
  · subst e8
    exact wordOf_U y z _ w hy (L.acc.2 y (by simp [rowACC]; omega))
  rw [if_neg e8]
  exact wordOf_else c y z w hc e0 e1 e2 e3 e4 e5 e6 e7 e8
end Go.Proofs.YtmboogkpbcjfoaaDoor
