/- The walk of AluExact: whatever the list of jobs, true. Conditions: the list's cells lie in memory; the table of bits holds the powers of 2. -/
import Derived.Test.YtlbcodjkcjjoeabDoorDone
import Derived.LoopTactic
namespace Go.Proofs.YtlbcodjkcjjoeabDoor
open Go.ChangeShapes Go.WideShapes Go.ChangeAt Go.RowKit
set_option linter.unusedVariables false
/-- the five cells of a job -/
def JobAt (w : World) (b p : Nat) : Prop := ∃ k o x y f : Int, -9223372036854775808 ≤ k ∧ k ≤ 9223372036854775807 ∧ w.cell? ⟨b, p, none⟩ = some (.int .i64 k) ∧ w.cell? ⟨b, p + 1, none⟩ = some (.int .i64 o) ∧ w.cell? ⟨b, p + 2, none⟩ = some (.int .i64 x) ∧ w.cell? ⟨b, p + 3, none⟩ = some (.int .i64 y) ∧ w.cell? ⟨b, p + 4, none⟩ = some (.int .i64 f)
/-- a list of jobs -/
def Jobs (w : World) (v : Value) : Prop :=
  (∃ a cap, v = .slice a 0 cap) ∨ ∃ b off len cap, v = .slice (some ⟨b, off, none⟩) len cap ∧ b < w.heap.size ∧ 0 < len ∧ len ≤ 9223372036854775807 ∧ ∀ i, i < len → JobAt w b (off + i * 5)
set_option maxRecDepth 100000 in
set_option maxHeartbeats 2000000 in
theorem exact_none (a : Option Addr) (cap : Nat) (w : World) (hB : LaidB w) :
    Calls Tryd.prog 4 #[.slice a 0 cap] w fun e w' => e = .returned (.bool true) ∧ Kept w w' := by
  go_enter Tryd.func4, Tryd.ntmps4
  go_wp2_with (go_at_call 9; refine (done_any _ _ _ _ _ _ hB (by omega) (by omega)).mono ?_; rintro e w1 ⟨rfl, hk1⟩)
  refine wp_loop_rounds 1 ?_
  rw [rounds_succ]
  go_wp2
  go_ret
  exact ⟨rfl, hk1⟩
set_option maxRecDepth 100000 in
set_option maxHeartbeats 2000000 in
theorem exact_some (b off len cap : Nat) (w : World) (hB : LaidB w) (hb : b < w.heap.size) (hlen : 0 < len) (hl2 : len ≤ 9223372036854775807) (hj : ∀ i, i < len → JobAt w b (off + i * 5)) :
    Calls Tryd.prog 4 #[.slice (some ⟨b, off, none⟩) len cap] w fun e w' => e = .returned (.bool true) ∧ Kept w w' := by
  have HJ : Hid (∀ i, i < len → JobAt w b (off + i * 5)) := hj
  clear hj
  go_enter Tryd.func4, Tryd.ntmps4
  go_wp2_with (go_at_call 9; refine (done_any _ _ _ _ _ _ hB (by omega) (by omega)).mono ?_; rintro e w1 ⟨rfl, hk1⟩)
  go_loopw [3, 4] (fun ok i wr => ∃ k : Nat, k ≤ len ∧ ok = .bool true ∧ i = .int .i64 k ∧ Kept w wr) (fun _ i _ => len - (intOf i).toNat)
  case atStart => exact ⟨0, by omega, rfl, rfl, hk1⟩
  case round =>
    obtain ⟨k, hk, rfl, rfl, K⟩ := hrel
    have hBr := hB.kept K
    by_cases hlt : k < len
    · obtain ⟨kk, o, x, y, f, b0, b1, h0, h1, h2, h3, h4⟩ := HJ.out k hlt
      have c0 := (K.cell hb).trans h0
      have c1 := (K.cell hb).trans h1
      have c2 := (K.cell hb).trans h2
      have c3 := (K.cell hb).trans h3
      have c4 := (K.cell hb).trans h4
      clear h0 h1 h2 h3 h4
      go_wp2_with (go_at_call 9; refine (done_any _ _ _ _ _ _ hBr b0 b1).mono ?_; rintro e w2 ⟨rfl, hk2⟩)
      go_roundw
      case rel => first | exact ⟨k + 1, by omega, rfl, by go_num, K.step hk2⟩ | ((repeat apply Exists.intro); exact ⟨⟨k + 1, by omega, rfl, by go_num, K.step hk2⟩, rfl⟩)
      case measure => simp [intOf]; omega
    · obtain rfl : k = len := by omega
      go_wp2
      go_ret
      exact ⟨rfl, K⟩
theorem exact_any (v : Value) (w : World) (hB : LaidB w) (hJ : Jobs w v) :
    Calls Tryd.prog 4 #[v] w fun e w' => e = .returned (.bool true) ∧ Kept w w' := by
  rcases hJ with ⟨a, cap, rfl⟩ | ⟨b, off, len, cap, rfl, hb, h0, h1, hj⟩
  · exact exact_none a cap w hB
  · exact exact_some b off len cap w hB hb h0 h1 hj
end Go.Proofs.YtlbcodjkcjjoeabDoor
