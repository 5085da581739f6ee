/- Block: the script in memory. -/
import Derived.Test.YtekffilokdmfgaaBeV
namespace Go.Proofs.Ytekffilokdmfgaa
open Go.RowKit
set_option linter.unusedVariables false
set_option linter.unusedSimpArgs false
variable {w w' W : World}
def row6 (k a b c d : Int) (ia : Option Addr) (il ic : Nat) : List Value := [.int .i64 k, .int .i64 a, .int .i64 b, .int .i64 c, .int .i64 d, .slice ia il ic]
/-- the script as it comes in -/
structure Ops6 (W : World) (oa : Option Addr) (ob oo on oc : Nat) (q : Nat → Nat → Int) (ia : Nat → Option Addr) (ib io il ic : Nat → Nat) (hh : Nat → Nat → Int) : Prop where
  lc : on ≤ oc
  cm : oc ≤ maxLen
  ad : 0 < on → oa = some ⟨ob, oo, none⟩
  i64 : ∀ i j, I64 (q i j)
  row : ∀ i, i < on → W.rangeAt ob (oo + i * 6) (row6 (q i 0) (q i 1) (q i 2) (q i 3) (q i 4) (ia i) (il i) (ic i))
  ints : ∀ i, i < on → Ints W (ia i) (ib i) (io i) (il i) (ic i) (hh i) ∧ (ia i = none → ic i = 0) ∧ il i ≤ 1048576
def headL : List Value := row6 1 0 2 0 0 none 0 0 ++ row6 4 0 1 9 0 none 0 0 ++ row6 3 0 1 0 0 none 0 0 ++ row6 8 0 0 0 0 none 0 0
def headQ (i : Nat) : Int × Int × Int := if i = 0 then (1, 2, 0) else if i = 1 then (4, 1, 9) else if i = 2 then (3, 1, 0) else (8, 0, 0)
theorem head_row {b i : Nat} (hi : i < 4) (h : w.heap[b]? = some (.cells headL.toArray 31 (0, 0))) : w.rangeAt b (i * 6) (row6 (headQ i).1 0 (headQ i).2.1 (headQ i).2.2 0 none 0 0) := by
  intro k v hv
  have hk : k < 6 := (List.getElem?_eq_some_iff.1 hv).1
  refine heap_cell h ?_
  rw [← hv]
  obtain rfl | rfl | rfl | rfl : i = 0 ∨ i = 1 ∨ i = 2 ∨ i = 3 := by omega
  all_goals (obtain rfl | rfl | rfl | rfl | rfl | rfl : k = 0 ∨ k = 1 ∨ k = 2 ∨ k = 3 ∨ k = 4 ∨ k = 5 := by omega)
  all_goals rfl
theorem head_i64 (i : Nat) : I64 (headQ i).2.1 ∧ I64 (headQ i).2.2 := by
  unfold headQ
  repeat' split
  all_goals (unfold I64; decide)
theorem rangeU {b o : Nat} {cs : List Value} (h : W.rangeAt b o cs) (u : Up W w) : w.rangeAt b o cs := fun k v hv => cell_up u (h k v hv)
theorem ints_nil (W : World) : Ints W none 0 0 0 0 (fun _ => 0) := ⟨Nat.le_refl _, Nat.zero_le _, fun h => absurd h (by decide), fun _ => (by unfold I64; decide), fun k hk => absurd hk (by omega)⟩
end Go.Proofs.Ytekffilokdmfgaa
