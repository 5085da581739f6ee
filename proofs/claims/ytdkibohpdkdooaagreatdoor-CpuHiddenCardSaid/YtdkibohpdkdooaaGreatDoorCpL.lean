/- The row of what goes on, over the translation. -/
import Derived.Test.YtdkibohpdkdooaaGreatDoorCpK
namespace Go.Proofs.YtdkibohpdkdooaaGreatDoor
open Go.RowKit
set_option linter.unusedVariables false
set_option maxRecDepth 100000 in
set_option maxHeartbeats 1000000 in
theorem secondRow_any (c : Int) (w : World) (h0 : 0 ≤ c) (h1 : c ≤ 255) :
    Calls Tryz.prog 56 #[.int .u8 c] w fun e w' => e = .returned (.agg (secondP c).cells) ∧ Up w w' := by
  unfold secondP
  by_cases e1 : c % 8 = 6
  · rw [if_neg (by simpa using e1)]
    by_cases e2 : c / 64 = 1
    · rw [if_pos e2]
      go_enter Tryz.func56, Tryz.ntmps56
      go_wp2
      refine bodyPost_ret (v := .agg _) (results_row Tryz.results56 _ _ _ 75 _ (0, 0) _ rfl (heap_alloc_new _ _) Tryz.underlying75 rfl (by kernel_rfl)) rfl ⟨rfl, (Up.refl w).alloc _⟩
    · rw [if_neg e2]
      have e3 : (c / 64 == 1) = false := beq_eq_false_iff_ne.2 e2
      go_enter Tryz.func56, Tryz.ntmps56
      go_wp2
      refine bodyPost_ret (v := .agg _) (results_row Tryz.results56 _ _ _ 75 _ (0, 0) _ rfl (heap_alloc_new _ _) Tryz.underlying75 rfl (by kernel_rfl)) rfl ⟨rfl, (Up.refl w).alloc _⟩
  · rw [if_pos e1]
    have e3 : (c % 8 != 6) = true := bne_iff_ne.2 e1
    go_enter Tryz.func56, Tryz.ntmps56
    go_wp2
    refine bodyPost_ret (v := .agg _) (results_row Tryz.results56 _ _ _ 75 _ (0, 0) _ rfl (heap_alloc_new _ _) Tryz.underlying75 rfl (by kernel_rfl)) rfl ⟨rfl, (Up.refl w).alloc _⟩
theorem run_index_one {P : Program} (t e : TypeId) (n : Nat) (cs : Array Value) (k : IntKind) (i : Nat) (v : Value) (d : TypeDesc) (w : World) (h : P.underlying t = some (.array n e)) (h1 : i < n)
    (hu : P.underlying e = some d) (hd : (match d with | .struct _ | .array _ _ => true | _ => false) = false) (hi : (P.info? e).map (·.size) = some 1) (hv : cs[i]? = some v) :
    (Instr.index t (.agg cs) (.int k (i : Nat))).run P w = .ok v w := by
  have ha : (isAgg e).run P w = .ok false w := by
    cases d <;> simp_all [isAgg, run_underlying hu]
  have hs : (sizeOf e).run P w = .ok 1 w := by
    obtain ⟨x, hx, hm⟩ := Option.map_eq_some_iff.1 hi
    simp [sizeOf, typeInfo, hx, hm]
  simp [Instr.index, run_underlying h, asIntOf, part, ha, hs, hv, go_sem]
  omega
theorem get6 (a0 a1 a2 a3 a4 a5 k : Nat) (hk : k < 6) : (#[.int .u8 a0, .int .u8 a1, .int .u8 a2, .int .u8 a3, .int .u8 a4, .int .u8 a5] : Array Value)[k]? = some (.int .u8 (([a0, a1, a2, a3, a4, a5].getD k 0 : Nat) : Int)) := by
  have : k = 0 ∨ k = 1 ∨ k = 2 ∨ k = 3 ∨ k = 4 ∨ k = 5 := by omega
  rcases this with rfl | rfl | rfl | rfl | rfl | rfl <;> rfl
def cnt (a0 a1 a2 a3 a4 a5 : Nat) (k : Nat) : Int :=
  (if 0 < k then one3 a0 else 0) + (if 1 < k then one3 a1 else 0) + (if 2 < k then one3 a2 else 0) + (if 3 < k then one3 a3 else 0) + (if 4 < k then one3 a4 else 0) + (if 5 < k then one3 a5 else 0)
theorem one3_b (k : Nat) : 0 ≤ one3 k ∧ one3 k ≤ 1 := by unfold one3; split <;> omega
theorem cnt_b (a0 a1 a2 a3 a4 a5 : Nat) (k : Nat) : 0 ≤ cnt a0 a1 a2 a3 a4 a5 k ∧ cnt a0 a1 a2 a3 a4 a5 k ≤ 6 := by
  have h0 := one3_b a0
  have h1 := one3_b a1
  have h2 := one3_b a2
  have h3 := one3_b a3
  have h4 := one3_b a4
  have h5 := one3_b a5
  unfold cnt
  repeat' split
  all_goals omega
theorem cnt_step (a0 a1 a2 a3 a4 a5 : Nat) (k : Nat) (hk : k < 6) : cnt a0 a1 a2 a3 a4 a5 (k + 1) = cnt a0 a1 a2 a3 a4 a5 k + one3 ([a0, a1, a2, a3, a4, a5].getD k 0) := by
  have : k = 0 ∨ k = 1 ∨ k = 2 ∨ k = 3 ∨ k = 4 ∨ k = 5 := by omega
  rcases this with rfl | rfl | rfl | rfl | rfl | rfl <;> simp [cnt]
set_option maxRecDepth 100000 in
set_option maxHeartbeats 1000000 in
theorem further_any (r : Row) (w : World) :
    Calls Tryz.prog 66 #[.agg r.cells] w fun e w' => e = .returned (.int .u16 r.further) ∧ Up w w' := by
  obtain ⟨a0, a1, a2, a3, a4, a5, sure, d⟩ := r
  have HF : Hid (cnt a0 a1 a2 a3 a4 a5 6 = Row.further ⟨a0, a1, a2, a3, a4, a5, sure, d⟩) := by show _ = _; simp [cnt, Row.further]
  generalize Row.further ⟨a0, a1, a2, a3, a4, a5, sure, d⟩ = F at HF ⊢
  unfold Row.cells
  simp only
  generalize doesF d = fd
  go_enter Tryz.func66, Tryz.ntmps66
  go_wp2
  generalize hW : World.alloc w _ = W
  have HU : Hid (Up w W) := by show Up w W; rw [← hW]; exact (Up.refl w).alloc _
  clear hW
  have HC0 : Hid (cnt a0 a1 a2 a3 a4 a5 0 = 0) := by show _ = _; simp [cnt]
  go_loopw [3, 8] (fun m i wr => ∃ k : Nat, k ≤ 6 ∧ i = .int .i64 k ∧ m = .int .u16 (cnt a0 a1 a2 a3 a4 a5 k) ∧ wr = W) (fun _ i _ => 6 - (intOf i).toNat)
  case atStart =>
    exact ⟨0, by omega, rfl, by rw [HC0.out], rfl⟩
  case round =>
    obtain ⟨k, hk, rfl, rfl, rfl⟩ := hrel
    have hcb := cnt_b a0 a1 a2 a3 a4 a5 k
    by_cases hlt : k < 6
    · have hs : Hid _ := cnt_step a0 a1 a2 a3 a4 a5 k hlt
      obtain ⟨x, hx⟩ : ∃ x, x = [a0, a1, a2, a3, a4, a5].getD k 0 := ⟨_, rfl⟩
      have hix : (Instr.index 72 (.agg #[.int .u8 a0, .int .u8 a1, .int .u8 a2, .int .u8 a3, .int .u8 a4, .int .u8 a5]) (.int .i64 k)).run Tryz.prog wr = .ok (.int .u8 x) wr := by
        rw [hx]
        exact run_index_one 72 61 6 _ .i64 k _ _ wr Tryz.underlying72 hlt Tryz.underlying61 rfl (by kernel_rfl) (get6 a0 a1 a2 a3 a4 a5 k hlt)
      rw [← hx] at hs
      clear hx
      have hki : (k : Int) < 6 := by omega
      have hcb1 := hcb.1
      have hcb2 := hcb.2
      clear hcb
      generalize hc : cnt a0 a1 a2 a3 a4 a5 k = c at hcb1 hcb2 hs ⊢
      clear hc
      by_cases hx3 : x = 3
      · have hh : ((x : Int) == 3) = true := by rw [hx3]; rfl
        have HX : Hid (x = 3) := hx3
        clear hx3
        go_wp2
        go_roundw
        case rel => exact ⟨k + 1, by omega, rfl, by rw [hs.out, HX.out]; rfl, trivial⟩
        case measure => simp [intOf]; omega
      · have hh : ((x : Int) == 3) = false := beq_eq_false_iff_ne.2 (by omega)
        have HX : Hid (¬ x = 3) := hx3
        clear hx3
        go_wp2
        go_roundw
        case rel => exact ⟨k + 1, by omega, rfl, by rw [hs.out]; simp [one3, HX.out], trivial⟩
        case measure => simp [intOf]; omega
    · have hke : k = 6 := by omega
      subst hke
      rw [HF.out]
      go_wp2
      go_ret
      exact ⟨rfl, HU.out⟩
end Go.Proofs.YtdkibohpdkdooaaGreatDoor
