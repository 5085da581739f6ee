/- Arena: one is taken out of a list. -/
import Derived.Test.YteijdcidemajfaaArC
import Derived.Deep.RegionLaw
import Derived.Lib.SliceRun
namespace Go.Proofs.Yteijdcidemajfaa
open Go.RowKit
set_option linter.unusedVariables false
theorem run_clear_one {P : Program} (w : World) (t e ty : TypeId) (z : Value) (zs : List Value) (ht : P.underlying t = some (.slice e)) (hv : ∀ w, (zeroValue e).run P w = .ok z w) (hz : (Builtin.zeroCells z.cells 1).toList = zs) (h1 : ∀ v ∈ zs, v.oneCell' = true) (b o c : Nat)
    (hc : ∀ j, j < zs.length → (w.cell? ⟨b, o + j, none⟩).isSome = true) (hf : ∀ j, j < zs.length → w.frozen? ⟨b, o + j, none⟩ = false) :
    (Builtin.clear_ #[t] ty #[.slice (some ⟨b, o, none⟩) 1 c]).run P w = .ok (.tuple #[]) (w.setCells b o zs) := by
  have hst := run_storeCells_cells (P := P) b o zs 0 w (by simpa using hc) (by simpa using hf) h1
  simp only [Nat.add_zero] at hst
  simp [Builtin.clear_, run_underlying ht, hv, hz, hst]
set_option maxRecDepth 100000 in
set_option maxHeartbeats 2000000 in
theorem delI_any {W : World} {g m cap i : Nat} {xs : List Value} (own : W.ownsRow 0 3 1 (.slice (some ⟨g, 0, none⟩) (m + 1) cap) (m + 1) xs) (hi : i ≤ m) (h1s : ∀ u ∈ xs, u.oneCell' = true) :
    Calls Try.prog 66 #[.slice (some ⟨g, 0, none⟩) (m + 1) cap, .int .i64 i, .int .i64 ((i : Int) + 1)] W fun e w' => e = .returned (.slice (some ⟨g, 0, none⟩) m cap) ∧ w'.ownsRow 0 3 1 (.slice (some ⟨g, 0, none⟩) m cap) m (xs.take (i * 1) ++ xs.drop ((i + 1) * 1)) ∧ Fr g W w' := by
  obtain ⟨cur, hg, hb, hc, hm, hs, ht, hl⟩ := own_open own
  have hm2 : cap ≤ 9223372036854775807 := by unfold maxLen at hm; omega
  have hcur : ∀ j, j < (m + 1) * 1 → cur[j]? = xs[j]? := fun j hj => own_at ht j hj
  have hfz : ∀ j, W.frozen? ⟨g, j, none⟩ = false := fun j => by simp [World.frozen?, hg]
  have hie : Try.prog.info? 3 = some Try.t3 := by kernel_rfl
  have hdl : (xs.drop ((i + 1) * 1)).length = (m - i) * 1 := by rw [List.length_drop, hl]; omega
  obtain ⟨W1, hW1⟩ : ∃ W1, W1 = W.drew.setCells g (0 + i * 1) (xs.drop ((i + 1) * 1)) := ⟨_, rfl⟩
  have HW1 : Hid (W1 = W.drew.setCells g (0 + i * 1) (xs.drop ((i + 1) * 1))) := hW1
  have k1 : W1.heap[g]? = some (.cells (putL cur (i * 1) (xs.drop ((i + 1) * 1))) 3 (0, 0)) := by
    rw [hW1, show 0 + i * 1 = i * 1 by omega]
    exact heap_setCells_same g _ _ _ _ W.drew hg
  have hcl : Hid (∀ ty c, (Builtin.clear_ #[92] ty #[.slice (some ⟨g, m, none⟩) 1 c]).run Try.prog W1 = .ok (.tuple #[]) (W1.setCells g (m) [.int .i64 0])) := fun ty c =>
    run_clear_one W1 92 3 ty (.int .i64 0) [.int .i64 0] Try.underlying92 Try.zeroValue3 (by kernel_rfl) (by intro v hv; simp at hv; rcases hv with rfl | rfl <;> rfl) g (m) c
      (fun j hj => by
        rw [cell_of_row _ _ _ _ _ _ k1, Array.getElem?_eq_getElem (by rw [putL_size]; simp at hj; omega)]
        rfl) (fun j hj => by simp [World.frozen?, k1])
  obtain ⟨A, hA, hsrc⟩ : ∃ A : Addr, (if cap = i + 1 then some (⟨g, 0, none⟩ : Addr) else some ⟨g, (i + 1), none⟩) = some A ∧ Hid (∀ t u, (xs.drop ((i + 1) * 1))[t]? = some u → W.drew.cell? (A.add t) = some u) := by
    by_cases h : cap = i + 1
    · refine ⟨⟨g, 0, none⟩, by rw [if_pos h], fun t u hu => ?_⟩
      have h0 : (xs.drop ((i + 1) * 1)).length = 0 := by rw [hdl]; omega
      rw [List.length_eq_zero_iff.1 h0] at hu
      simp at hu
    · refine ⟨⟨g, (i + 1), none⟩, by rw [if_neg h], fun t u hu => ?_⟩
      have ht2 : t < (m - i) * 1 := by have := (List.getElem?_eq_some_iff.1 hu).1; omega
      rw [Addr.add_lit]
      show W.cell? _ = _
      rw [cell_of_row _ _ _ _ _ _ hg, hcur _ (by omega)]
      rw [List.getElem?_drop] at hu
      first | exact hu | (rw [Nat.mul_one] at hu; exact hu)
  have s1 : Hid ((xs.drop ((i + 1) * 1)).length = (m - i) * 1) := hdl
  have s2 : Hid (∀ u ∈ xs.drop ((i + 1) * 1), u.oneCell' = true) := fun u hu => h1s u (List.mem_of_mem_drop hu)
  have s3 : Hid (∀ t, t < (xs.drop ((i + 1) * 1)).length → (W.drew.cell? ⟨g, 0 + i * 1 + t, none⟩).isSome = true ∧ W.drew.frozen? ⟨g, 0 + i * 1 + t, none⟩ = false) := fun t ht2 => by
    refine ⟨?_, hfz _⟩
    show (W.cell? _).isSome = true
    rw [cell_of_row _ _ _ _ _ _ hg, Array.getElem?_eq_getElem (by omega)]
    rfl
  have HE : Hid ((W1.setCells g (m) [.int .i64 0]).ownsRow 0 3 1 (.slice (some ⟨g, 0, none⟩) m cap) m (xs.take (i * 1) ++ xs.drop ((i + 1) * 1)) ∧ Fr g W (W1.setCells g (m) [.int .i64 0])) := by
    refine ⟨own_of (cur := putL (putL cur (i * 1) (xs.drop ((i + 1) * 1))) (m) [.int .i64 0]) (heap_setCells_same g _ _ _ _ W1 k1) hb (by omega) hm (by rw [putL_size, putL_size, hs]) (by rw [List.length_append, List.length_take, hdl]; omega) (fun j hj => ?_), ?_⟩
    · rw [putL_at _ _ _ _ (by rw [putL_size]; simp; omega), if_neg (by omega), putL_at _ _ _ _ (by omega)]
      by_cases e : j < i * 1
      · rw [if_neg (by omega), hcur j (by omega), List.getElem?_append_left (by rw [List.length_take]; omega), List.getElem?_take, if_pos e]
      · rw [if_pos (by omega), List.getElem?_append_right (by rw [List.length_take]; omega), List.length_take, Nat.min_eq_left (by omega)]
    · have f1 := fr_setCells g (xs.drop ((i + 1) * 1)) (0 + i * 1) W.drew
      rw [← hW1] at f1
      have f2 : Fr g W W1 := ⟨f1.os, f1.output, f1.size, f1.block⟩
      exact f2.trans (fr_setCells g _ _ W1)
  have hmi : i + (m - i) = m := by omega
  have hwr : IntKind.i64.wrap ((i : Int) + 1) = (i : Int) + 1 := by simp [IntKind.wrap, IntKind.bits, IntKind.signed]; omega
  have htn : ((i : Int) + 1).toNat = i + 1 := by omega
  have hne : ¬ ((i : Int) = (i : Int) + 1) := by omega
  have hb1 : (i : Int) ≤ (m : Int) + 1 := by omega
  have hb2 : (i : Int) + 1 ≤ (m : Int) + 1 := by omega
  have hb3 : 0 ≤ (i : Int) + 1 := by omega
  have hb4 : (i : Int) ≤ (i : Int) + 1 := by omega
  have hb5 : ¬ (cap = m) := by omega
  have hic : i ≤ cap := by omega
  have hmc : m + 1 ≤ cap := by omega
  have hb6 : (m : Int) + 1 ≤ (cap : Int) := by omega
  have hb7 : (i : Int) + 1 ≤ (cap : Int) := by omega
  have hb8 : (i : Int) ≤ (cap : Int) := by omega
  have hb9 : (m : Int) ≤ (m : Int) + 1 := by omega
  have mixed : Try.prog.follows Departure.mixedOrders = true := by kernel_rfl
  clear own hg hb hs ht hl hcur hfz hdl k1 hW1 h1s hm
  go_enter Try.func66, Try.ntmps66
  go_wp2_with fail
  go_region_law_o (refine step_append_room rfl (.tmp 22) (.tmp 25) 92 rfl 3 Try.t3 1 Try.underlying92 hie rfl g 0 i cap (by simp [Act.eval, Act.put]) A (m - i) (cap - (i + 1)) (xs.drop ((i + 1) * 1)) (by simp [Act.eval, Act.put]) s1.out hsrc.out s2.out (by omega) s3.out ?_; rw [← HW1.out])
  go_wp2_with (simp only [hcl.out])
  go_ret
  exact ⟨rfl, HE.out⟩
set_option maxRecDepth 100000 in
set_option maxHeartbeats 2000000 in
theorem delL_any {W : World} {g m cap i : Nat} {xs : List Value} (own : W.ownsRow 0 104 4 (.slice (some ⟨g, 0, none⟩) (m + 1) cap) (m + 1) xs) (hi : i ≤ m) (h1s : ∀ u ∈ xs, u.oneCell' = true) :
    Calls Try.prog 70 #[.slice (some ⟨g, 0, none⟩) (m + 1) cap, .int .i64 i, .int .i64 ((i : Int) + 1)] W fun e w' => e = .returned (.slice (some ⟨g, 0, none⟩) m cap) ∧ w'.ownsRow 0 104 4 (.slice (some ⟨g, 0, none⟩) m cap) m (xs.take (i * 4) ++ xs.drop ((i + 1) * 4)) ∧ Fr g W w' := by
  obtain ⟨cur, hg, hb, hc, hm, hs, ht, hl⟩ := own_open own
  have hm2 : cap ≤ 9223372036854775807 := by unfold maxLen at hm; omega
  have hcur : ∀ j, j < (m + 1) * 4 → cur[j]? = xs[j]? := fun j hj => own_at ht j hj
  have hfz : ∀ j, W.frozen? ⟨g, j, none⟩ = false := fun j => by simp [World.frozen?, hg]
  have hie : Try.prog.info? 104 = some Try.t104 := by kernel_rfl
  have hdl : (xs.drop ((i + 1) * 4)).length = (m - i) * 4 := by rw [List.length_drop, hl]; omega
  obtain ⟨W1, hW1⟩ : ∃ W1, W1 = W.drew.setCells g (0 + i * 4) (xs.drop ((i + 1) * 4)) := ⟨_, rfl⟩
  have HW1 : Hid (W1 = W.drew.setCells g (0 + i * 4) (xs.drop ((i + 1) * 4))) := hW1
  have k1 : W1.heap[g]? = some (.cells (putL cur (i * 4) (xs.drop ((i + 1) * 4))) 104 (0, 0)) := by
    rw [hW1, show 0 + i * 4 = i * 4 by omega]
    exact heap_setCells_same g _ _ _ _ W.drew hg
  have hcl : Hid (∀ ty c, (Builtin.clear_ #[100] ty #[.slice (some ⟨g, m * 4, none⟩) 1 c]).run Try.prog W1 = .ok (.tuple #[]) (W1.setCells g (m * 4) [.int .i64 0, .int .i64 0, .int .i64 0, .slice none 0 0])) := fun ty c =>
    run_clear_one W1 100 104 ty (.agg #[.int .i64 0, .int .i64 0, .int .i64 0, .slice none 0 0]) [.int .i64 0, .int .i64 0, .int .i64 0, .slice none 0 0] Try.underlying100 Try.zeroValue104 (by kernel_rfl) (by intro v hv; simp at hv; rcases hv with rfl | rfl <;> rfl) g (m * 4) c
      (fun j hj => by
        rw [cell_of_row _ _ _ _ _ _ k1, Array.getElem?_eq_getElem (by rw [putL_size]; simp at hj; omega)]
        rfl) (fun j hj => by simp [World.frozen?, k1])
  obtain ⟨A, hA, hsrc⟩ : ∃ A : Addr, (if cap = i + 1 then some (⟨g, 0, none⟩ : Addr) else some ⟨g, (i + 1) * 4, none⟩) = some A ∧ Hid (∀ t u, (xs.drop ((i + 1) * 4))[t]? = some u → W.drew.cell? (A.add t) = some u) := by
    by_cases h : cap = i + 1
    · refine ⟨⟨g, 0, none⟩, by rw [if_pos h], fun t u hu => ?_⟩
      have h0 : (xs.drop ((i + 1) * 4)).length = 0 := by rw [hdl]; omega
      rw [List.length_eq_zero_iff.1 h0] at hu
      simp at hu
    · refine ⟨⟨g, (i + 1) * 4, none⟩, by rw [if_neg h], fun t u hu => ?_⟩
      have ht2 : t < (m - i) * 4 := by have := (List.getElem?_eq_some_iff.1 hu).1; omega
      rw [Addr.add_lit]
      show W.cell? _ = _
      rw [cell_of_row _ _ _ _ _ _ hg, hcur _ (by omega)]
      rw [List.getElem?_drop] at hu
      first | exact hu | (rw [Nat.mul_one] at hu; exact hu)
  have s1 : Hid ((xs.drop ((i + 1) * 4)).length = (m - i) * 4) := hdl
  have s2 : Hid (∀ u ∈ xs.drop ((i + 1) * 4), u.oneCell' = true) := fun u hu => h1s u (List.mem_of_mem_drop hu)
  have s3 : Hid (∀ t, t < (xs.drop ((i + 1) * 4)).length → (W.drew.cell? ⟨g, 0 + i * 4 + t, none⟩).isSome = true ∧ W.drew.frozen? ⟨g, 0 + i * 4 + t, none⟩ = false) := fun t ht2 => by
    refine ⟨?_, hfz _⟩
    show (W.cell? _).isSome = true
    rw [cell_of_row _ _ _ _ _ _ hg, Array.getElem?_eq_getElem (by omega)]
    rfl
  have HE : Hid ((W1.setCells g (m * 4) [.int .i64 0, .int .i64 0, .int .i64 0, .slice none 0 0]).ownsRow 0 104 4 (.slice (some ⟨g, 0, none⟩) m cap) m (xs.take (i * 4) ++ xs.drop ((i + 1) * 4)) ∧ Fr g W (W1.setCells g (m * 4) [.int .i64 0, .int .i64 0, .int .i64 0, .slice none 0 0])) := by
    refine ⟨own_of (cur := putL (putL cur (i * 4) (xs.drop ((i + 1) * 4))) (m * 4) [.int .i64 0, .int .i64 0, .int .i64 0, .slice none 0 0]) (heap_setCells_same g _ _ _ _ W1 k1) hb (by omega) hm (by rw [putL_size, putL_size, hs]) (by rw [List.length_append, List.length_take, hdl]; omega) (fun j hj => ?_), ?_⟩
    · rw [putL_at _ _ _ _ (by rw [putL_size]; simp; omega), if_neg (by omega), putL_at _ _ _ _ (by omega)]
      by_cases e : j < i * 4
      · rw [if_neg (by omega), hcur j (by omega), List.getElem?_append_left (by rw [List.length_take]; omega), List.getElem?_take, if_pos e]
      · rw [if_pos (by omega), List.getElem?_append_right (by rw [List.length_take]; omega), List.length_take, Nat.min_eq_left (by omega)]
    · have f1 := fr_setCells g (xs.drop ((i + 1) * 4)) (0 + i * 4) W.drew
      rw [← hW1] at f1
      have f2 : Fr g W W1 := ⟨f1.os, f1.output, f1.size, f1.block⟩
      exact f2.trans (fr_setCells g _ _ W1)
  have hmi : i + (m - i) = m := by omega
  have hwr : IntKind.i64.wrap ((i : Int) + 1) = (i : Int) + 1 := by simp [IntKind.wrap, IntKind.bits, IntKind.signed]; omega
  have htn : ((i : Int) + 1).toNat = i + 1 := by omega
  have hne : ¬ ((i : Int) = (i : Int) + 1) := by omega
  have hb1 : (i : Int) ≤ (m : Int) + 1 := by omega
  have hb2 : (i : Int) + 1 ≤ (m : Int) + 1 := by omega
  have hb3 : 0 ≤ (i : Int) + 1 := by omega
  have hb4 : (i : Int) ≤ (i : Int) + 1 := by omega
  have hb5 : ¬ (cap = m) := by omega
  have hic : i ≤ cap := by omega
  have hmc : m + 1 ≤ cap := by omega
  have hb6 : (m : Int) + 1 ≤ (cap : Int) := by omega
  have hb7 : (i : Int) + 1 ≤ (cap : Int) := by omega
  have hb8 : (i : Int) ≤ (cap : Int) := by omega
  have hb9 : (m : Int) ≤ (m : Int) + 1 := by omega
  have mixed : Try.prog.follows Departure.mixedOrders = true := by kernel_rfl
  clear own hg hb hs ht hl hcur hfz hdl k1 hW1 h1s hm
  go_enter Try.func70, Try.ntmps70
  go_wp2_with fail
  go_region_law_o (refine step_append_room rfl (.tmp 22) (.tmp 25) 100 rfl 104 Try.t104 4 Try.underlying100 hie rfl g 0 i cap (by simp [Act.eval, Act.put]) A (m - i) (cap - (i + 1)) (xs.drop ((i + 1) * 4)) (by simp [Act.eval, Act.put]) s1.out hsrc.out s2.out (by omega) s3.out ?_; rw [← HW1.out])
  go_wp2_with (simp only [hcl.out])
  go_ret
  exact ⟨rfl, HE.out⟩
end Go.Proofs.Yteijdcidemajfaa
