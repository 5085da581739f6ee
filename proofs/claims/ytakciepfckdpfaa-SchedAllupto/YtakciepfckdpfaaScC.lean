/- Sched: one is taken out of a list. -/
import Derived.Test.YtakciepfckdpfaaScB
import Derived.Deep.RegionLaw
import Derived.Lib.SliceRun
import Derived.Shelf.RegionOpenPlain
namespace Go.Proofs.Ytakciepfckdpfaa
open Go.RowKit
set_option linter.unusedVariables false
theorem run_clear_one {P : Program} (w : World) (t e ty : TypeId) (z : Value) (zs : List Value) (ht : P.underlying t = some (.slice e)) (hv : ∀ w, (zeroValue e).run P w = .ok z w) (hz : (Builtin.zeroCells z.cells 1).toList = zs) (h1 : ∀ v ∈ zs, v.oneCell' = true) (b o c : Nat)
    (hc : ∀ j, j < zs.length → (w.cell? ⟨b, o + j, none⟩).isSome = true) (hf : ∀ j, j < zs.length → w.frozen? ⟨b, o + j, none⟩ = false) :
    (Builtin.clear_ #[t] ty #[.slice (some ⟨b, o, none⟩) 1 c]).run P w = .ok (.tuple #[]) (w.setCells b o zs) := by
  have hst := run_storeCells_cells (P := P) b o zs 0 w (by simpa using hc) (by simpa using hf) h1
  simp only [Nat.add_zero] at hst
  simp [Builtin.clear_, run_underlying ht, hv, hz, hst]
set_option maxRecDepth 100000 in
set_option maxHeartbeats 2000000 in
theorem delM_any {W : World} {g m cap i : Nat} {xs : List Value} (own : W.ownsRow 0 69 2 (.slice (some ⟨g, 0, none⟩) (m + 1) cap) (m + 1) xs) (hi : i ≤ m) (h1s : ∀ u ∈ xs, u.oneCell' = true) :
    Calls Try.prog 27 #[.slice (some ⟨g, 0, none⟩) (m + 1) cap, .int .i64 i, .int .i64 ((i : Int) + 1)] W fun e w' => e = .returned (.slice (some ⟨g, 0, none⟩) m cap) ∧ w'.ownsRow 0 69 2 (.slice (some ⟨g, 0, none⟩) m cap) m (xs.take (i * 2) ++ xs.drop ((i + 1) * 2)) ∧ Fr g W w' := by
  obtain ⟨cur, hg, hb, hc, hm, hs, ht, hl⟩ := own_open own
  have hm2 : cap ≤ 9223372036854775807 := by unfold maxLen at hm; omega
  have hcur : ∀ j, j < (m + 1) * 2 → cur[j]? = xs[j]? := fun j hj => own_at ht j hj
  have hfz : ∀ j, W.frozen? ⟨g, j, none⟩ = false := fun j => by simp [World.frozen?, hg]
  have hie : Try.prog.info? 69 = some Try.t69 := by kernel_rfl
  have hdl : (xs.drop ((i + 1) * 2)).length = (m - i) * 2 := by rw [List.length_drop, hl]; omega
  obtain ⟨W1, hW1⟩ : ∃ W1, W1 = W.drew.setCells g (0 + i * 2) (xs.drop ((i + 1) * 2)) := ⟨_, rfl⟩
  have HW1 : Hid (W1 = W.drew.setCells g (0 + i * 2) (xs.drop ((i + 1) * 2))) := hW1
  have k1 : W1.heap[g]? = some (.cells (putL cur (i * 2) (xs.drop ((i + 1) * 2))) 69 (0, 0)) := by
    rw [hW1, show 0 + i * 2 = i * 2 by omega]
    exact heap_setCells_same g _ _ _ _ W.drew hg
  have hcl : Hid (∀ ty c, (Builtin.clear_ #[61] ty #[.slice (some ⟨g, m * 2, none⟩) 1 c]).run Try.prog W1 = .ok (.tuple #[]) (W1.setCells g (m * 2) [.int .i64 0, .bool false])) := fun ty c =>
    run_clear_one W1 61 69 ty (.agg #[.int .i64 0, .bool false]) [.int .i64 0, .bool false] Try.underlying61 Try.zeroValue69 (by kernel_rfl) (by intro v hv; simp at hv; rcases hv with rfl | rfl <;> rfl) g (m * 2) c
      (fun j hj => by
        rw [cell_of_row _ _ _ _ _ _ k1, Array.getElem?_eq_getElem (by rw [putL_size]; simp at hj; omega)]
        rfl) (fun j hj => by simp [World.frozen?, k1])
  obtain ⟨A, hA, hsrc⟩ : ∃ A : Addr, (if cap = i + 1 then some (⟨g, 0, none⟩ : Addr) else some ⟨g, (i + 1) * 2, none⟩) = some A ∧ Hid (∀ t u, (xs.drop ((i + 1) * 2))[t]? = some u → W.drew.cell? (A.add t) = some u) := by
    by_cases h : cap = i + 1
    · refine ⟨⟨g, 0, none⟩, by rw [if_pos h], fun t u hu => ?_⟩
      have h0 : (xs.drop ((i + 1) * 2)).length = 0 := by rw [hdl]; omega
      rw [List.length_eq_zero_iff.1 h0] at hu
      simp at hu
    · refine ⟨⟨g, (i + 1) * 2, none⟩, by rw [if_neg h], fun t u hu => ?_⟩
      have ht2 : t < (m - i) * 2 := by have := (List.getElem?_eq_some_iff.1 hu).1; omega
      rw [Addr.add_lit]
      show W.cell? _ = _
      rw [cell_of_row _ _ _ _ _ _ hg, hcur _ (by omega)]
      rw [List.getElem?_drop] at hu
      first | exact hu | (rw [Nat.mul_one] at hu; exact hu)
  have s1 : Hid ((xs.drop ((i + 1) * 2)).length = (m - i) * 2) := hdl
  have s2 : Hid (∀ u ∈ xs.drop ((i + 1) * 2), u.oneCell' = true) := fun u hu => h1s u (List.mem_of_mem_drop hu)
  have s3 : Hid (∀ t, t < (xs.drop ((i + 1) * 2)).length → (W.drew.cell? ⟨g, 0 + i * 2 + t, none⟩).isSome = true ∧ W.drew.frozen? ⟨g, 0 + i * 2 + t, none⟩ = false) := fun t ht2 => by
    refine ⟨?_, hfz _⟩
    show (W.cell? _).isSome = true
    rw [cell_of_row _ _ _ _ _ _ hg, Array.getElem?_eq_getElem (by omega)]
    rfl
  have HE : Hid ((W1.setCells g (m * 2) [.int .i64 0, .bool false]).ownsRow 0 69 2 (.slice (some ⟨g, 0, none⟩) m cap) m (xs.take (i * 2) ++ xs.drop ((i + 1) * 2)) ∧ Fr g W (W1.setCells g (m * 2) [.int .i64 0, .bool false])) := by
    refine ⟨own_of (cur := putL (putL cur (i * 2) (xs.drop ((i + 1) * 2))) (m * 2) [.int .i64 0, .bool false]) (heap_setCells_same g _ _ _ _ W1 k1) hb (by omega) hm (by rw [putL_size, putL_size, hs]) (by rw [List.length_append, List.length_take, hdl]; omega) (fun j hj => ?_), ?_⟩
    · rw [putL_at _ _ _ _ (by rw [putL_size]; simp; omega), if_neg (by omega), putL_at _ _ _ _ (by omega)]
      by_cases e : j < i * 2
      · rw [if_neg (by omega), hcur j (by omega), List.getElem?_append_left (by rw [List.length_take]; omega), List.getElem?_take, if_pos e]
      · rw [if_pos (by omega), List.getElem?_append_right (by rw [List.length_take]; omega), List.length_take, Nat.min_eq_left (by omega)]
    · have f1 := fr_setCells g (xs.drop ((i + 1) * 2)) (0 + i * 2) W.drew
      rw [← hW1] at f1
      have f2 : Fr g W W1 := ⟨f1.os, f1.output, f1.size, f1.block⟩
      exact f2.trans (fr_setCells g _ _ W1)
  have hmi : i + (m - i) = m := by omega
  have hwr : IntKind.i64.wrap ((i : Int) + 1) = (i : Int) + 1 := by simp [IntKind.wrap, IntKind.bits, IntKind.signed]; omega
  have htn : ((i : Int) + 1).toNat = i + 1 := by omega
  have hne : ¬ ((i : Int) = (i : Int) + 1) := by omega
  have hb1 : (i : Int) ≤ (m : Int) + 1 := by omega
  have hb2 : (i : Int) + 1 ≤ (m : Int) + 1 := by omega
  have hb3 : 0 ≤ (i : Int) + 1 := by omega
  have hb4 : (i : Int) ≤ (i : Int) + 1 := by omega
  have hb5 : ¬ (cap = m) := by omega
  have hic : i ≤ cap := by omega
  have hmc : m + 1 ≤ cap := by omega
  have hb6 : (m : Int) + 1 ≤ (cap : Int) := by omega
  have hb7 : (i : Int) + 1 ≤ (cap : Int) := by omega
  have hb8 : (i : Int) ≤ (cap : Int) := by omega
  have hb9 : (m : Int) ≤ (m : Int) + 1 := by omega
  have mixed : Try.prog.follows Departure.mixedOrders = true := by kernel_rfl
  clear own hg hb hs ht hl hcur hfz hdl k1 hW1 h1s hm
  go_enter Try.func27, Try.ntmps27
  go_wp2_with fail
  go_region_law_o (refine step_append_room rfl (.tmp 22) (.tmp 25) 61 rfl 69 Try.t69 2 Try.underlying61 hie rfl g 0 i cap (by simp [Act.eval, Act.put]) A (m - i) (cap - (i + 1)) (xs.drop ((i + 1) * 2)) (by simp [Act.eval, Act.put]) s1.out hsrc.out s2.out (by omega) s3.out ?_; rw [← HW1.out])
  go_wp2_with (simp only [hcl.out])
  go_ret
  exact ⟨rfl, HE.out⟩
end Go.Proofs.Ytakciepfckdpfaa
