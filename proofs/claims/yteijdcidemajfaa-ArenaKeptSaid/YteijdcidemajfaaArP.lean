/- Arena: which configurations there are. -/
import Derived.Test.YteijdcidemajfaaArO
namespace Go.Proofs.Yteijdcidemajfaa
open Go.RowKit
set_option linter.unusedVariables false
variable {W : World}
/-- the size of the last class -/
def lastOf (cf : List (Nat × Nat)) : Nat := (cf.getLast?.map (·.1)).getD 0
def totOf (cf : List (Nat × Nat)) : Nat := (cf.map fun x => x.1 * x.2).sum
structure Cfg (cf : List (Nat × Nat)) (m : Nat) : Prop where
  n1 : 1 ≤ cf.length
  n8 : cf.length ≤ 8
  m1 : 1 ≤ m
  m64 : m ≤ 64
  up : ∀ (k : Nat) x, cf[k]? = some x → lastOf (cf.take k) < x.1 ∧ x.1 ≤ 65536 ∧ x.2 ≤ 512
  tot : totOf cf ≤ 16777216
theorem lastOf_snoc (cf : List (Nat × Nat)) (x : Nat × Nat) : lastOf (cf ++ [x]) = x.1 := by unfold lastOf; simp
theorem totOf_snoc (cf : List (Nat × Nat)) (x : Nat × Nat) : totOf (cf ++ [x]) = totOf cf + x.1 * x.2 := by unfold totOf; simp
theorem take_snoc' {cf : List (Nat × Nat)} {k : Nat} {x : Nat × Nat} (h : cf[k]? = some x) : cf.take (k + 1) = cf.take k ++ [x] := by rw [List.take_add_one, h]; rfl
theorem totOf_take (cf : List (Nat × Nat)) (k : Nat) : totOf (cf.take k) ≤ totOf cf := by
  have : cf = cf.take k ++ cf.drop k := (List.take_append_drop k cf).symm
  have h2 : totOf cf = totOf (cf.take k) + totOf (cf.drop k) := by
    have h3 : totOf (cf.take k ++ cf.drop k) = totOf (cf.take k) + totOf (cf.drop k) := by
      unfold totOf
      rw [List.map_append, List.sum_append]
    rw [← this] at h3
    exact h3
  omega
theorem lastOf_le {cf : List (Nat × Nat)} {m k : Nat} (h : Cfg cf m) (hk : k ≤ cf.length) : lastOf (cf.take k) ≤ 65536 := by
  cases k with
  | zero => simp [lastOf]
  | succ k =>
    have hx : cf[k]? = some cf[k] := List.getElem?_eq_getElem (by omega)
    rw [take_snoc' hx, lastOf_snoc]
    exact (h.up k _ hx).2.1
set_option maxRecDepth 100000 in
set_option maxHeartbeats 2000000 in
theorem mayBe_yes {g o cap m : Nat} {cf : List (Nat × Nat)} (h : Cfg cf m) (hc : cf.length ≤ cap) (hm : cap ≤ maxLen) (HG : Hid (∀ w, Up W w → ∀ k x, cf[k]? = some x → w.rangeAt g (o + k * 2) [.int .i64 (x.1 : Int), .int .i64 (x.2 : Int)])) :
    Calls Try.prog 31 #[.agg #[.slice (some ⟨g, o, none⟩) cf.length cap, .int .i64 (m : Int)]] W fun e w' => e = .returned (.bool true) ∧ Up W w' := by
  have n1 := h.n1
  have n8 := h.n8
  have m1 := h.m1
  have m64 := h.m64
  have hm2 : cap ≤ 9223372036854775807 := by unfold maxLen at hm; omega
  have ua := (Up.refl W).alloc (Obj.cells #[.slice (some ⟨g, o, none⟩) cf.length cap, .int .i64 (m : Int)] 32)
  have HU : Hid (Up W (W.alloc (Obj.cells #[.slice (some ⟨g, o, none⟩) cf.length cap, .int .i64 (m : Int)] 32))) := ua
  have HC : Hid (Cfg cf m) := h
  have e1 : decide ((cf.length : Int) < 1) = false := decide_eq_false (by omega)
  have e2 : decide ((8 : Int) < (cf.length : Int)) = false := decide_eq_false (by omega)
  have e3 : decide ((m : Int) < 1) = false := decide_eq_false (by omega)
  have e4 : decide ((64 : Int) < (m : Int)) = false := decide_eq_false (by omega)
  have HT : Hid (totOf cf ≤ 16777216) := h.tot
  clear h ua hm
  go_enter Try.func31, Try.ntmps31
  go_wp2_with fail
  generalize World.alloc W _ = Wa at HU ⊢
  go_loopw [3, 4, 6, 30] (fun La By _ I wr => ∃ k : Nat, k ≤ cf.length ∧ La = .int .i64 (lastOf (cf.take k) : Nat) ∧ By = .int .i64 (totOf (cf.take k) : Nat) ∧ I = .int .i64 k ∧ Hid (Up W wr)) (fun _ _ _ I _ => cf.length - (intOf I).toNat)
  case atStart => exact ⟨0, Nat.zero_le _, rfl, rfl, rfl, HU⟩
  case round =>
    clear HU e1 e2 e3 e4
    obtain ⟨k, hk, rfl, rfl, rfl, M0⟩ := hrel
    by_cases hlt : k < cf.length
    · have d1 : (k : Int) < (cf.length : Int) := by omega
      obtain ⟨x, hy⟩ : ∃ y, cf[k]? = some y := ⟨_, List.getElem?_eq_getElem hlt⟩
      obtain ⟨b1, b2, b3⟩ := HC.out.up k x hy
      have HRk : Hid _ := HG.out wr M0.out k x hy
      have HA2 : Hid (∀ o, (wr.alloc o).heap[wr.heap.size]? = some o) := fun o => heap_alloc_new wr o
      have HU : Hid (∀ w old, (wr.alloc (Obj.cells old 29)).setRow wr.heap.size #[.int .i64 (x.1 : Int), .int .i64 (x.2 : Int)] = w → Up W w ∧ w.cell? ⟨wr.heap.size, 0, none⟩ = some (.int .i64 (x.1 : Int)) ∧ w.cell? ⟨wr.heap.size, 1, none⟩ = some (.int .i64 (x.2 : Int))) := by
        rintro w old rfl
        refine ⟨(M0.out.alloc _).setRow M0.out.size _, ?_, ?_⟩
        · rw [cell_of_row _ _ _ _ _ _ (setRow_heap _ _ _ _ _ _ (heap_alloc_new wr _))]
          rfl
        · rw [cell_of_row _ _ _ _ _ _ (setRow_heap _ _ _ _ _ _ (heap_alloc_new wr _))]
          rfl
      have HL : Hid (lastOf (cf.take (k + 1)) = x.1) := by rw [take_snoc' hy]; exact lastOf_snoc _ _
      have HB : Hid (totOf (cf.take (k + 1)) = totOf (cf.take k) + x.1 * x.2) := by rw [take_snoc' hy]; exact totOf_snoc _ _
      have t1 := totOf_take cf (k + 1)
      have t2 := HT.out
      have t3 : totOf (cf.take k) + x.1 * x.2 ≤ 16777216 := by rw [← HB.out]; omega
      have t4 := lastOf_le HC.out hk
      clear hy HG t1 t2
      obtain ⟨s, n⟩ := x
      dsimp only at *
      generalize lastOf (cf.take k) = LA at *
      generalize totOf (cf.take k) = BY at *
      have hmul : ((s * n : Nat) : Int) = (s : Int) * (n : Int) := by simp
      have q1 : decide ((s : Int) ≤ (LA : Int)) = false := decide_eq_false (by omega)
      have q2 : decide ((65536 : Int) < (s : Int)) = false := decide_eq_false (by omega)
      have q3 : decide ((n : Int) < 0) = false := decide_eq_false (by omega)
      have q4 : decide ((512 : Int) < (n : Int)) = false := decide_eq_false (by omega)
      have q5 : 0 ≤ (s : Int) * (n : Int) := by rw [← hmul]; omega
      have q6 : (s : Int) * (n : Int) ≤ 16777216 := by rw [← hmul]; omega
      have HM : Hid (((s * n : Nat) : Int) = (s : Int) * (n : Int)) := hmul
      clear hmul
      go_wp2_with (first
        | (refine wpList_load_mid rfl 29 _ rfl g (o + k * 2) rfl [.int .i64 (s : Int), .int .i64 (n : Int)] _ HRk.out Try.underlying29 rfl (by kernel_rfl) ?_)
        | (refine wpList_store_rowTo rfl 29 _ _ rfl rfl wr.heap.size #[.int .i64 (s : Int), .int .i64 (n : Int)] rfl rfl 29 _ (HA2.out _) (by kernel_rfl) rfl (by simp [Value.oneCell']) ?_
           generalize hW3 : World.setRow _ _ _ = w3
           obtain ⟨hU, hA0, hA1⟩ := HU.out _ _ hW3
           have H3 : Hid (Up W w3) := hU
           clear hW3 hU))
      refine ⟨⟨k + 1, by omega, by rw [HL.out], by rw [HB.out, Int.natCast_add, HM.out], by first | rfl | (simp; done), H3⟩, ?_⟩
      simp [intOf]
      omega
    · have d1 : ¬ (k : Int) < (cf.length : Int) := by omega
      have HTk : Hid (cf.take k = cf) := List.take_of_length_le (by omega)
      have t4 := HT.out
      rw [HTk.out]
      have q1 : decide ((totOf cf : Int) ≤ 16777216) = true := decide_eq_true (by omega)
      go_wp2_with fail
      go_ret
      exact ⟨by first | rfl | (simp; done) | (simp; omega), M0.out⟩
end Go.Proofs.Yteijdcidemajfaa
