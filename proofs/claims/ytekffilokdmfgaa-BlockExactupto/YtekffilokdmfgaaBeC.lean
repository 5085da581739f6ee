/- Block: any list that is lent, and comes back. -/
import Derived.Test.YtekffilokdmfgaaBeB
import Derived.Laws.IdiomCopy
namespace Go.Proofs.Ytekffilokdmfgaa
open Go.RowKit
set_option linter.unusedVariables false
set_option linter.unusedSimpArgs false
variable {w w' W : World} {n ab ao : Nat} {aa : Option Addr} {f : Nat → Int}
def lentF (len : Nat) (f : Nat → Int) (k : Nat) : Int := if k < len then f k else 171
def lentTo (len : Nat) (f : Nat → Int) (m : Nat) (k : Nat) : Int := if k < len then f k else if k < m then 171 else 0
theorem lentTo_set (len : Nat) (f : Nat → Int) (m : Nat) (hm : len ≤ m) (k : Nat) : putF (lentTo len f m) m 1 (fun _ => 171) k = lentTo len f (m + 1) k := by
  unfold putF
  by_cases hk : m ≤ k ∧ k < m + 1
  · rw [if_pos hk]
    unfold lentTo
    rw [if_neg (by omega), if_pos (by omega)]
  · rw [if_neg hk]
    unfold lentTo
    repeat' split
    all_goals first | omega | rfl
theorem lentTo_0 (len : Nat) (f : Nat → Int) (k : Nat) : putF (fun _ => 0) 0 len f k = lentTo len f len k := by
  unfold putF lentTo
  repeat' split
  all_goals first | omega | rfl
theorem lentTo_F (len : Nat) (f : Nat → Int) (i k : Nat) (hk : k < len + 8) (hi : len + 8 ≤ i) : lentTo len f i k = lentF len f k := by
  unfold lentTo lentF
  repeat' split
  all_goals first | omega | rfl
def backTo (h : Nat → Int) (i k : Nat) : Int := if k < i then 85 else h k
theorem backTo_set (h : Nat → Int) (i k : Nat) : putF (backTo h i) i 1 (fun _ => 85) k = backTo h (i + 1) k := by
  unfold putF
  by_cases hk : i ≤ k ∧ k < i + 1
  · rw [if_pos hk]
    unfold backTo
    rw [if_pos (by omega)]
  · rw [if_neg hk]
    unfold backTo
    repeat' split
    all_goals first | omega | rfl
theorem Byts.upC {cap : Nat} (h : Byts W aa ab ao n cap f) (u : Up W w) : Byts w aa ab ao n cap f := ⟨h.lc, h.cm, h.ad, h.u8, fun k hk => cell_up u (h.cell k hk)⟩
theorem mkBig (w : World) (N : Nat) (hN : N ≤ 281474976710656) : (Instr.makeSlice 25 (.int .i64 (N : Int)) (.int .i64 (N : Int))).run Try.prog w = .ok (.slice (some ⟨w.heap.size, 0, none⟩) N N) (w.alloc (.cells (madeCells #[.int .u8 0] N) 5)) := by
  have := run_make (P := Try.prog) w 25 5 Try.t5 (.int .u8 0) Try.underlying25 (by kernel_rfl) rfl .i64 .i64 (N : Int) (N : Int) (by omega) (by omega) (by show (1 : Int) * (N : Int) ≤ 281474976710656; omega) (by omega)
  have e1 : (Value.int .u8 0).cells = #[Value.int .u8 0] := rfl
  have e2 : Try.t5.size = 1 := rfl
  rw [e1, e2] at this
  simpa using this
set_option maxRecDepth 100000 in
set_option maxHeartbeats 1000000 in
theorem lentB_any {cap : Nat} (h : Byts W aa ab ao n cap f) (hn : n ≤ 140737488355328) : Calls Try.prog 16 #[.slice aa n cap] W fun e w' => ∃ l, e = .returned (.slice (some ⟨l, 0, none⟩) (n + 8) (n + 8)) ∧ W.heap.size ≤ l ∧ By w' l (n + 8) (lentF n f) ∧ Up W w' := by
  have HB : Hid (∀ w, Up W w → Byts w aa ab ao n cap f) := fun w u => h.upC u
  have hc : n ≤ cap := h.lc
  have hm : cap ≤ 9223372036854775807 := by have := h.cm; unfold maxLen at this; omega
  clear h
  obtain ⟨M, hM⟩ : ∃ M : Nat, M = n + 8 := ⟨_, rfl⟩
  have HMe : Hid (M = n + 8) := hM
  have eM : (n : Int) + 8 = (M : Int) := by omega
  have hmk : ∀ w : World, (Instr.makeSlice 25 (.int .i64 (M : Int)) (.int .i64 (M : Int))).run Try.prog w = .ok (.slice (some ⟨w.heap.size, 0, none⟩) M M) (w.alloc (.cells (madeCells #[.int .u8 0] M) 5)) := fun w => mkBig w M (by omega)
  have HM : Hid (By (W.alloc (.cells (madeCells #[.int .u8 0] M) 5)) W.heap.size M (fun _ => 0) ∧ Up W (W.alloc (.cells (madeCells #[.int .u8 0] M) 5))) := ⟨made_by W M _, (Up.refl W).alloc _⟩
  have HCp : Hid (∀ w, By w W.heap.size M (fun _ => 0) → Up W w → ∀ ty, (Builtin.copy_ #[25, 25] ty #[.slice (some ⟨W.heap.size, 0, none⟩) M M, .slice aa n cap]).run Try.prog w = .ok (goInt n) (w.setCells W.heap.size 0 (byL f n))) := fun w hb u ty => by
    by_cases h0 : n = 0
    · subst h0
      exact run_copy_none w 25 25 ty 5 _ _ M M 0 cap Try.underlying25 (by kernel_rfl) (Nat.zero_min _)
    · have q := HB.out w u
      rw [q.ad (by omega)]
      exact copy_run (k := n) hb (by omega) (by rw [hM]; exact (Nat.min_eq_left (by omega)).symm) (fun j hj => by rw [Addr.add_lit]; exact q.cell j hj) M cap ty
  rw [← hM]
  clear hM
  go_enter Try.func16, Try.ntmps16
  go_wp2_with (refine wpList_copy_runI _ rfl _ _ 25 25 rfl _ _ rfl rfl (HCp.out _ HM.out.1 HM.out.2 _) ?_)
  have H2 : Hid (By ((W.alloc (.cells (madeCells #[.int .u8 0] M) 5)).setCells W.heap.size 0 (byL f n)) W.heap.size M (lentTo n f n) ∧ Up W ((W.alloc (.cells (madeCells #[.int .u8 0] M) 5)).setCells W.heap.size 0 (byL f n))) := ⟨(HM.out.1.setCells 0 n f (by have := HMe.out; omega)).congr (fun k _ => lentTo_0 n f k), Fr.up HM.out.2 (Nat.le_refl _) (fr_setCells _ _ _ _)⟩
  try simp only [Act.put, goInt, List.setIfInBounds_toArray, List.set_cons_zero, List.set_cons_succ]
  generalize World.setCells _ W.heap.size 0 (byL f n) = w2 at H2 ⊢
  generalize hg : W.heap.size = l at H2 ⊢
  have HG : Hid (W.heap.size ≤ l) := Nat.le_of_eq hg
  clear hg HM HCp hmk
  go_loopw [4] (fun I wr => ∃ i : Nat, n ≤ i ∧ i ≤ M ∧ I = .int .i64 (i : Int) ∧ Hid (By wr l M (lentTo n f i) ∧ Up W wr)) (fun I _ => M - (intOf I).toNat)
  case atStart => exact ⟨n, Nat.le_refl _, by have := HMe.out; omega, rfl, H2⟩
  case round =>
    clear H2
    obtain ⟨i, hi, hi2, rfl, M0⟩ := hrel
    by_cases hlt : i < M
    · have e1 : (i : Int) < (M : Int) := by omega
      have kc := M0.out.1.cell i hlt
      have kf := M0.out.1.fz i
      have HS : Hid (By (wr.setCell ⟨l, i, none⟩ (.int .u8 171)) l M (lentTo n f (i + 1)) ∧ Up W (wr.setCell ⟨l, i, none⟩ (.int .u8 171))) := ⟨(M0.out.1.set i hlt 171).congr (fun k _ => lentTo_set n f i hi k), M0.out.2.setCell HG.out _⟩
      clear M0
      go_wp2_with fail
      go_round
      case rel => exact ⟨i + 1, by omega, by omega, by go_num, HS⟩
      case measure => simp [intOf]; omega
    · have e1 : ¬ (i : Int) < (M : Int) := by omega
      have M1 : Hid (By wr l M (lentF n f) ∧ Up W wr) := ⟨M0.out.1.congr (fun k hk => lentTo_F n f i k (by have := HMe.out; omega) (by have := HMe.out; omega)), M0.out.2⟩
      clear M0
      go_wp2_with fail
      go_ret
      exact ⟨l, by first | rfl | (simp; done), HG.out, M1.out⟩
set_option maxRecDepth 100000 in
set_option maxHeartbeats 1000000 in
theorem backB_any {cap l : Nat} (h : Byts W aa ab ao n cap f) (hn : n ≤ 140737488355328) (hL : By W l (n + 8) (lentF n f)) : Calls Try.prog 19 #[.slice (some ⟨l, 0, none⟩) (n + 8) (n + 8), .slice aa n cap] W fun e w' => e = .returned (.bool true) ∧ Fr l W w' := by
  obtain ⟨M, hM⟩ : ∃ M : Nat, M = n + 8 := ⟨_, rfl⟩
  have HMe : Hid (M = n + 8) := hM
  have eM : (n : Int) ≤ (M : Int) := by omega
  have h8 := h.u8
  have hc := h.lc
  have hm := h.cm
  have c9 : cap ≤ 9223372036854775807 := by unfold maxLen at hm; omega
  have HSm : Hid (Calls Try.prog 14 #[.slice (some ⟨l, 0, none⟩) n M, .slice aa n cap] W fun e w' => e = .returned (.bool true) ∧ Up W w') := by
    have hl : By W l n (lentF n f) := by
      obtain ⟨cs, ty, q1, q2, q3⟩ := hL.row
      exact ⟨cs, ty, q1, by omega, fun k hk => q3 k (by omega)⟩
    refine same_yesB (hl.byts (by omega) (by unfold maxLen; omega) (fun k => ?_)) h (fun k hk => by unfold lentF; rw [if_pos hk])
    unfold lentF
    split
    · exact h8 k
    · decide
  have H0 : Hid (∀ w, Up W w → By w l M (backTo (lentF n f) 0) ∧ Fr l W w) := fun w u => ⟨by rw [hM]; exact (hL.up u).congr (fun k _ => by unfold backTo; rw [if_neg (by omega)]), Fr.ofUp u⟩
  rw [← hM]
  have m9 : M ≤ 9223372036854775807 := by omega
  clear h hL h8 hM hm
  go_enter Try.func19, Try.ntmps19
  go_wp2_with fail
  refine Calls.mono HSm.out ?_
  rintro e w2 ⟨rfl, u2⟩
  have H2 : Hid _ := H0.out w2 u2
  clear u2 H0 HSm
  go_wp2_with fail
  go_loopw [5, 6] (fun B I wr => ∃ i : Nat, i ≤ M ∧ B = .bool true ∧ I = .int .i64 (i : Int) ∧ Hid (By wr l M (backTo (lentF n f) i) ∧ Fr l W wr)) (fun _ I _ => M - (intOf I).toNat)
  case atStart => exact ⟨0, Nat.zero_le _, rfl, rfl, H2⟩
  case round =>
    clear H2
    obtain ⟨i, hi, rfl, rfl, M0⟩ := hrel
    by_cases hlt : i < M
    · have e1 : (i : Int) < (M : Int) := by omega
      have kc := M0.out.1.cell i hlt
      have kf := M0.out.1.fz i
      have HS : Hid (By (wr.setCell ⟨l, i, none⟩ (.int .u8 85)) l M (backTo (lentF n f) (i + 1)) ∧ Fr l W (wr.setCell ⟨l, i, none⟩ (.int .u8 85))) := ⟨(M0.out.1.set i hlt 85).congr (fun k _ => backTo_set _ i k), M0.out.2.setCell⟩
      have eb : backTo (lentF n f) i i = lentF n f i := by unfold backTo; rw [if_neg (by omega)]
      rw [eb] at kc
      by_cases hc' : i < n
      · have e4 : (i : Int) < (n : Int) := by omega
        clear M0 eb
        generalize lentF n f i = xx at kc
        go_wp2_with fail
        go_round
        case rel => exact ⟨i + 1, by omega, by first | rfl | (simp; done), by go_num, HS⟩
        case measure => simp [intOf]; omega
      · have e4 : ¬ (i : Int) < (n : Int) := by omega
        have ef : lentF n f i = 171 := if_neg hc'
        rw [ef] at kc
        clear M0 eb ef
        go_wp2_with fail
        go_round
        case rel => exact ⟨i + 1, by omega, by first | rfl | (simp; done), by go_num, HS⟩
        case measure => simp [intOf]; omega
    · have e1 : ¬ (i : Int) < (M : Int) := by omega
      go_wp2_with fail
      go_ret
      exact ⟨by first | rfl | (simp; done), M0.out.2⟩
end Go.Proofs.Ytekffilokdmfgaa
