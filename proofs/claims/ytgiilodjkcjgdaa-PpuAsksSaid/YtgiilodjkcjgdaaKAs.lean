/- The edges of the STAT line, counted. -/
import Derived.Test.YtgiilodjkcjgdaaWTm
namespace Go.Proofs.Ytgiilodjkcjgdaa
open Go.RowKit
set_option linter.unusedVariables false
variable {b : Nat} {p : Pic}
def letsP (s y l c : Int) : Bool := if bits .and .i64 s 64 ≠ 0 ∧ l = y then true else if 144 ≤ l then bits .and .i64 s 16 != 0 else if c < 80 then bits .and .i64 s 32 != 0 else if c < 252 then false else bits .and .i64 s 8 != 0
set_option maxRecDepth 100000 in
theorem lets_any (s y l c : Int) (W : World) : Calls Try.prog 42 #[.int .i64 s, .int .i64 y, .int .i64 l, .int .i64 c] W fun e w' => e = .returned (.bool (letsP s y l c)) ∧ w' = W := by
  unfold letsP
  generalize hA : bits .and .i64 s 64 = A
  by_cases e1 : A = 0
  · have d1 : (A != 0) = false := by rw [e1]; rfl
    rw [if_neg (fun h => h.1 e1)]
    clear e1
    by_cases m1 : 144 ≤ l
    · rw [if_pos m1]
      have dm := decide_eq_true m1
      go_enter Try.func42, Try.ntmps42
      go_wp2_with fail
      go_ret
      exact ⟨by first | rfl | exact retB (by simp), rfl⟩
    · rw [if_neg m1]
      have dm := decide_eq_false m1
      by_cases m2 : c < 80
      · rw [if_pos m2]
        have dn := decide_eq_true m2
        go_enter Try.func42, Try.ntmps42
        go_wp2_with fail
        go_ret
        exact ⟨by first | rfl | exact retB (by simp), rfl⟩
      · rw [if_neg m2]
        have dn := decide_eq_false m2
        by_cases m3 : c < 252
        · rw [if_pos m3]
          have do3 := decide_eq_true m3
          go_enter Try.func42, Try.ntmps42
          go_wp2_with fail
          go_ret
          exact ⟨by first | rfl | exact retB (by simp), rfl⟩
        · rw [if_neg m3]
          have do3 := decide_eq_false m3
          go_enter Try.func42, Try.ntmps42
          go_wp2_with fail
          go_ret
          exact ⟨by first | rfl | exact retB (by simp), rfl⟩
  · have d1 : (A != 0) = true := bne_iff_ne.2 e1
    by_cases e2 : l = y
    · have d2 : (l == y) = true := beq_iff_eq.2 e2
      rw [if_pos ⟨e1, e2⟩]
      clear e1 e2
      go_enter Try.func42, Try.ntmps42
      go_wp2_with fail
      go_ret
      exact ⟨by first | rfl | exact retB (by simp), rfl⟩
    · have d2 : (l == y) = false := beq_eq_false_iff_ne.2 e2
      rw [if_neg (fun h => e2 h.2)]
      clear e1 e2
      by_cases m1 : 144 ≤ l
      · rw [if_pos m1]
        have dm := decide_eq_true m1
        go_enter Try.func42, Try.ntmps42
        go_wp2_with fail
        go_ret
        exact ⟨by first | rfl | exact retB (by simp), rfl⟩
      · rw [if_neg m1]
        have dm := decide_eq_false m1
        by_cases m2 : c < 80
        · rw [if_pos m2]
          have dn := decide_eq_true m2
          go_enter Try.func42, Try.ntmps42
          go_wp2_with fail
          go_ret
          exact ⟨by first | rfl | exact retB (by simp), rfl⟩
        · rw [if_neg m2]
          have dn := decide_eq_false m2
          by_cases m3 : c < 252
          · rw [if_pos m3]
            have do3 := decide_eq_true m3
            go_enter Try.func42, Try.ntmps42
            go_wp2_with fail
            go_ret
            exact ⟨by first | rfl | exact retB (by simp), rfl⟩
          · rw [if_neg m3]
            have do3 := decide_eq_false m3
            go_enter Try.func42, Try.ntmps42
            go_wp2_with fail
            go_ret
            exact ⟨by first | rfl | exact retB (by simp), rfl⟩
/-- the line of the clock i -/
def letsK (s y : Int) (i : Nat) : Bool := letsP s y (lnK i : Int) (ckK i : Int)
/-- the edges up to a clock -/
def edgeI (s y : Int) (i : Nat) : Nat := if letsK s y i = false ∧ letsK s y (i + 1) = true then 1 else 0
def edgeU (s y : Int) : Nat → Nat
  | 0 => 0
  | i + 1 => edgeU s y i + edgeI s y i
theorem letsK_ring (s y : Int) {N : Nat} (hN : N = 17556) (i : Nat) : letsK s y (i + N) = letsK s y i := by
  unfold letsK
  have e1 : lnK (i + N) = lnK i := by unfold lnK; omega
  have e2 : ckK (i + N) = ckK i := by unfold ckK; omega
  rw [e1, e2]
theorem edgeI_ring (s y : Int) {N : Nat} (hN : N = 17556) (i : Nat) : edgeI s y (i + N) = edgeI s y i := by
  unfold edgeI
  rw [letsK_ring s y hN, show i + N + 1 = i + 1 + N by omega, letsK_ring s y hN]
theorem edgeU_ring (s y : Int) {N : Nat} (hN : N = 17556) (i : Nat) : edgeU s y (i + N) = edgeU s y N + edgeU s y i := by
  induction i with
  | zero => rw [Nat.zero_add]; rfl
  | succ i ih =>
    rw [show i + 1 + N = (i + N) + 1 by omega]
    show edgeU s y (i + N) + edgeI s y (i + N) = edgeU s y N + (edgeU s y i + edgeI s y i)
    rw [ih, edgeI_ring s y hN]
    omega
theorem edgeU_le (s y : Int) (i : Nat) : edgeU s y i ≤ i := by
  induction i with
  | zero => exact Nat.le_refl _
  | succ i ih =>
    show edgeU s y i + edgeI s y i ≤ i + 1
    have : edgeI s y i ≤ 1 := by unfold edgeI; split <;> omega
    omega
/-- the first of the ring, and then the others -/
def edgeR (s y : Int) (N : Nat) : Nat → Nat
  | 0 => 0
  | i + 1 => edgeI s y (N - 1) + edgeU s y i
theorem edgeR_whole (s y : Int) {N : Nat} (hN : N = 17556) : edgeR s y N N = edgeU s y N := by
  obtain ⟨M, rfl⟩ : ∃ M, N = M + 1 := ⟨N - 1, by omega⟩
  show edgeI s y (M + 1 - 1) + edgeU s y M = edgeU s y M + edgeI s y M
  rw [Nat.add_sub_cancel]
  omega
def wasK (s y : Int) (N : Nat) : Nat → Bool
  | 0 => letsK s y (N - 1)
  | i + 1 => letsK s y i
def oneIf (b : Bool) : Nat := if b = true then 1 else 0
theorem edgeR_step (s y : Int) {N : Nat} (hN : N = 17556) (i : Nat) : edgeR s y N (i + 1) = edgeR s y N i + oneIf (letsK s y i && !wasK s y N i) := by
  cases i with
  | zero =>
    have e : letsK s y (N - 1 + 1) = letsK s y 0 := by
      rw [show N - 1 + 1 = 0 + N by omega]
      exact letsK_ring s y hN 0
    show edgeI s y (N - 1) + 0 = 0 + oneIf (letsK s y 0 && !letsK s y (N - 1))
    unfold edgeI
    rw [e]
    cases letsK s y 0 <;> cases letsK s y (N - 1) <;> rfl
  | succ i =>
    show edgeI s y (N - 1) + (edgeU s y i + edgeI s y i) = edgeI s y (N - 1) + edgeU s y i + oneIf (letsK s y (i + 1) && !letsK s y i)
    have : edgeI s y i = oneIf (letsK s y (i + 1) && !letsK s y i) := by
      unfold edgeI
      cases letsK s y (i + 1) <;> cases letsK s y i <;> rfl
    rw [this]
    omega
theorem edgeR_le (s y : Int) (N i : Nat) : edgeR s y N i ≤ i := by
  cases i with
  | zero => exact Nat.le_refl _
  | succ i =>
    show edgeI s y (N - 1) + edgeU s y i ≤ i + 1
    have := edgeU_le s y i
    have : edgeI s y (N - 1) ≤ 1 := by unfold edgeI; split <;> omega
    omega
set_option maxRecDepth 100000 in
set_option maxHeartbeats 1000000 in
theorem edges_any (s y : Int) {N : Nat} (hN : N = 17556) (W : World) : Calls Try.prog 22 #[.int .i64 s, .int .i64 y] W fun e w' => e = .returned (.int .i64 (edgeU s y N : Nat)) ∧ w' = W := by
  have H0 : Hid (∀ W, Calls Try.prog 42 #[.int .i64 s, .int .i64 y, .int .i64 153, .int .i64 452] W fun e w' => e = .returned (.bool (wasK s y N 0)) ∧ w' = W) := fun W => by
    have := lets_any s y 153 452 W
    have e : wasK s y N 0 = letsP s y 153 452 := by
      show letsP s y (lnK (N - 1) : Int) (ckK (N - 1) : Int) = _
      have e1 : (lnK (N - 1) : Int) = 153 := by unfold lnK; omega
      have e2 : (ckK (N - 1) : Int) = 452 := by unfold ckK; omega
      rw [e1, e2]
    rw [e]
    exact this
  have HNN : Hid (N = 17556) := hN
  rw [← edgeR_whole s y hN]
  clear hN
  go_enter Try.func22, Try.ntmps22
  go_wp2_with fail
  refine (H0.out _).mono ?_
  rintro e w' ⟨rfl, hw'⟩
  obtain rfl := hw'.symm
  go_wp2_with fail
  clear H0
  go_loopw [5, 6, 7] (fun B A I wr => ∃ (i a : Nat) (b : Bool), i ≤ 17556 ∧ I = .int .i64 i ∧ A = .int .i64 a ∧ B = .bool b ∧ Hid (a = edgeR s y N i ∧ b = wasK s y N i ∧ wr = W)) (fun _ _ I _ => 17556 - (intOf I).toNat)
  case atStart => exact ⟨0, 0, _, by omega, rfl, rfl, rfl, rfl, rfl, rfl⟩
  case round =>
    obtain ⟨i, a, b, hi, rfl, rfl, rfl, hA⟩ := hrel
    obtain rfl : wr = W := hA.out.2.2
    by_cases hlt : i < 17556
    · have d1 : decide ((i : Int) < 17556) = true := decide_eq_true (by omega)
      have e1 : (i : Int) < 17556 := by omega
      have a0 : (a : Int) ≤ 17556 := by have := edgeR_le s y N i; have := hA.out.1; omega
      have HT : Hid (∀ W, Calls Try.prog 42 #[.int .i64 s, .int .i64 y, .int .i64 ((i : Int) / 114), .int .i64 ((i : Int) % 114 * 4)] W fun e w' => e = .returned (.bool (letsK s y i)) ∧ w' = W) := fun W => by
        have := lets_any s y ((i : Int) / 114) ((i : Int) % 114 * 4) W
        have el : (lnK i : Int) = (i : Int) / 114 := by unfold lnK; omega
        have ec : (ckK i : Int) = (i : Int) % 114 * 4 := by unfold ckK; omega
        unfold letsK
        rw [el, ec]
        exact this
      have HS : Hid (∀ t, letsK s y i = t → edgeR s y N (i + 1) = a + oneIf (t && !b)) := fun t ht => by rw [edgeR_step s y HNN.out i, ← hA.out.1, ← hA.out.2.1, ht]
      have HK : Hid (wasK s y N (i + 1) = letsK s y i) := rfl
      generalize letsK s y i = T at *
      have HS2 : Hid _ := HS.out T rfl
      cases T <;> cases b <;>
      · go_wp2_with fail
        refine (HT.out _).mono ?_
        rintro e w' ⟨rfl, hw'⟩
        obtain rfl := hw'.symm
        go_wp2_with fail
        refine ⟨⟨i + 1, _, _, by omega, ?_, ?_, rfl, HS2.out.symm, HK.out.symm, by first | trivial | rfl⟩, ?_⟩
        · first | rfl | (simp; done)
        · first | rfl | (simp [oneIf]; done)
        · simp [intOf]
          omega
    · have d1 : decide ((i : Int) < 17556) = false := decide_eq_false (by omega)
      have ei : i = N := by have := HNN.out; omega
      have HF : Hid ((a : Int) = (edgeR s y N N : Nat)) := by show _ = _; rw [hA.out.1, ei]
      clear ei
      go_wp2_with fail
      go_ret
      exact ⟨ret1 HF.out, rfl⟩
end Go.Proofs.Ytgiilodjkcjgdaa
