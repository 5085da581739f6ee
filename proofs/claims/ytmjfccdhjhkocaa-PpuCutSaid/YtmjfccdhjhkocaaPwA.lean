/- The window's row. -/
import Derived.Test.YtmjfccdhjhkocaaPxZ
namespace Go.Proofs.Ytmjfccdhjhkocaa
open Go.RowKit
set_option linter.unusedVariables false
variable {b : Nat} {p : Pic}
def Pic.winO (p : Pic) : Nat := (p.rg 11 - 7).toNat
def Pic.windowF (p : Pic) (f : Nat → Int) (k : Nat) : Int := if p.has 1 = true then (if p.winO ≤ k then p.num (p.mapBy 64).toNat (cutB p.rows).toNat ((k - p.winO) % 256) else f k) else f k
theorem sliced_from (g : Nat) (l : Int) (M : Nat) (e : l = (M : Int)) (hM : M < 160) (w : World) : (Instr.sliceAt 70 (.pointer (some ⟨g, 0, none⟩)) (some (.int .i64 l)) none none).run Try.prog w = .ok (.slice (some ⟨g, M, none⟩) (160 - M) (160 - M)) w := by
  subst e
  have e1 : Try.prog.arrayLen 70 = 160 := by kernel_rfl
  have e2 : (sizeOf (Try.prog.elem 70)).run Try.prog w = .ok 1 w := by kernel_rfl
  rw [run_sliceAt_array_l w _ _ (by kernel_rfl) _ _ (by omega) (by rw [e1]; omega), e2, e1]
  simp only [Result.andThen, slicedAt, Int.toNat_natCast]
  rw [if_neg (by omega), Nat.mul_one]
  simp [Addr.add]
  try omega
set_option maxRecDepth 100000 in
set_option maxHeartbeats 4000000 in
theorem layWindow_any (i : p.In) (hv : 7 ≤ p.rg 11) (hw : p.rg 11 ≤ 166) (g : Nat) (f : Nat → Int) (hgb : g ≠ b) (W : World) (h : PxAt W b p) (hN : NmAt W g 160 f) :
    Calls Try.prog 72 #[.pointer (some ⟨b, 0, none⟩), .pointer (some ⟨g, 0, none⟩)] W fun e w' => e = .returned (.tuple #[]) ∧ NmAt w' g 160 (p.windowF f) ∧ Fr g W w' := by
  have k11 : W.cell? ⟨b, 8363, none⟩ = some (.int .u8 (p.rg 11)) := h.reg 11 (by decide)
  have kr := h.rowsC
  have HA : Hid (∀ W, PxAt W b p → Calls Try.prog 48 #[.pointer (some ⟨b, 0, none⟩), .int .u8 1] W fun e w' => e = .returned (.bool (p.has 1)) ∧ w' = W) := fun W h => has_any 1 W h
  have HM : Hid (∀ W, PxAt W b p → Calls Try.prog 79 #[.pointer (some ⟨b, 0, none⟩), .int .u8 64] W fun e w' => e = .returned (.int .i64 (p.mapBy 64)) ∧ w' = W) := fun W h => mapBy_any 64 W h
  have HP : Hid (PxAt W b p ∧ NmAt W g 160 f) := And.intro h hN
  have HI : Hid p.In := i
  clear h hN i
  unfold Pic.windowF
  generalize p.has 1 = B at *
  cases B
  · go_enter Try.func72, Try.ntmps72
    go_wp2_with fail
    refine (HA.out _ HP.out.1).mono ?_
    rintro e w' ⟨rfl, hw'⟩
    obtain rfl := hw'.symm
    go_wp2_with fail
    refine bodyPost_ret (results_none rfl _ _ _) rfl ?_
    exact ⟨rfl, HP.out.2, Fr.refl g W⟩
  · obtain ⟨o, ho⟩ : ∃ o : Nat, p.rg 11 = (o : Int) + 7 := ⟨(p.rg 11 - 7).toNat, by omega⟩
    have eo : p.winO = o := by unfold Pic.winO; omega
    have o1 : o < 160 := by omega
    rw [eo]
    rw [ho] at k11
    clear eo hv hw ho
    have sl : ∀ w, (Instr.sliceAt 70 (.pointer (some ⟨g, 0, none⟩)) (some (.int .i64 (o : Int))) none none).run Try.prog w = .ok (.slice (some ⟨g, o, none⟩) (160 - o) (160 - o)) w := fun w => sliced_from g _ o rfl o1 w
    have o2 : (o : Int) < 160 := by omega
    have o3 : (0 : Int) ≤ (o : Int) := by omega
    by_cases hz : o = 0
    · have hz : o = 0 := by omega
      subst hz
      have sl : ∀ w, (Instr.sliceAt 70 (.pointer (some ⟨g, 0, none⟩)) (some (.int .i64 0)) none none).run Try.prog w = .ok (.slice (some ⟨g, 0, none⟩) 160 160) w := fun w => sliced_from g 0 0 rfl (by decide) w
      have k11 : W.cell? ⟨b, 8363, none⟩ = some (.int .u8 7) := k11
      go_enter Try.func72, Try.ntmps72
      go_wp2_with fail
      refine (HA.out _ HP.out.1).mono ?_
      rintro e w' ⟨rfl, hw'⟩
      obtain rfl := hw'.symm
      go_wp2_with fail
      refine wp_still2 14 (by kernel_rfl) (by kernel_rfl) ?_
      intro w1 hw1
      have u1 : Up W w1 := by rw [hw1]; exact (Up.refl _).drew
      have h1 : PxAt w1 b p := HP.out.1.up u1
      have kr1 := h1.rowsC
      have H1 : Hid _ := And.intro h1 (And.intro (HP.out.2.of_block (u1.block _ HP.out.2.lt)) u1)
      have hw2 := wrapB p.rows
      have cb := cutB_b p.rows
      clear hw1 h1 u1 kr k11
      simp only [List.take_succ_cons, List.take_zero, List.drop_succ_cons, List.drop_zero]
      repeat (go_big_quiet_step (fail))
      go_big_quiet_want
      go_big_quiet_op
      refine ⟨_, HM.out _ H1.out.1, ?_⟩
      go_big_quiet_on
      repeat (go_big_quiet_step (fail))
      refine wpQuiet_nil ?_
      go_wp2_with fail
      refine (layI_any HI.out (p.mapBy 64) (p.mapBy_b 64) (cutB p.rows) cb.1 cb.2 0 (by decide) (by decide) g 0 (160 - 0) (by omega) f hgb w1 H1.out.1 H1.out.2.1).mono ?_
      rintro e w2 ⟨rfl, h2, F2⟩
      have H2 : Hid _ := And.intro (h2.congr (f' := fun k => if 0 ≤ k then p.num (p.mapBy 64).toNat (cutB p.rows).toNat ((k - 0) % 256) else f k) (fun k _ => by by_cases e : 0 ≤ k; rw [if_pos e, if_pos e]; simp; rw [if_neg e, if_neg e])) ((Fr.ofUp H1.out.2.2).trans F2)
      clear h2 F2
      go_wp2_with fail
      go_end0
      exact ⟨rfl, H2.out⟩
    · have o4 : (0 : Int) < (o : Int) := by omega
      have e7 : (o : Int) + 7 - ((o : Int) + 7) = 0 := by omega
      go_enter Try.func72, Try.ntmps72
      go_wp2_with fail
      refine (HA.out _ HP.out.1).mono ?_
      rintro e w' ⟨rfl, hw'⟩
      obtain rfl := hw'.symm
      go_wp2_with fail
      refine wp_still2 14 (by kernel_rfl) (by kernel_rfl) ?_
      intro w1 hw1
      have u1 : Up W w1 := by rw [hw1]; exact (Up.refl _).drew
      have h1 : PxAt w1 b p := HP.out.1.up u1
      have kr1 := h1.rowsC
      have H1 : Hid _ := And.intro h1 (And.intro (HP.out.2.of_block (u1.block _ HP.out.2.lt)) u1)
      have hw2 := wrapB p.rows
      have cb := cutB_b p.rows
      clear hw1 h1 u1 kr k11
      simp only [List.take_succ_cons, List.take_zero, List.drop_succ_cons, List.drop_zero]
      repeat (go_big_quiet_step (fail))
      go_big_quiet_want
      go_big_quiet_op
      refine ⟨_, HM.out _ H1.out.1, ?_⟩
      go_big_quiet_on
      repeat (go_big_quiet_step (fail))
      refine wpQuiet_nil ?_
      go_wp2_with fail
      refine (layI_any HI.out (p.mapBy 64) (p.mapBy_b 64) (cutB p.rows) cb.1 cb.2 0 (by decide) (by decide) g o (160 - o) (by omega) f hgb w1 H1.out.1 H1.out.2.1).mono ?_
      rintro e w2 ⟨rfl, h2, F2⟩
      have H2 : Hid _ := And.intro (h2.congr (f' := fun k => if o ≤ k then p.num (p.mapBy 64).toNat (cutB p.rows).toNat ((k - o) % 256) else f k) (fun k _ => by by_cases e : o ≤ k; rw [if_pos e, if_pos e]; simp; rw [if_neg e, if_neg e])) ((Fr.ofUp H1.out.2.2).trans F2)
      clear h2 F2
      go_wp2_with fail
      go_end0
      exact ⟨rfl, H2.out⟩
end Go.Proofs.Ytmjfccdhjhkocaa
