/- The window's row, wherever it is. -/
import Derived.Test.YtmjfccdhjhkocaaPwA
import Derived.Test.YtmjfccdhjhkocaaPgB
namespace Go.Proofs.Ytmjfccdhjhkocaa
open Go.RowKit
set_option linter.unusedVariables false
variable {b : Nat} {p : Pic}
def Pic.winC (p : Pic) : Nat := (7 - p.rg 11).toNat
def Pic.windowG (p : Pic) (f : Nat → Int) (k : Nat) : Int := if p.has 1 = true then (if p.winO ≤ k then p.num (p.mapBy 64).toNat (cutB p.rows).toNat ((p.winC + (k - p.winO)) % 256) else f k) else f k
set_option maxRecDepth 100000 in
set_option maxHeartbeats 4000000 in
theorem layWindowL_any (i : p.In) (v : Nat) (e11 : p.rg 11 = (v : Int)) (hv : v < 7) (h1 : p.has 1 = true) (g : Nat) (f : Nat → Int) (hgb : g ≠ b) (W : World) (h : PxAt W b p) (hN : NmAt W g 160 f) :
    Calls Try.prog 72 #[.pointer (some ⟨b, 0, none⟩), .pointer (some ⟨g, 0, none⟩)] W fun e w' => e = .returned (.tuple #[]) ∧ NmAt w' g 160 (fun k => p.num (p.mapBy 64).toNat (cutB p.rows).toNat ((7 - v + k) % 256)) ∧ Fr g W w' := by
  have k11 : W.cell? ⟨b, 8363, none⟩ = some (.int .u8 (p.rg 11)) := h.reg 11 (by decide)
  have kr := h.rowsC
  have HA : Hid (∀ W, PxAt W b p → Calls Try.prog 48 #[.pointer (some ⟨b, 0, none⟩), .int .u8 1] W fun e w' => e = .returned (.bool true) ∧ w' = W) := fun W h => h1 ▸ has_any 1 W h
  have HM : Hid (∀ W, PxAt W b p → Calls Try.prog 79 #[.pointer (some ⟨b, 0, none⟩), .int .u8 64] W fun e w' => e = .returned (.int .i64 (p.mapBy 64)) ∧ w' = W) := fun W h => mapBy_any 64 W h
  have HP : Hid (PxAt W b p ∧ NmAt W g 160 f) := And.intro h hN
  have HI : Hid p.In := i
  rw [e11] at k11
  clear h hN i h1 e11
  have sl : ∀ w, (Instr.sliceAt 70 (.pointer (some ⟨g, 0, none⟩)) (some (.int .i64 0)) none none).run Try.prog w = .ok (.slice (some ⟨g, 0, none⟩) 160 160) w := fun w => sliced_from g 0 0 rfl (by decide) w
  have h7 : v = 0 ∨ v = 1 ∨ v = 2 ∨ v = 3 ∨ v = 4 ∨ v = 5 ∨ v = 6 := by omega
  clear hv
  rcases h7 with rfl | rfl | rfl | rfl | rfl | rfl | rfl
  · have k11 : W.cell? ⟨b, 8363, none⟩ = some (.int .u8 0) := k11
    go_enter Try.func72, Try.ntmps72
    go_wp2_with fail
    refine (HA.out _ HP.out.1).mono ?_
    rintro e w' ⟨rfl, hw'⟩
    obtain rfl := hw'.symm
    go_wp2_with fail
    refine wp_still2 14 (by kernel_rfl) (by kernel_rfl) ?_
    intro w1 hw1
    have u1 : Up W w1 := by rw [hw1]; exact (Up.refl _).drew
    have h1 : PxAt w1 b p := HP.out.1.up u1
    have kr1 := h1.rowsC
    have H1 : Hid _ := And.intro h1 (And.intro (HP.out.2.of_block (u1.block _ HP.out.2.lt)) u1)
    have hw2 := wrapB p.rows
    have cb := cutB_b p.rows
    clear hw1 h1 u1 kr k11
    simp only [List.take_succ_cons, List.take_zero, List.drop_succ_cons, List.drop_zero]
    repeat (go_big_quiet_step (fail))
    go_big_quiet_want
    go_big_quiet_op
    refine ⟨_, HM.out _ H1.out.1, ?_⟩
    go_big_quiet_on
    repeat (go_big_quiet_step (fail))
    refine wpQuiet_nil ?_
    go_wp2_with fail
    refine (layI_any HI.out (p.mapBy 64) (p.mapBy_b 64) (cutB p.rows) cb.1 cb.2 7 (by decide) (by decide) g 0 160 rfl f hgb w1 H1.out.1 H1.out.2.1).mono ?_
    rintro e w2 ⟨rfl, h2, F2⟩
    have H2 : Hid _ := And.intro (h2.congr (f' := fun k => p.num (p.mapBy 64).toNat (cutB p.rows).toNat ((7 - 0 + k) % 256)) (fun k _ => by rw [if_pos (by omega), Nat.sub_zero]; rfl)) ((Fr.ofUp H1.out.2.2).trans F2)
    clear h2 F2
    go_wp2_with fail
    go_end0
    exact ⟨rfl, H2.out⟩
  · have k11 : W.cell? ⟨b, 8363, none⟩ = some (.int .u8 1) := k11
    go_enter Try.func72, Try.ntmps72
    go_wp2_with fail
    refine (HA.out _ HP.out.1).mono ?_
    rintro e w' ⟨rfl, hw'⟩
    obtain rfl := hw'.symm
    go_wp2_with fail
    refine wp_still2 14 (by kernel_rfl) (by kernel_rfl) ?_
    intro w1 hw1
    have u1 : Up W w1 := by rw [hw1]; exact (Up.refl _).drew
    have h1 : PxAt w1 b p := HP.out.1.up u1
    have kr1 := h1.rowsC
    have H1 : Hid _ := And.intro h1 (And.intro (HP.out.2.of_block (u1.block _ HP.out.2.lt)) u1)
    have hw2 := wrapB p.rows
    have cb := cutB_b p.rows
    clear hw1 h1 u1 kr k11
    simp only [List.take_succ_cons, List.take_zero, List.drop_succ_cons, List.drop_zero]
    repeat (go_big_quiet_step (fail))
    go_big_quiet_want
    go_big_quiet_op
    refine ⟨_, HM.out _ H1.out.1, ?_⟩
    go_big_quiet_on
    repeat (go_big_quiet_step (fail))
    refine wpQuiet_nil ?_
    go_wp2_with fail
    refine (layI_any HI.out (p.mapBy 64) (p.mapBy_b 64) (cutB p.rows) cb.1 cb.2 6 (by decide) (by decide) g 0 160 rfl f hgb w1 H1.out.1 H1.out.2.1).mono ?_
    rintro e w2 ⟨rfl, h2, F2⟩
    have H2 : Hid _ := And.intro (h2.congr (f' := fun k => p.num (p.mapBy 64).toNat (cutB p.rows).toNat ((7 - 1 + k) % 256)) (fun k _ => by rw [if_pos (by omega), Nat.sub_zero]; rfl)) ((Fr.ofUp H1.out.2.2).trans F2)
    clear h2 F2
    go_wp2_with fail
    go_end0
    exact ⟨rfl, H2.out⟩
  · have k11 : W.cell? ⟨b, 8363, none⟩ = some (.int .u8 2) := k11
    go_enter Try.func72, Try.ntmps72
    go_wp2_with fail
    refine (HA.out _ HP.out.1).mono ?_
    rintro e w' ⟨rfl, hw'⟩
    obtain rfl := hw'.symm
    go_wp2_with fail
    refine wp_still2 14 (by kernel_rfl) (by kernel_rfl) ?_
    intro w1 hw1
    have u1 : Up W w1 := by rw [hw1]; exact (Up.refl _).drew
    have h1 : PxAt w1 b p := HP.out.1.up u1
    have kr1 := h1.rowsC
    have H1 : Hid _ := And.intro h1 (And.intro (HP.out.2.of_block (u1.block _ HP.out.2.lt)) u1)
    have hw2 := wrapB p.rows
    have cb := cutB_b p.rows
    clear hw1 h1 u1 kr k11
    simp only [List.take_succ_cons, List.take_zero, List.drop_succ_cons, List.drop_zero]
    repeat (go_big_quiet_step (fail))
    go_big_quiet_want
    go_big_quiet_op
    refine ⟨_, HM.out _ H1.out.1, ?_⟩
    go_big_quiet_on
    repeat (go_big_quiet_step (fail))
    refine wpQuiet_nil ?_
    go_wp2_with fail
    refine (layI_any HI.out (p.mapBy 64) (p.mapBy_b 64) (cutB p.rows) cb.1 cb.2 5 (by decide) (by decide) g 0 160 rfl f hgb w1 H1.out.1 H1.out.2.1).mono ?_
    rintro e w2 ⟨rfl, h2, F2⟩
    have H2 : Hid _ := And.intro (h2.congr (f' := fun k => p.num (p.mapBy 64).toNat (cutB p.rows).toNat ((7 - 2 + k) % 256)) (fun k _ => by rw [if_pos (by omega), Nat.sub_zero]; rfl)) ((Fr.ofUp H1.out.2.2).trans F2)
    clear h2 F2
    go_wp2_with fail
    go_end0
    exact ⟨rfl, H2.out⟩
  · have k11 : W.cell? ⟨b, 8363, none⟩ = some (.int .u8 3) := k11
    go_enter Try.func72, Try.ntmps72
    go_wp2_with fail
    refine (HA.out _ HP.out.1).mono ?_
    rintro e w' ⟨rfl, hw'⟩
    obtain rfl := hw'.symm
    go_wp2_with fail
    refine wp_still2 14 (by kernel_rfl) (by kernel_rfl) ?_
    intro w1 hw1
    have u1 : Up W w1 := by rw [hw1]; exact (Up.refl _).drew
    have h1 : PxAt w1 b p := HP.out.1.up u1
    have kr1 := h1.rowsC
    have H1 : Hid _ := And.intro h1 (And.intro (HP.out.2.of_block (u1.block _ HP.out.2.lt)) u1)
    have hw2 := wrapB p.rows
    have cb := cutB_b p.rows
    clear hw1 h1 u1 kr k11
    simp only [List.take_succ_cons, List.take_zero, List.drop_succ_cons, List.drop_zero]
    repeat (go_big_quiet_step (fail))
    go_big_quiet_want
    go_big_quiet_op
    refine ⟨_, HM.out _ H1.out.1, ?_⟩
    go_big_quiet_on
    repeat (go_big_quiet_step (fail))
    refine wpQuiet_nil ?_
    go_wp2_with fail
    refine (layI_any HI.out (p.mapBy 64) (p.mapBy_b 64) (cutB p.rows) cb.1 cb.2 4 (by decide) (by decide) g 0 160 rfl f hgb w1 H1.out.1 H1.out.2.1).mono ?_
    rintro e w2 ⟨rfl, h2, F2⟩
    have H2 : Hid _ := And.intro (h2.congr (f' := fun k => p.num (p.mapBy 64).toNat (cutB p.rows).toNat ((7 - 3 + k) % 256)) (fun k _ => by rw [if_pos (by omega), Nat.sub_zero]; rfl)) ((Fr.ofUp H1.out.2.2).trans F2)
    clear h2 F2
    go_wp2_with fail
    go_end0
    exact ⟨rfl, H2.out⟩
  · have k11 : W.cell? ⟨b, 8363, none⟩ = some (.int .u8 4) := k11
    go_enter Try.func72, Try.ntmps72
    go_wp2_with fail
    refine (HA.out _ HP.out.1).mono ?_
    rintro e w' ⟨rfl, hw'⟩
    obtain rfl := hw'.symm
    go_wp2_with fail
    refine wp_still2 14 (by kernel_rfl) (by kernel_rfl) ?_
    intro w1 hw1
    have u1 : Up W w1 := by rw [hw1]; exact (Up.refl _).drew
    have h1 : PxAt w1 b p := HP.out.1.up u1
    have kr1 := h1.rowsC
    have H1 : Hid _ := And.intro h1 (And.intro (HP.out.2.of_block (u1.block _ HP.out.2.lt)) u1)
    have hw2 := wrapB p.rows
    have cb := cutB_b p.rows
    clear hw1 h1 u1 kr k11
    simp only [List.take_succ_cons, List.take_zero, List.drop_succ_cons, List.drop_zero]
    repeat (go_big_quiet_step (fail))
    go_big_quiet_want
    go_big_quiet_op
    refine ⟨_, HM.out _ H1.out.1, ?_⟩
    go_big_quiet_on
    repeat (go_big_quiet_step (fail))
    refine wpQuiet_nil ?_
    go_wp2_with fail
    refine (layI_any HI.out (p.mapBy 64) (p.mapBy_b 64) (cutB p.rows) cb.1 cb.2 3 (by decide) (by decide) g 0 160 rfl f hgb w1 H1.out.1 H1.out.2.1).mono ?_
    rintro e w2 ⟨rfl, h2, F2⟩
    have H2 : Hid _ := And.intro (h2.congr (f' := fun k => p.num (p.mapBy 64).toNat (cutB p.rows).toNat ((7 - 4 + k) % 256)) (fun k _ => by rw [if_pos (by omega), Nat.sub_zero]; rfl)) ((Fr.ofUp H1.out.2.2).trans F2)
    clear h2 F2
    go_wp2_with fail
    go_end0
    exact ⟨rfl, H2.out⟩
  · have k11 : W.cell? ⟨b, 8363, none⟩ = some (.int .u8 5) := k11
    go_enter Try.func72, Try.ntmps72
    go_wp2_with fail
    refine (HA.out _ HP.out.1).mono ?_
    rintro e w' ⟨rfl, hw'⟩
    obtain rfl := hw'.symm
    go_wp2_with fail
    refine wp_still2 14 (by kernel_rfl) (by kernel_rfl) ?_
    intro w1 hw1
    have u1 : Up W w1 := by rw [hw1]; exact (Up.refl _).drew
    have h1 : PxAt w1 b p := HP.out.1.up u1
    have kr1 := h1.rowsC
    have H1 : Hid _ := And.intro h1 (And.intro (HP.out.2.of_block (u1.block _ HP.out.2.lt)) u1)
    have hw2 := wrapB p.rows
    have cb := cutB_b p.rows
    clear hw1 h1 u1 kr k11
    simp only [List.take_succ_cons, List.take_zero, List.drop_succ_cons, List.drop_zero]
    repeat (go_big_quiet_step (fail))
    go_big_quiet_want
    go_big_quiet_op
    refine ⟨_, HM.out _ H1.out.1, ?_⟩
    go_big_quiet_on
    repeat (go_big_quiet_step (fail))
    refine wpQuiet_nil ?_
    go_wp2_with fail
    refine (layI_any HI.out (p.mapBy 64) (p.mapBy_b 64) (cutB p.rows) cb.1 cb.2 2 (by decide) (by decide) g 0 160 rfl f hgb w1 H1.out.1 H1.out.2.1).mono ?_
    rintro e w2 ⟨rfl, h2, F2⟩
    have H2 : Hid _ := And.intro (h2.congr (f' := fun k => p.num (p.mapBy 64).toNat (cutB p.rows).toNat ((7 - 5 + k) % 256)) (fun k _ => by rw [if_pos (by omega), Nat.sub_zero]; rfl)) ((Fr.ofUp H1.out.2.2).trans F2)
    clear h2 F2
    go_wp2_with fail
    go_end0
    exact ⟨rfl, H2.out⟩
  · have k11 : W.cell? ⟨b, 8363, none⟩ = some (.int .u8 6) := k11
    go_enter Try.func72, Try.ntmps72
    go_wp2_with fail
    refine (HA.out _ HP.out.1).mono ?_
    rintro e w' ⟨rfl, hw'⟩
    obtain rfl := hw'.symm
    go_wp2_with fail
    refine wp_still2 14 (by kernel_rfl) (by kernel_rfl) ?_
    intro w1 hw1
    have u1 : Up W w1 := by rw [hw1]; exact (Up.refl _).drew
    have h1 : PxAt w1 b p := HP.out.1.up u1
    have kr1 := h1.rowsC
    have H1 : Hid _ := And.intro h1 (And.intro (HP.out.2.of_block (u1.block _ HP.out.2.lt)) u1)
    have hw2 := wrapB p.rows
    have cb := cutB_b p.rows
    clear hw1 h1 u1 kr k11
    simp only [List.take_succ_cons, List.take_zero, List.drop_succ_cons, List.drop_zero]
    repeat (go_big_quiet_step (fail))
    go_big_quiet_want
    go_big_quiet_op
    refine ⟨_, HM.out _ H1.out.1, ?_⟩
    go_big_quiet_on
    repeat (go_big_quiet_step (fail))
    refine wpQuiet_nil ?_
    go_wp2_with fail
    refine (layI_any HI.out (p.mapBy 64) (p.mapBy_b 64) (cutB p.rows) cb.1 cb.2 1 (by decide) (by decide) g 0 160 rfl f hgb w1 H1.out.1 H1.out.2.1).mono ?_
    rintro e w2 ⟨rfl, h2, F2⟩
    have H2 : Hid _ := And.intro (h2.congr (f' := fun k => p.num (p.mapBy 64).toNat (cutB p.rows).toNat ((7 - 6 + k) % 256)) (fun k _ => by rw [if_pos (by omega), Nat.sub_zero]; rfl)) ((Fr.ofUp H1.out.2.2).trans F2)
    clear h2 F2
    go_wp2_with fail
    go_end0
    exact ⟨rfl, H2.out⟩
theorem layWindowG_any (i : p.In) (hw : p.rg 11 ≤ 166) (g : Nat) (f : Nat → Int) (hgb : g ≠ b) (W : World) (h : PxAt W b p) (hN : NmAt W g 160 f) :
    Calls Try.prog 72 #[.pointer (some ⟨b, 0, none⟩), .pointer (some ⟨g, 0, none⟩)] W fun e w' => e = .returned (.tuple #[]) ∧ NmAt w' g 160 (p.windowG f) ∧ Fr g W w' := by
  by_cases hv : 7 ≤ p.rg 11
  · refine (layWindow_any i hv hw g f hgb W h hN).mono fun e w' ⟨h1, h2, h3⟩ => ⟨h1, h2.congr (fun k _ => ?_), h3⟩
    unfold Pic.windowF Pic.windowG Pic.winC
    rw [show (7 - p.rg 11).toNat = 0 by omega, Nat.zero_add]
  · cases h1 : p.has 1
    · -- nothing is laid: the background is off
      have HA : Hid (∀ W, PxAt W b p → Calls Try.prog 48 #[.pointer (some ⟨b, 0, none⟩), .int .u8 1] W fun e w' => e = .returned (.bool false) ∧ w' = W) := fun W h => h1 ▸ has_any 1 W h
      have HP : Hid (PxAt W b p ∧ NmAt W g 160 (p.windowG f)) := And.intro h (hN.congr (fun k _ => by unfold Pic.windowG; rw [h1, if_neg (by decide)]))
      clear h hN i hw hv h1
      generalize p.windowG f = F at *
      go_enter Try.func72, Try.ntmps72
      go_wp2_with fail
      refine (HA.out _ HP.out.1).mono ?_
      rintro e w' ⟨rfl, hw'⟩
      obtain rfl := hw'.symm
      go_wp2_with fail
      refine bodyPost_ret (results_none rfl _ _ _) rfl ?_
      exact ⟨rfl, HP.out.2, Fr.refl g W⟩
    · obtain ⟨v, e⟩ := Int.eq_ofNat_of_zero_le (i.rg 11).1
      refine (layWindowL_any i v e (by omega) h1 g f hgb W h hN).mono fun e' w' ⟨a1, a2, a3⟩ => ⟨a1, a2.congr (fun k _ => ?_), a3⟩
      unfold Pic.windowG Pic.winO Pic.winC
      rw [h1, if_pos rfl, show (p.rg 11 - 7).toNat = 0 by omega, if_pos (by omega), Nat.sub_zero, show (7 - p.rg 11).toNat = 7 - v by omega]
theorem Pic.windowG_b (i : p.In) (k : Nat) : 0 ≤ p.windowG (p.groundF (fun _ => 0)) k ∧ p.windowG (p.groundF (fun _ => 0)) k ≤ 3 := by
  unfold Pic.windowG
  split
  · split
    · exact Pic.num_b i _ _ _
    · exact Pic.groundF_b i k
  · exact Pic.groundF_b i k
end Go.Proofs.Ytmjfccdhjhkocaa
