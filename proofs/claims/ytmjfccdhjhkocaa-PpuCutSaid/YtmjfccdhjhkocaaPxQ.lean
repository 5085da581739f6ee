/- The background's row, and the window's. -/
import Derived.Test.YtmjfccdhjhkocaaPxP
namespace Go.Proofs.Ytmjfccdhjhkocaa
open Go.RowKit
set_option linter.unusedVariables false
variable {b : Nat} {p : Pic}
theorem Pic.mapBy_b (p : Pic) (m : Int) : p.mapBy m = 6144 ∨ p.mapBy m = 7168 := by unfold Pic.mapBy; split; exact Or.inr rfl; exact Or.inl rfl
theorem layI_any (i : p.In) (M : Int) (hM : M = 6144 ∨ M = 7168) (R : Int) (r0 : 0 ≤ R) (r1 : R ≤ 255) (C : Int) (c0 : 0 ≤ C) (c1 : C ≤ 255) (g o n : Nat) (hn : o + n = 160) (f : Nat → Int) (hgb : g ≠ b) (W : World) (h : PxAt W b p) (hN : NmAt W g 160 f) :
    Calls Try.prog 78 #[.pointer (some ⟨b, 0, none⟩), .slice (some ⟨g, o, none⟩) n n, .int .i64 M, .int .u8 R, .int .u8 C] W fun e w' => e = .returned (.tuple #[]) ∧ NmAt w' g 160 (fun k => if o ≤ k then p.num M.toNat R.toNat ((C.toNat + (k - o)) % 256) else f k) ∧ Fr g W w' := by
  obtain ⟨m, rfl⟩ := Int.eq_ofNat_of_zero_le (show 0 ≤ M by omega)
  obtain ⟨r, rfl⟩ := Int.eq_ofNat_of_zero_le r0
  obtain ⟨c, rfl⟩ := Int.eq_ofNat_of_zero_le c0
  exact lay_any i m (by omega) r c (by omega) (by omega) g o n hn f hgb W h hN
def Pic.groundF (p : Pic) (f : Nat → Int) (k : Nat) : Int := if p.has 1 = true then p.num (p.mapBy 8).toNat ((p.rg 4 + p.rg 2) % 256).toNat (((p.rg 3).toNat + k) % 256) else f k
set_option maxRecDepth 100000 in
set_option maxHeartbeats 4000000 in
theorem layGround_any (i : p.In) (g : Nat) (f : Nat → Int) (hgb : g ≠ b) (W : World) (h : PxAt W b p) (hN : NmAt W g 160 f) :
    Calls Try.prog 70 #[.pointer (some ⟨b, 0, none⟩), .pointer (some ⟨g, 0, none⟩)] W fun e w' => e = .returned (.tuple #[]) ∧ NmAt w' g 160 (p.groundF f) ∧ Fr g W w' := by
  have k2 : W.cell? ⟨b, 8354, none⟩ = some (.int .u8 (p.rg 2)) := h.reg 2 (by decide)
  have k3 : W.cell? ⟨b, 8355, none⟩ = some (.int .u8 (p.rg 3)) := h.reg 3 (by decide)
  have k4 : W.cell? ⟨b, 8356, none⟩ = some (.int .u8 (p.rg 4)) := h.reg 4 (by decide)
  have HA : Hid (∀ W, PxAt W b p → Calls Try.prog 48 #[.pointer (some ⟨b, 0, none⟩), .int .u8 1] W fun e w' => e = .returned (.bool (p.has 1)) ∧ w' = W) := fun W h => has_any 1 W h
  have HM : Hid (∀ W, PxAt W b p → Calls Try.prog 79 #[.pointer (some ⟨b, 0, none⟩), .int .u8 8] W fun e w' => e = .returned (.int .i64 (p.mapBy 8)) ∧ w' = W) := fun W h => mapBy_any 8 W h
  have HP : Hid (PxAt W b p ∧ NmAt W g 160 f) := And.intro h hN
  have HI : Hid p.In := i
  obtain ⟨c0, c1⟩ := i.rg 3
  obtain ⟨l0, l1⟩ := i.rg 4
  obtain ⟨s0, s1⟩ := i.rg 2
  clear h hN i
  unfold Pic.groundF
  generalize p.has 1 = B at *
  cases B
  · go_enter Try.func70, Try.ntmps70
    go_wp2_with fail
    refine (HA.out _ HP.out.1).mono ?_
    rintro e w' ⟨rfl, hw'⟩
    obtain rfl := hw'.symm
    go_wp2_with fail
    refine bodyPost_ret (results_none rfl _ _ _) rfl ?_
    exact ⟨rfl, HP.out.2, Fr.refl g W⟩
  · go_enter Try.func70, Try.ntmps70
    go_wp2_with fail
    refine (HA.out _ HP.out.1).mono ?_
    rintro e w' ⟨rfl, hw'⟩
    obtain rfl := hw'.symm
    go_wp2_with fail
    refine wp_still2 22 (by kernel_rfl) (by kernel_rfl) ?_
    intro w1 hw1
    have u1 : Up W w1 := by rw [hw1]; exact (Up.refl _).drew
    have h1 : PxAt w1 b p := HP.out.1.up u1
    have k2 : w1.cell? ⟨b, 8354, none⟩ = some (.int .u8 (p.rg 2)) := h1.reg 2 (by decide)
    have k3 : w1.cell? ⟨b, 8355, none⟩ = some (.int .u8 (p.rg 3)) := h1.reg 3 (by decide)
    have k4 : w1.cell? ⟨b, 8356, none⟩ = some (.int .u8 (p.rg 4)) := h1.reg 4 (by decide)
    have H1 : Hid _ := And.intro h1 (And.intro (HP.out.2.of_block (u1.block _ HP.out.2.lt)) u1)
    clear hw1 h1 u1
    simp only [List.take_succ_cons, List.take_zero, List.drop_succ_cons, List.drop_zero]
    repeat (go_big_quiet_step (fail))
    go_big_quiet_want
    go_big_quiet_op
    refine ⟨_, HM.out _ H1.out.1, ?_⟩
    go_big_quiet_on
    repeat (go_big_quiet_step (fail))
    refine wpQuiet_nil ?_
    go_wp2_with fail
    refine (layI_any HI.out (p.mapBy 8) (p.mapBy_b 8) ((p.rg 4 + p.rg 2) % 256) (by omega) (by omega) (p.rg 3) c0 c1 g 0 160 rfl f hgb w1 H1.out.1 H1.out.2.1).mono ?_
    rintro e w2 ⟨rfl, h2, F2⟩
    have H2 : Hid _ := And.intro (h2.congr (f' := fun k => p.num (p.mapBy 8).toNat ((p.rg 4 + p.rg 2) % 256).toNat (((p.rg 3).toNat + k) % 256)) (fun k _ => by rw [if_pos (by omega), Nat.sub_zero])) ((Fr.ofUp H1.out.2.2).trans F2)
    clear h2 F2
    go_wp2_with fail
    go_end0
    exact ⟨rfl, H2.out⟩
end Go.Proofs.Ytmjfccdhjhkocaa
