/- Proved: for every two ints the law AluSteps answers true (Step goes up and down, as ADD and SUB of 1 in all but C; an op that is none does nothing). No condition. -/
import Derived.Test.YtlbcodjkcjjoeaaRows
import Derived.Test.YtlbcodjkcjjoeaaAlu
import Derived.WalkKit
import Derived.ProofKit
import Derived.OpenShut
namespace Go.Proofs.Ytlbcodjkcjjoeaa.aluSteps
open Go.ChangeShapes Go.WideShapes Go.ChangeAt Go.RowKit
set_option linter.unusedVariables false      -- a walk need not use every 'w<i>' (that an integer argument fits its kind)

theorem own : ownKnob Try.prog.godebug = none := by kernel_rfl

theorem st0 (x g : Int) : stF 0 x g = flg ((x + 1) % 256 == 0) false ((x + 1) % 16 == 0) (cof g == 1) := rfl
theorem st1 (x g : Int) : stF 1 x g = flg ((x - 1) % 256 == 0) true ((x - 1) % 16 == 15) (cof g == 1) := rfl
theorem t1 (x g : Int) (h0 : 0 ≤ x) (h1 : x ≤ 255) : (stR 1 (stR 0 x g) (stF 0 x g) == x) = true := by
  rw [beq_iff_eq]; show ((x + 1) % 256 - 1) % 256 = x; omega
theorem t2 (x g : Int) (h0 : 0 ≤ g) (h1 : g ≤ 255) : (bits .and .u8 (stF 1 (stR 0 x g) (stF 0 x g)) 16 == bits .and .u8 g 16) = true := by
  rw [beq_iff_eq, st1, st0, andF16, cof_flg1, and16 g h0 h1, flg_c]
theorem t3 (x g : Int) (h0 : 0 ≤ g) (h1 : g ≤ 255) : (bits .and .u8 (stF 0 x g) 16 == bits .and .u8 g 16) = true := by
  rw [beq_iff_eq, st0, andF16, and16 g h0 h1, flg_c]
theorem t4 (x g : Int) : (stR 0 x g == arR 0 x 1 0) = true := by
  rw [beq_iff_eq]; show (x + 1) % 256 = (x + 1 + 0) % 256; omega
theorem t5 (x g : Int) : (bits .and .u8 (stF 0 x g) 224 == bits .and .u8 (arF 0 x 1 0) 224) = true := by
  rw [beq_iff_eq, st0, show arF 0 x 1 0 = flg ((x + 1 + 0) % 256 == 0) false (decide (15 < x % 16 + 1 % 16 + 0)) (decide (255 < x + 1 + 0)) from rfl, andF224, andF224]
  exact flg_congr (beqBeq (by omega)) rfl (beqDec (by omega)) rfl
theorem t6 (x g : Int) : (stR 1 x g == arR 2 x 1 0) = true := by
  rw [beq_iff_eq]; show (x - 1) % 256 = (x - 1 - 0) % 256; omega
theorem t7 (x g : Int) : (bits .and .u8 (stF 1 x g) 224 == bits .and .u8 (arF 2 x 1 0) 224) = true := by
  rw [beq_iff_eq, st1, show arF 2 x 1 0 = flg ((x - 1 - 0) % 256 == 0) true (decide (x % 16 < 1 % 16 + 0)) (decide (x < 1 + 0)) from rfl, andF224, andF224]
  exact flg_congr (beqBeq (by omega)) rfl (beqDec (by omega)) rfl
theorem t8 (x g : Int) (h0 : 0 ≤ g) (h1 : g ≤ 255) : (bits .and .u8 (stF 1 x g) 31 == bits .and .u8 g 16) = true := by
  rw [beq_iff_eq, st1, andF31, and16 g h0 h1, flg_c]
theorem t9 (n x g : Int) (h : 0 ≤ n) : (stR (2 + n) x g == x) = true := by rw [beq_iff_eq, stR_none _ _ _ (by omega)]
theorem t10 (n x g : Int) (h : 0 ≤ n) (h0 : 0 ≤ g) (h1 : g ≤ 255) : (stF (2 + n) x g == bits .and .u8 g 240) = true := by rw [beq_iff_eq, stF_none _ _ _ (by omega), and240 g h0 h1]
set_option maxHeartbeats 2000000 in
theorem walk (a0 : Int) (a1 : Int) (w0 : (Lit.int .i64 a0).wf = true) (w1 : (Lit.int .i64 a1).wf = true) (w : World) :
    Calls Try.prog 6 #[.int .i64 a0, .int .i64 a1] w fun e w' => e = .returned (.bool true) ∧ Grown w w' := by
  obtain ⟨b0, b1⟩ := bounds_i64 w0
  have u0 := stR_lo 0 (a0 % 256) (a1 % 256) (by omega)
  have u1 := stR_hi 0 (a0 % 256) (a1 % 256) (by omega)
  have p0 := stF_lo 0 (a0 % 256) (a1 % 256) (by omega)
  have p1 := stF_hi 0 (a0 % 256) (a1 % 256) (by omega)
  have q0 := pickI_lo a0 1099511627776 (by omega)
  have q1 := pickI_hi a0 1099511627776 (by omega)
  have k1 := t1 (a0 % 256) (a1 % 256) (by omega) (by omega)
  have k2 := t2 (a0 % 256) (a1 % 256) (by omega) (by omega)
  have k3 := t3 (a0 % 256) (a1 % 256) (by omega) (by omega)
  have k4 := t4 (a0 % 256) (a1 % 256)
  have k5 := t5 (a0 % 256) (a1 % 256)
  have k6 := t6 (a0 % 256) (a1 % 256)
  have k7 := t7 (a0 % 256) (a1 % 256)
  have k8 := t8 (a0 % 256) (a1 % 256) (by omega) (by omega)
  have k9 := t9 (pickI a0 1099511627776) (a0 % 256) (a1 % 256) q0
  have k10 := t10 (pickI a0 1099511627776) (a0 % 256) (a1 % 256) q0 (by omega) (by omega)
  go_enter Try.func6, Try.ntmps6
  go_wp2_with (first | (go_at_call 10; refine (step_any _ _ _ _ (by omega) (by omega) (by omega) (by omega)).mono ?_; rintro e w' ⟨rfl, hg⟩) | (go_at_call 7; refine (arith_any _ _ _ _ _ (by omega) (by omega) (by omega) (by omega) (by omega) (by omega)).mono ?_; rintro e w' ⟨rfl, hg⟩) | (go_at_call 11; refine (pick_any _ _ _ (by omega) (by omega) (by omega) (by omega)).mono ?_; rintro e w' ⟨rfl, rfl⟩))
  go_ret
  exact ⟨retb (by first | rfl | assumption), by repeat (first | assumption | refine Grown.step ?_ (by assumption))⟩

/-! ### THE ROW's STEP: WRITTEN OUT: LEAVE IT -/
set_option maxRecDepth 100000 in
theorem lifted (os : Os) (started : os.Started) (H : Type) (enc : TypeId × Value → H) :
    ReturnsInHanded {} Try.checked os 6 .any (Rows.aluStepsSpec.pre6 enc Try.prog Try.f6 Rows.aluStepsRow.domain false) (Rows.aluStepsSpec.post enc Try.prog Try.f6 false true false false) := by
  refine returnsInHanded_of_change (C := Try.checked) own started (by kernel_rfl) Try.func6
    (ChangeSpec.witness6 (enc := enc) (C := Try.checked) false ⟨#[], #[.int .i64 0, .int .i64 0], []⟩ 8 (by kernel_rfl) (by kernel_rfl) (by kernel_rfl) (by kernel_rfl)) ?_
  intro W base args ds gs before hval0 hW hcnd _
  have hval : ∀ (j : Nat) t v, Try.f6.params[j]? = some t → args[j]? = some v → Value.okWide Try.prog W .any base t v := hval0
  have hW' := hW
  obtain ⟨p, q, hA0, hV, rfl, hfz, hnd⟩ := hW
  have hA : DataW.TrodAll enc Try.prog W 0 (fun _ => true) true Try.f6.params.toList args.toList ds p := hA0
  rw [Try.params6] at hA hval
  obtain ⟨v0, vs0, d0, ds0, p0, q0, hargs, rfl, rfl, h0, r0⟩ := trodAll_cons hA
  obtain ⟨v1, vs1, d1, ds1, p1, q1, rfl, rfl, rfl, h1, r1⟩ := trodAll_cons r0
  obtain ⟨rfl, rfl, rfl⟩ := trodAll_nil r1
  obtain rfl : args = #[v0, v1] := by cases args; simp_all
  obtain ⟨rfl, rfl⟩ := trodVars_none hV
  obtain ⟨a0, rfl, rfl, rfl, w0⟩ := open_int Try.underlying3 (hval 0 3 v0 rfl rfl) h0
  obtain ⟨a1, rfl, rfl, rfl, w1⟩ := open_int Try.underlying3 (hval 1 3 v1 rfl rfl) h1
  clear hA0 hval0
  simp only [List.append_nil] at hW'
  refine (walk a0 a1 w0 w1 W).mono fun e W' ⟨he, hg⟩ => ?_
  subst he
  exact ⟨_, rfl, post_of_same (pa := []) (pv := []) hW' (fun _ _ _ => (trodAll_cons_mk (shut_bool Try.underlying4 _) trodAll_mk0)) (fun sp _ => (trodAll_cons_mk (shut_int Try.underlying3 w0) (trodAll_cons_mk (shut_int Try.underlying3 w1) trodAll_mk0))) (fun _ _ => rfl) rfl
    (hg.frame _) hg.2.1 (ok_one (by kernel_rfl) rfl (okWide_bool_mk Try.underlying4 _))⟩

theorem over : Rows.aluStepsRow.holds Try.pinned (OpenSpec.ofChange Rows.aluStepsSpec) :=
  OpenClaim.holds_of_wide 6 Try.f6 rfl rfl rfl rfl rfl rfl rfl ⟨rfl, rfl, rfl, rfl, rfl⟩ rfl rfl rfl rfl rfl (by kernel_rfl) Try.func6 (by kernel_rfl)
    (of_decide_eq_true (by kernel_rfl)) (by unfold Func.isWrapper; first | (rw [if_pos (by decide +kernel)]; kernel_rfl) | (rw [if_neg (by decide +kernel)]; exact ⟨rfl, rfl⟩))
    (fun os started H enc _ => lifted os started H enc)

/-- ████ THE STATEMENT ████ -/
theorem proved : Rows.AluStepsSaid :=
  over
end Go.Proofs.Ytlbcodjkcjjoeaa.aluSteps
namespace Go.Proofs.Ytlbcodjkcjjoeaa
theorem aluSteps_proved : Rows.AluStepsSaid := aluSteps.proved
#print axioms aluSteps_proved
end Go.Proofs.Ytlbcodjkcjjoeaa
