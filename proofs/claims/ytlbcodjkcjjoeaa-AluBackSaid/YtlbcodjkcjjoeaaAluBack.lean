/- Proved: for every three ints the law AluBack answers true (SUB undoes ADD, SBC undoes ADC with the same carry, carries are borrows, CP is SUB without its result, XOR twice is nothing). No condition. -/
import Derived.Test.YtlbcodjkcjjoeaaRows
import Derived.Test.YtlbcodjkcjjoeaaAlu
import Derived.WalkKit
import Derived.ProofKit
import Derived.OpenShut
namespace Go.Proofs.Ytlbcodjkcjjoeaa.aluBack
open Go.ChangeShapes Go.WideShapes Go.ChangeAt Go.RowKit
set_option linter.unusedVariables false      -- a walk need not use every 'w<i>' (that an integer argument fits its kind)

theorem own : ownKnob Try.prog.godebug = none := by kernel_rfl

theorem ar0 (x y f : Int) : arF 0 x y f = flg ((x + y + 0) % 256 == 0) false (decide (15 < x % 16 + y % 16 + 0)) (decide (255 < x + y + 0)) := rfl
theorem ar1 (x y f : Int) : arF 1 x y f = flg ((x + y + cof f) % 256 == 0) false (decide (15 < x % 16 + y % 16 + cof f)) (decide (255 < x + y + cof f)) := rfl
theorem ar2 (x y f : Int) : arF 2 x y f = flg ((x - y - 0) % 256 == 0) true (decide (x % 16 < y % 16 + 0)) (decide (x < y + 0)) := rfl
theorem ar3 (x y f : Int) : arF 3 x y f = flg ((x - y - cof f) % 256 == 0) true (decide (x % 16 < y % 16 + cof f)) (decide (x < y + cof f)) := rfl
theorem sR (x y f : Int) : arR 0 x y f = (x + y + 0) % 256 := rfl
theorem aR (x y f : Int) : arR 1 x y f = (x + y + cof f) % 256 := rfl
theorem dR (x y f : Int) : arR 2 x y f = (x - y - 0) % 256 := rfl
theorem bR (x y f : Int) : arR 3 x y f = (x - y - cof f) % 256 := rfl
theorem t1 (x y : Int) (h0 : 0 ≤ x) (h1 : x ≤ 255) (h2 : 0 ≤ y) (h3 : y ≤ 255) : (arR 2 (arR 0 x y 0) y 0 == x) = true := by
  rw [beq_iff_eq, sR, dR]; omega
theorem t2 (x y c : Int) (h0 : 0 ≤ x) (h1 : x ≤ 255) (h2 : 0 ≤ y) (h3 : y ≤ 255) : (arR 3 (arR 1 x y c) y c == x) = true := by
  rw [beq_iff_eq, aR, bR]; omega
theorem t3 (x y : Int) (h0 : 0 ≤ x) (h1 : x ≤ 255) (h2 : 0 ≤ y) (h3 : y ≤ 255) : (bits .and .u8 (arF 0 x y 0) 48 == bits .and .u8 (arF 2 (arR 0 x y 0) y 0) 48) = true := by
  rw [beq_iff_eq, ar0, ar2, sR, andF48, andF48]
  exact flg_congr rfl rfl (decEq (by omega)) (decEq (by omega))
theorem t4 (x y c : Int) (h0 : 0 ≤ x) (h1 : x ≤ 255) (h2 : 0 ≤ y) (h3 : y ≤ 255) : (bits .and .u8 (arF 1 x y c) 48 == bits .and .u8 (arF 3 (arR 1 x y c) y c) 48) = true := by
  have k0 := cof_lo c
  have k1 := cof_hi c
  rw [beq_iff_eq, ar1, ar3, aR, andF48, andF48]
  generalize cof c = k at *
  exact flg_congr rfl rfl (decEq (by omega)) (decEq (by omega))
theorem t5 (x y : Int) : (bits .and .u8 (arF 2 (arR 0 x y 0) y 0) 64 != 0) = true := by
  rw [ar2, andF64]; decide
theorem t6 (x y : Int) : (arR 7 (arR 0 x y 0) y 0 == arR 0 x y 0) = true := by rw [beq_iff_eq]; rfl
theorem t7 (x y : Int) : (arF 7 (arR 0 x y 0) y 0 == arF 2 (arR 0 x y 0) y 0) = true := by rw [beq_iff_eq]; rfl
theorem t8 (x y : Int) (h0 : 0 ≤ x) (h1 : x ≤ 255) (h2 : 0 ≤ y) (h3 : y ≤ 255) : (arR 5 (arR 5 x y 0) y 0 == x) = true := by
  rw [beq_iff_eq]
  show bits .xor .u8 (bits .xor .u8 x y) y = x
  rw [u8_xor (bits .xor .u8 x y) y (u8_lo _ _ _) (by have := u8_hi .xor x y; omega) h2 (by omega), u8_xor x y h0 (by omega) h2 (by omega), Int.toNat_natCast, Nat.xor_assoc, Nat.xor_self, Nat.xor_zero]
  omega
theorem t9 (x y : Int) (h0 : 0 ≤ x) (h1 : x ≤ 255) (h2 : 0 ≤ y) (h3 : y ≤ 255) : (arR 0 x y 0 + bits .and .u8 (arF 0 x y 0) 16 * 16 == x + y) = true := by
  rw [beq_iff_eq, ar0, andF16, sR, ← flg_c]
  by_cases h : 255 < x + y + 0
  · rw [decide_eq_true h]; show _ + 16 * 16 = _; omega
  · rw [decide_eq_false h]; show _ + 0 * 16 = _; omega
set_option maxHeartbeats 2000000 in
theorem walk (a0 : Int) (a1 : Int) (a2 : Int) (w0 : (Lit.int .i64 a0).wf = true) (w1 : (Lit.int .i64 a1).wf = true) (w2 : (Lit.int .i64 a2).wf = true) (w : World) :
    Calls Try.prog 3 #[.int .i64 a0, .int .i64 a1, .int .i64 a2] w fun e w' => e = .returned (.bool true) ∧ Grown w w' := by
  have k1 := t1 (a0 % 256) (a1 % 256) (by omega) (by omega) (by omega) (by omega)
  have k2 := t2 (a0 % 256) (a1 % 256) (bits .and .u8 (a2 % 256) 16) (by omega) (by omega) (by omega) (by omega)
  have k3 := t3 (a0 % 256) (a1 % 256) (by omega) (by omega) (by omega) (by omega)
  have k4 := t4 (a0 % 256) (a1 % 256) (bits .and .u8 (a2 % 256) 16) (by omega) (by omega) (by omega) (by omega)
  have k5 := t5 (a0 % 256) (a1 % 256)
  have k6 := t6 (a0 % 256) (a1 % 256)
  have k7 := t7 (a0 % 256) (a1 % 256)
  have k8 := t8 (a0 % 256) (a1 % 256) (by omega) (by omega) (by omega) (by omega)
  have k9 := t9 (a0 % 256) (a1 % 256) (by omega) (by omega) (by omega) (by omega)
  have c0 := u8_lo .and (a2 % 256) 16
  have c1 := u8_hi .and (a2 % 256) 16
  have e0 := u8_lo .and (arF 0 (a0 % 256) (a1 % 256) 0) 16
  have e1 := u8_hi .and (arF 0 (a0 % 256) (a1 % 256) 0) 16
  have s0 := arR_lo 0 (a0 % 256) (a1 % 256) 0 (by omega)
  have s1 := arR_hi 0 (a0 % 256) (a1 % 256) 0 (by omega)
  have u0 := arR_lo 1 (a0 % 256) (a1 % 256) (bits .and .u8 (a2 % 256) 16) (by omega)
  have u1 := arR_hi 1 (a0 % 256) (a1 % 256) (bits .and .u8 (a2 % 256) 16) (by omega)
  have m0 := arR_lo 5 (a0 % 256) (a1 % 256) 0 (by omega)
  have m1 := arR_hi 5 (a0 % 256) (a1 % 256) 0 (by omega)
  go_enter Try.func3, Try.ntmps3
  go_wp2_with (first | (go_at_call 7; refine (arith_any _ _ _ _ _ (by omega) (by omega) (by omega) (by omega) (by omega) (by omega)).mono ?_; rintro e w' ⟨rfl, hg⟩))
  go_ret
  exact ⟨retb (by first | rfl | assumption), by repeat (first | assumption | refine Grown.step ?_ (by assumption))⟩

/-! ### THE ROW's STEP: WRITTEN OUT: LEAVE IT -/
set_option maxRecDepth 100000 in
theorem lifted (os : Os) (started : os.Started) (H : Type) (enc : TypeId × Value → H) :
    ReturnsInHanded {} Try.checked os 3 .any (Rows.aluBackSpec.pre6 enc Try.prog Try.f3 Rows.aluBackRow.domain false) (Rows.aluBackSpec.post enc Try.prog Try.f3 false true false false) := by
  refine returnsInHanded_of_change (C := Try.checked) own started (by kernel_rfl) Try.func3
    (ChangeSpec.witness6 (enc := enc) (C := Try.checked) false ⟨#[], #[.int .i64 0, .int .i64 0, .int .i64 0], []⟩ 8 (by kernel_rfl) (by kernel_rfl) (by kernel_rfl) (by kernel_rfl)) ?_
  intro W base args ds gs before hval0 hW hcnd _
  have hval : ∀ (j : Nat) t v, Try.f3.params[j]? = some t → args[j]? = some v → Value.okWide Try.prog W .any base t v := hval0
  have hW' := hW
  obtain ⟨p, q, hA0, hV, rfl, hfz, hnd⟩ := hW
  have hA : DataW.TrodAll enc Try.prog W 0 (fun _ => true) true Try.f3.params.toList args.toList ds p := hA0
  rw [Try.params3] at hA hval
  obtain ⟨v0, vs0, d0, ds0, p0, q0, hargs, rfl, rfl, h0, r0⟩ := trodAll_cons hA
  obtain ⟨v1, vs1, d1, ds1, p1, q1, rfl, rfl, rfl, h1, r1⟩ := trodAll_cons r0
  obtain ⟨v2, vs2, d2, ds2, p2, q2, rfl, rfl, rfl, h2, r2⟩ := trodAll_cons r1
  obtain ⟨rfl, rfl, rfl⟩ := trodAll_nil r2
  obtain rfl : args = #[v0, v1, v2] := by cases args; simp_all
  obtain ⟨rfl, rfl⟩ := trodVars_none hV
  obtain ⟨a0, rfl, rfl, rfl, w0⟩ := open_int Try.underlying3 (hval 0 3 v0 rfl rfl) h0
  obtain ⟨a1, rfl, rfl, rfl, w1⟩ := open_int Try.underlying3 (hval 1 3 v1 rfl rfl) h1
  obtain ⟨a2, rfl, rfl, rfl, w2⟩ := open_int Try.underlying3 (hval 2 3 v2 rfl rfl) h2
  clear hA0 hval0
  simp only [List.append_nil] at hW'
  refine (walk a0 a1 a2 w0 w1 w2 W).mono fun e W' ⟨he, hg⟩ => ?_
  subst he
  exact ⟨_, rfl, post_of_same (pa := []) (pv := []) hW' (fun _ _ _ => (trodAll_cons_mk (shut_bool Try.underlying4 _) trodAll_mk0)) (fun sp _ => (trodAll_cons_mk (shut_int Try.underlying3 w0) (trodAll_cons_mk (shut_int Try.underlying3 w1) (trodAll_cons_mk (shut_int Try.underlying3 w2) trodAll_mk0)))) (fun _ _ => rfl) rfl
    (hg.frame _) hg.2.1 (ok_one (by kernel_rfl) rfl (okWide_bool_mk Try.underlying4 _))⟩

theorem over : Rows.aluBackRow.holds Try.pinned (OpenSpec.ofChange Rows.aluBackSpec) :=
  OpenClaim.holds_of_wide 3 Try.f3 rfl rfl rfl rfl rfl rfl rfl ⟨rfl, rfl, rfl, rfl, rfl⟩ rfl rfl rfl rfl rfl (by kernel_rfl) Try.func3 (by kernel_rfl)
    (of_decide_eq_true (by kernel_rfl)) (by unfold Func.isWrapper; first | (rw [if_pos (by decide +kernel)]; kernel_rfl) | (rw [if_neg (by decide +kernel)]; exact ⟨rfl, rfl⟩))
    (fun os started H enc _ => lifted os started H enc)

/-- ████ THE STATEMENT ████ -/
theorem proved : Rows.AluBackSaid :=
  over
end Go.Proofs.Ytlbcodjkcjjoeaa.aluBack
namespace Go.Proofs.Ytlbcodjkcjjoeaa
theorem aluBack_proved : Rows.AluBackSaid := aluBack.proved
#print axioms aluBack_proved
end Go.Proofs.Ytlbcodjkcjjoeaa
