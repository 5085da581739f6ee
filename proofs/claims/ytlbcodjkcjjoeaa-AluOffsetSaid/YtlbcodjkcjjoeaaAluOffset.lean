/- Proved: for every two ints the law AluOffset answers true (AddOffset goes up and down as the document says, there and back, with the flags of the low bytes' sum). No condition. -/
import Derived.Test.YtlbcodjkcjjoeaaRows
import Derived.Test.YtlbcodjkcjjoeaaAlu
import Derived.WalkKit
import Derived.ProofKit
import Derived.OpenShut
namespace Go.Proofs.Ytlbcodjkcjjoeaa.aluOffset
open Go.ChangeShapes Go.WideShapes Go.ChangeAt Go.RowKit
set_option linter.unusedVariables false      -- a walk need not use every 'w<i>' (that an integer argument fits its kind)

theorem own : ownKnob Try.prog.godebug = none := by kernel_rfl

theorem u16_lo (a : Int) : 0 ≤ IntKind.u16.wrap a := by rw [IntKind.wrap_u16]; omega
theorem u16_hi (a : Int) : IntKind.u16.wrap a ≤ 65535 := by rw [IntKind.wrap_u16]; omega
theorem ofR_lo (s e : Int) : 0 ≤ ofR s e := by unfold ofR; omega
theorem ofR_hi (s e : Int) : ofR s e ≤ 65535 := by unfold ofR; omega
theorem t1a (x y : Int) (h : 127 < y) : (ofR x y == (x + (y - 256)) % 65536) = true := by
  unfold ofR; rw [if_pos h, beq_iff_eq]; omega
theorem t1b (x y : Int) (h : ¬ 127 < y) : (ofR x y == (x + y) % 65536) = true := by
  unfold ofR; rw [if_neg h, beq_iff_eq]; omega
theorem t2 (x y : Int) : (ofR x y % 256 == arR 0 (x % 256) y 0) = true := by
  unfold ofR arR sumR; rw [beq_iff_eq]; split <;> simp <;> omega
theorem and48 (z n h c : Bool) : bits .and .u8 (flg z n h c) 48 = flg false false h c := by
  cases z <;> cases n <;> cases h <;> cases c <;> decide +kernel
theorem t3 (x y : Int) : (ofF x y == bits .and .u8 (arF 0 (x % 256) y 0) 48) = true := by
  unfold ofF arF sumF
  rw [if_pos rfl, and48, show x % 256 % 16 = x % 16 from by omega, Int.add_zero, Int.add_zero, beq_iff_eq]
theorem t5 (x y e : Int) (h0 : 0 ≤ x) (h1 : x ≤ 65535) (h2 : 0 ≤ y) (h3 : y ≤ 255) (h : ¬ y = 128) (g0 : 0 ≤ e) (g1 : e ≤ 255) (g2 : (e + y) % 256 = 0) : (ofR (ofR x y) e == x) = true := by
  unfold ofR; rw [beq_iff_eq]; split <;> split <;> omega
theorem retb {b : Bool} (h : b = true) : Ending.returned (.bool b) = .returned (.bool true) := by rw [h]
set_option maxHeartbeats 2000000 in
theorem walk (a0 : Int) (a1 : Int) (w0 : (Lit.int .i64 a0).wf = true) (w1 : (Lit.int .i64 a1).wf = true) (w : World) :
    Calls Try.prog 5 #[.int .i64 a0, .int .i64 a1] w fun e w' => e = .returned (.bool true) ∧ Grown w w' := by
  have x0 := u16_lo a0
  have x1 := u16_hi a0
  have s0 := ofR_lo (IntKind.u16.wrap a0) (a1 % 256)
  have s1 := ofR_hi (IntKind.u16.wrap a0) (a1 % 256)
  have k2 := t2 (IntKind.u16.wrap a0) (a1 % 256)
  have k3 := t3 (IntKind.u16.wrap a0) (a1 % 256)
  by_cases h : 127 < a1 % 256
  · have k1 := t1a (IntKind.u16.wrap a0) (a1 % 256) h
    by_cases h4 : a1 % 256 = 128
    · have k4 : (a1 % 256 == 128) = true := beq_iff_eq.2 h4
      clear h4
      go_enter Try.func5, Try.ntmps5
      go_wp2_with (first | (go_at_call 9; refine (addoffset_any _ _ _ (by omega) (by omega) (by omega) (by omega)).mono ?_; rintro e w' ⟨rfl, rfl⟩) | (go_at_call 7; refine (arith_any _ _ _ _ _ (by omega) (by omega) (by omega) (by omega) (by omega) (by omega)).mono ?_; rintro e w' ⟨rfl, hg⟩))
      go_ret
      exact ⟨rfl, hg⟩
    · have k4 : (a1 % 256 == 128) = false := beq_eq_false_iff_ne.2 h4
      have K5 : Hid (∀ e : Int, 0 ≤ e → e ≤ 255 → (e + a1 % 256) % 256 = 0 → (ofR (ofR (IntKind.u16.wrap a0) (a1 % 256)) e == IntKind.u16.wrap a0) = true) := fun e => t5 (IntKind.u16.wrap a0) (a1 % 256) e x0 x1 (by omega) (by omega) h4
      clear h4
      go_enter Try.func5, Try.ntmps5
      go_wp2_with (first | (go_at_call 9; refine (addoffset_any _ _ _ (by omega) (by omega) (by omega) (by omega)).mono ?_; rintro e w' ⟨rfl, rfl⟩) | (go_at_call 7; refine (arith_any _ _ _ _ _ (by omega) (by omega) (by omega) (by omega) (by omega) (by omega)).mono ?_; rintro e w' ⟨rfl, hg⟩))
      go_ret
      exact ⟨retb (K5.out _ (by omega) (by omega) (by omega)), hg⟩
  · have k1 := t1b (IntKind.u16.wrap a0) (a1 % 256) h
    have h4 : ¬ a1 % 256 = 128 := by omega
    have k4 : (a1 % 256 == 128) = false := beq_eq_false_iff_ne.2 h4
    have K5 : Hid (∀ e : Int, 0 ≤ e → e ≤ 255 → (e + a1 % 256) % 256 = 0 → (ofR (ofR (IntKind.u16.wrap a0) (a1 % 256)) e == IntKind.u16.wrap a0) = true) := fun e => t5 (IntKind.u16.wrap a0) (a1 % 256) e x0 x1 (by omega) (by omega) h4
    clear h4
    go_enter Try.func5, Try.ntmps5
    go_wp2_with (first | (go_at_call 9; refine (addoffset_any _ _ _ (by omega) (by omega) (by omega) (by omega)).mono ?_; rintro e w' ⟨rfl, rfl⟩) | (go_at_call 7; refine (arith_any _ _ _ _ _ (by omega) (by omega) (by omega) (by omega) (by omega) (by omega)).mono ?_; rintro e w' ⟨rfl, hg⟩))
    go_ret
    exact ⟨retb (K5.out _ (by omega) (by omega) (by omega)), hg⟩

/-! ### THE ROW's STEP: WRITTEN OUT: LEAVE IT -/
set_option maxRecDepth 100000 in
theorem lifted (os : Os) (started : os.Started) (H : Type) (enc : TypeId × Value → H) :
    ReturnsInHanded {} Try.checked os 5 .any (Rows.aluOffsetSpec.pre6 enc Try.prog Try.f5 Rows.aluOffsetRow.domain false) (Rows.aluOffsetSpec.post enc Try.prog Try.f5 false true false false) := by
  refine returnsInHanded_of_change (C := Try.checked) own started (by kernel_rfl) Try.func5
    (ChangeSpec.witness6 (enc := enc) (C := Try.checked) false ⟨#[], #[.int .i64 0, .int .i64 0], []⟩ 8 (by kernel_rfl) (by kernel_rfl) (by kernel_rfl) (by kernel_rfl)) ?_
  intro W base args ds gs before hval0 hW hcnd _
  have hval : ∀ (j : Nat) t v, Try.f5.params[j]? = some t → args[j]? = some v → Value.okWide Try.prog W .any base t v := hval0
  have hW' := hW
  obtain ⟨p, q, hA0, hV, rfl, hfz, hnd⟩ := hW
  have hA : DataW.TrodAll enc Try.prog W 0 (fun _ => true) true Try.f5.params.toList args.toList ds p := hA0
  rw [Try.params5] at hA hval
  obtain ⟨v0, vs0, d0, ds0, p0, q0, hargs, rfl, rfl, h0, r0⟩ := trodAll_cons hA
  obtain ⟨v1, vs1, d1, ds1, p1, q1, rfl, rfl, rfl, h1, r1⟩ := trodAll_cons r0
  obtain ⟨rfl, rfl, rfl⟩ := trodAll_nil r1
  obtain rfl : args = #[v0, v1] := by cases args; simp_all
  obtain ⟨rfl, rfl⟩ := trodVars_none hV
  obtain ⟨a0, rfl, rfl, rfl, w0⟩ := open_int Try.underlying3 (hval 0 3 v0 rfl rfl) h0
  obtain ⟨a1, rfl, rfl, rfl, w1⟩ := open_int Try.underlying3 (hval 1 3 v1 rfl rfl) h1
  clear hA0 hval0
  simp only [List.append_nil] at hW'
  refine (walk a0 a1 w0 w1 W).mono fun e W' ⟨he, hg⟩ => ?_
  subst he
  exact ⟨_, rfl, post_of_same (pa := []) (pv := []) hW' (fun _ _ _ => (trodAll_cons_mk (shut_bool Try.underlying4 _) trodAll_mk0)) (fun sp _ => (trodAll_cons_mk (shut_int Try.underlying3 w0) (trodAll_cons_mk (shut_int Try.underlying3 w1) trodAll_mk0))) (fun _ _ => rfl) rfl
    (hg.frame _) hg.2.1 (ok_one (by kernel_rfl) rfl (okWide_bool_mk Try.underlying4 _))⟩

theorem over : Rows.aluOffsetRow.holds Try.pinned (OpenSpec.ofChange Rows.aluOffsetSpec) :=
  OpenClaim.holds_of_wide 5 Try.f5 rfl rfl rfl rfl rfl rfl rfl ⟨rfl, rfl, rfl, rfl, rfl⟩ rfl rfl rfl rfl rfl (by kernel_rfl) Try.func5 (by kernel_rfl)
    (of_decide_eq_true (by kernel_rfl)) (by unfold Func.isWrapper; first | (rw [if_pos (by decide +kernel)]; kernel_rfl) | (rw [if_neg (by decide +kernel)]; exact ⟨rfl, rfl⟩))
    (fun os started H enc _ => lifted os started H enc)

/-- ████ THE STATEMENT ████ -/
theorem proved : Rows.AluOffsetSaid :=
  over
end Go.Proofs.Ytlbcodjkcjjoeaa.aluOffset
namespace Go.Proofs.Ytlbcodjkcjjoeaa
theorem aluOffset_proved : Rows.AluOffsetSaid := aluOffset.proved
#print axioms aluOffset_proved
end Go.Proofs.Ytlbcodjkcjjoeaa
