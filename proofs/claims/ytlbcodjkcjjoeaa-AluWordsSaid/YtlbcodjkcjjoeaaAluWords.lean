/- Proved: for every three ints the law AluWords answers true (words are added, and taken away, by halves and what carries over). No condition. -/
import Derived.Test.YtlbcodjkcjjoeaaRows
import Derived.Test.YtlbcodjkcjjoeaaAlu
import Derived.WalkKit
import Derived.ProofKit
import Derived.OpenShut
namespace Go.Proofs.Ytlbcodjkcjjoeaa.aluWords
open Go.ChangeShapes Go.WideShapes Go.ChangeAt Go.RowKit
set_option linter.unusedVariables false      -- a walk need not use every 'w<i>' (that an integer argument fits its kind)

theorem own : ownKnob Try.prog.godebug = none := by kernel_rfl

theorem u16_lo (a : Int) : 0 ≤ IntKind.u16.wrap a := by rw [IntKind.wrap_u16]; omega
theorem u16_hi (a : Int) : IntKind.u16.wrap a ≤ 65535 := by rw [IntKind.wrap_u16]; omega
theorem ar0 (x y f : Int) : arF 0 x y f = flg ((x + y + 0) % 256 == 0) false (decide (15 < x % 16 + y % 16 + 0)) (decide (255 < x + y + 0)) := rfl
theorem ar1 (x y f : Int) : arF 1 x y f = flg ((x + y + cof f) % 256 == 0) false (decide (15 < x % 16 + y % 16 + cof f)) (decide (255 < x + y + cof f)) := rfl
theorem ar2 (x y f : Int) : arF 2 x y f = flg ((x - y - 0) % 256 == 0) true (decide (x % 16 < y % 16 + 0)) (decide (x < y + 0)) := rfl
theorem ar3 (x y f : Int) : arF 3 x y f = flg ((x - y - cof f) % 256 == 0) true (decide (x % 16 < y % 16 + cof f)) (decide (x < y + cof f)) := rfl
theorem sR (x y f : Int) : arR 0 x y f = (x + y + 0) % 256 := rfl
theorem aR (x y f : Int) : arR 1 x y f = (x + y + cof f) % 256 := rfl
theorem dR (x y f : Int) : arR 2 x y f = (x - y - 0) % 256 := rfl
theorem bR (x y f : Int) : arR 3 x y f = (x - y - cof f) % 256 := rfl
theorem t1 (x y : Int) (h0 : 0 ≤ x) (h1 : x ≤ 255) (h2 : 0 ≤ y) (h3 : y ≤ 255) : (arR 2 (arR 0 x y 0) y 0 == x) = true := by
  rw [beq_iff_eq, sR, dR]; omega
theorem cry (x y : Int) : cof (arF 0 x y 0) = if 255 < x + y then 1 else 0 := by
  rw [ar0, cof_flg, Int.add_zero]
  by_cases h : 255 < x + y
  · rw [decide_eq_true h, if_pos h]; rfl
  · rw [decide_eq_false h, if_neg h]; rfl
theorem bor (x y : Int) (h0 : 0 ≤ x) (h1 : x ≤ 255) (h2 : 0 ≤ y) (h3 : y ≤ 255) : cof (arF 2 (arR 0 x y 0) y 0) = if 255 < x + y then 1 else 0 := by
  rw [ar2, cof_flg, sR]
  by_cases h : 255 < x + y
  · rw [decide_eq_true (by omega), if_pos h]; rfl
  · rw [decide_eq_false (by omega), if_neg h]; rfl
theorem joined (h l : Int) (h0 : 0 ≤ h) (h1 : h ≤ 255) (h2 : 0 ≤ l) (h3 : l ≤ 255) : bits .or .u16 (IntKind.u16.wrap (IntKind.u16.wrap h * 256)) (IntKind.u16.wrap l) = h * 256 + l := by
  rw [IntKind.wrap_u16, IntKind.wrap_u16, IntKind.wrap_u16, show h % 65536 * 256 % 65536 = h * 256 by omega, show l % 65536 = l by omega]
  exact bits_join .u16 16 (by decide) (fun n a b => by rw [IntKind.wrap_u16]; omega) 8 (h * 256) l (by omega) (by omega) (by omega) (by omega) (by omega) (by omega)
theorem k1 (x y : Int) (h0 : 0 ≤ x) (h1 : x ≤ 65535) (h2 : 0 ≤ y) (h3 : y ≤ 65535) :
    ((x + y) % 65536 == bits .or .u16 (IntKind.u16.wrap (IntKind.u16.wrap (arR 1 (x / 256) (y / 256) (arF 0 (x % 256) (y % 256) 0)) * 256)) (IntKind.u16.wrap (arR 0 (x % 256) (y % 256) 0))) = true := by
  rw [beq_iff_eq, joined _ _ (arR_lo _ _ _ _ (by omega)) (arR_hi _ _ _ _ (by omega)) (arR_lo _ _ _ _ (by omega)) (arR_hi _ _ _ _ (by omega)), aR, sR, cry]
  split <;> omega
theorem k2 (x y : Int) (z : Bool) (h0 : 0 ≤ x) (h1 : x ≤ 65535) (h2 : 0 ≤ y) (h3 : y ≤ 65535) :
    (bits .and .u8 (flg z false (decide (4095 < x % 4096 + y % 4096)) (decide (65535 < x + y))) 48 == bits .and .u8 (arF 1 (x / 256) (y / 256) (arF 0 (x % 256) (y % 256) 0)) 48) = true := by
  rw [beq_iff_eq, ar1, andF48, andF48, cry]
  split <;> exact flg_congr rfl rfl (decEq (by omega)) (decEq (by omega))
theorem k3 (f : Int) (h c : Bool) (h0 : 0 ≤ f) (h1 : f ≤ 255) : (bits .and .u8 (flg (f / 128 == 1) false h c) 128 == bits .and .u8 f 128) = true := by
  rw [beq_iff_eq, andF128, and128 f h0 h1, orNone]
theorem k4 (z h c : Bool) : (bits .and .u8 (flg z false h c) 79 == 0) = true := by rw [andF79]; decide
theorem k6 (x y : Int) (h0 : 0 ≤ x) (h1 : x ≤ 65535) (h2 : 0 ≤ y) (h3 : y ≤ 65535) :
    (arR 3 (arR 1 (x / 256) (y / 256) (arF 0 (x % 256) (y % 256) 0)) (y / 256) (arF 2 (arR 0 (x % 256) (y % 256) 0) (y % 256) 0) == x / 256) = true := by
  rw [beq_iff_eq, bR, aR, cry, bor _ _ (by omega) (by omega) (by omega) (by omega)]
  split <;> omega
theorem k7 (x y : Int) (h0 : 0 ≤ x) (h1 : x ≤ 65535) (h2 : 0 ≤ y) (h3 : y ≤ 65535) :
    (bits .and .u8 (arF 3 (arR 1 (x / 256) (y / 256) (arF 0 (x % 256) (y % 256) 0)) (y / 256) (arF 2 (arR 0 (x % 256) (y % 256) 0) (y % 256) 0)) 16 == bits .and .u8 (arF 1 (x / 256) (y / 256) (arF 0 (x % 256) (y % 256) 0)) 16) = true := by
  rw [beq_iff_eq, ar3, ar1, aR, andF16, andF16, cry, bor _ _ (by omega) (by omega) (by omega) (by omega)]
  split <;> exact flg_congr rfl rfl rfl (decEq (by omega))
set_option maxHeartbeats 2000000 in
theorem walk (a0 : Int) (a1 : Int) (a2 : Int) (w0 : (Lit.int .i64 a0).wf = true) (w1 : (Lit.int .i64 a1).wf = true) (w2 : (Lit.int .i64 a2).wf = true) (w : World) :
    Calls Try.prog 4 #[.int .i64 a0, .int .i64 a1, .int .i64 a2] w fun e w' => e = .returned (.bool true) ∧ Grown w w' := by
  have x0 := u16_lo a0
  have x1 := u16_hi a0
  have y0 := u16_lo a1
  have y1 := u16_hi a1
  have j1 := k1 (IntKind.u16.wrap a0) (IntKind.u16.wrap a1) x0 x1 y0 y1
  have j2 := k2 (IntKind.u16.wrap a0) (IntKind.u16.wrap a1) (a2 % 256 / 128 == 1) x0 x1 y0 y1
  have j3 := k3 (a2 % 256) (decide (4095 < IntKind.u16.wrap a0 % 4096 + IntKind.u16.wrap a1 % 4096)) (decide (65535 < IntKind.u16.wrap a0 + IntKind.u16.wrap a1)) (by omega) (by omega)
  have j4 := k4 (a2 % 256 / 128 == 1) (decide (4095 < IntKind.u16.wrap a0 % 4096 + IntKind.u16.wrap a1 % 4096)) (decide (65535 < IntKind.u16.wrap a0 + IntKind.u16.wrap a1))
  have j5 := t1 (IntKind.u16.wrap a0 % 256) (IntKind.u16.wrap a1 % 256) (by omega) (by omega) (by omega) (by omega)
  have j6 := k6 (IntKind.u16.wrap a0) (IntKind.u16.wrap a1) x0 x1 y0 y1
  have j7 := k7 (IntKind.u16.wrap a0) (IntKind.u16.wrap a1) x0 x1 y0 y1
  go_enter Try.func4, Try.ntmps4
  go_wp2_with (first | (go_at_call 8; refine (addword_any _ _ _ _ (by omega) (by omega) (by omega) (by omega) (by omega) (by omega)).mono ?_; rintro e w' ⟨rfl, rfl⟩) | (go_at_call 7; refine (arith_any _ _ _ _ _ (by first | omega | (apply arR_lo; omega)) (by first | omega | (apply arR_hi; omega)) (by omega) (by omega) (by first | omega | (apply arF_lo; omega)) (by first | omega | (apply arF_hi; omega))).mono ?_; rintro e w' ⟨rfl, hg⟩))
  go_ret
  exact ⟨retb (by first | rfl | assumption), by repeat (first | assumption | refine Grown.step ?_ (by assumption))⟩

/-! ### THE ROW's STEP: WRITTEN OUT: LEAVE IT -/
set_option maxRecDepth 100000 in
theorem lifted (os : Os) (started : os.Started) (H : Type) (enc : TypeId × Value → H) :
    ReturnsInHanded {} Try.checked os 4 .any (Rows.aluWordsSpec.pre6 enc Try.prog Try.f4 Rows.aluWordsRow.domain false) (Rows.aluWordsSpec.post enc Try.prog Try.f4 false true false false) := by
  refine returnsInHanded_of_change (C := Try.checked) own started (by kernel_rfl) Try.func4
    (ChangeSpec.witness6 (enc := enc) (C := Try.checked) false ⟨#[], #[.int .i64 0, .int .i64 0, .int .i64 0], []⟩ 8 (by kernel_rfl) (by kernel_rfl) (by kernel_rfl) (by kernel_rfl)) ?_
  intro W base args ds gs before hval0 hW hcnd _
  have hval : ∀ (j : Nat) t v, Try.f4.params[j]? = some t → args[j]? = some v → Value.okWide Try.prog W .any base t v := hval0
  have hW' := hW
  obtain ⟨p, q, hA0, hV, rfl, hfz, hnd⟩ := hW
  have hA : DataW.TrodAll enc Try.prog W 0 (fun _ => true) true Try.f4.params.toList args.toList ds p := hA0
  rw [Try.params4] at hA hval
  obtain ⟨v0, vs0, d0, ds0, p0, q0, hargs, rfl, rfl, h0, r0⟩ := trodAll_cons hA
  obtain ⟨v1, vs1, d1, ds1, p1, q1, rfl, rfl, rfl, h1, r1⟩ := trodAll_cons r0
  obtain ⟨v2, vs2, d2, ds2, p2, q2, rfl, rfl, rfl, h2, r2⟩ := trodAll_cons r1
  obtain ⟨rfl, rfl, rfl⟩ := trodAll_nil r2
  obtain rfl : args = #[v0, v1, v2] := by cases args; simp_all
  obtain ⟨rfl, rfl⟩ := trodVars_none hV
  obtain ⟨a0, rfl, rfl, rfl, w0⟩ := open_int Try.underlying3 (hval 0 3 v0 rfl rfl) h0
  obtain ⟨a1, rfl, rfl, rfl, w1⟩ := open_int Try.underlying3 (hval 1 3 v1 rfl rfl) h1
  obtain ⟨a2, rfl, rfl, rfl, w2⟩ := open_int Try.underlying3 (hval 2 3 v2 rfl rfl) h2
  clear hA0 hval0
  simp only [List.append_nil] at hW'
  refine (walk a0 a1 a2 w0 w1 w2 W).mono fun e W' ⟨he, hg⟩ => ?_
  subst he
  exact ⟨_, rfl, post_of_same (pa := []) (pv := []) hW' (fun _ _ _ => (trodAll_cons_mk (shut_bool Try.underlying4 _) trodAll_mk0)) (fun sp _ => (trodAll_cons_mk (shut_int Try.underlying3 w0) (trodAll_cons_mk (shut_int Try.underlying3 w1) (trodAll_cons_mk (shut_int Try.underlying3 w2) trodAll_mk0)))) (fun _ _ => rfl) rfl
    (hg.frame _) hg.2.1 (ok_one (by kernel_rfl) rfl (okWide_bool_mk Try.underlying4 _))⟩

theorem over : Rows.aluWordsRow.holds Try.pinned (OpenSpec.ofChange Rows.aluWordsSpec) :=
  OpenClaim.holds_of_wide 4 Try.f4 rfl rfl rfl rfl rfl rfl rfl ⟨rfl, rfl, rfl, rfl, rfl⟩ rfl rfl rfl rfl rfl (by kernel_rfl) Try.func4 (by kernel_rfl)
    (of_decide_eq_true (by kernel_rfl)) (by unfold Func.isWrapper; first | (rw [if_pos (by decide +kernel)]; kernel_rfl) | (rw [if_neg (by decide +kernel)]; exact ⟨rfl, rfl⟩))
    (fun os started H enc _ => lifted os started H enc)

/-- ████ THE STATEMENT ████ -/
theorem proved : Rows.AluWordsSaid :=
  over
end Go.Proofs.Ytlbcodjkcjjoeaa.aluWords
namespace Go.Proofs.Ytlbcodjkcjjoeaa
theorem aluWords_proved : Rows.AluWordsSaid := aluWords.proved
#print axioms aluWords_proved
end Go.Proofs.Ytlbcodjkcjjoeaa
