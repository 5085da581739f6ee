/- Proved: for every three ints the law AluDecimal answers true (DAA behind ADC and SBC of numbers of two decimal digits is their decimal sum and difference, with its carry or borrow), where the table of bits is as the program's text lays it. -/
import Derived.Test.YtlbcodjkcjjoeabDoorRows
import Derived.Test.YtlbcodjkcjjoeabDoorTie
import Derived.Test.YtlbcodjkcjjoeabDoorCards
import Derived.Test.YtlbcodjkcjjoeabDoorAluT
import Derived.Test.YtlbcodjkcjjoeabDoorDecF
import Derived.LaidMore
import Derived.Stop.Joined
import Derived.Lib.LaidTab
import Derived.SevenTiedAt
import Derived.WalkKit
import Derived.ProofKit
import Derived.OpenShut
namespace Go.Proofs.YtlbcodjkcjjoeabDoor.aluDecimal
open Go.ChangeShapes Go.WideShapes Go.ChangeAt Go.RowKit
set_option linter.unusedVariables false      -- a walk need not use every 'w<i>' (that an integer argument fits its kind)

theorem own : ownKnob Tryd.prog.godebug = none := by kernel_rfl

theorem pick_var (c : Int) (w : World) (hc : -9223372036854775808 ≤ c) (hc2 : c ≤ 9223372036854775807) :
    Calls Tryd.prog 5 #[.int .i64 c, .int .i64 100] w fun e w' => ∃ x : Int, e = .returned (.int .i64 x) ∧ w' = w ∧ 0 ≤ x ∧ x < 100 :=
  (pick_any c 100 w hc hc2 (by omega) (by omega)).mono fun e w' ⟨he, hw⟩ => ⟨_, he, hw, pickI_lo c 100 (by omega), pickI_hi c 100 (by omega)⟩
set_option maxRecDepth 100000 in
set_option maxHeartbeats 4000000 in
theorem walk (a0 : Int) (a1 : Int) (a2 : Int) (w0 : (Lit.int .i64 a0).wf = true) (w1 : (Lit.int .i64 a1).wf = true) (w2 : (Lit.int .i64 a2).wf = true) (w : World) (hB : LaidB w) :
    Calls Tryd.prog 3 #[.int .i64 a0, .int .i64 a1, .int .i64 a2] w fun e w' => e = .returned (.bool true) ∧ Grown w w' := by
  obtain ⟨b0, b1⟩ := bounds_i64 w0
  obtain ⟨d0, d1⟩ := bounds_i64 w1
  have hc : bits .and .u8 (a2 % 256) 16 = 0 ∨ bits .and .u8 (a2 % 256) 16 = 16 := by
    rw [and16 _ (by omega) (by omega)]
    cases (cof (a2 % 256) == 1)
    · exact Or.inl rfl
    · exact Or.inr rfl
  rcases hc with hc | hc
  · go_enter Tryd.func3, Tryd.ntmps3
    go_wp2_with fail
    refine (pick_var _ _ b0 b1).mono ?_
    rintro e w' ⟨x, rfl, rfl, x0, x1⟩
    go_wp2_with fail
    refine (pick_var _ _ d0 d1).mono ?_
    rintro e w' ⟨y, rfl, rfl, y0, y1⟩
    have hq := hundredAll dec0All x y x0 x1 y0 y1
    unfold dec0 at hq
    simp only [Bool.and_eq_true] at hq
    obtain ⟨⟨⟨⟨⟨⟨⟨k1, k2⟩, k3⟩, k4⟩, k5⟩, k6⟩, k7⟩, k8⟩ := hq
    have s0 := arR_lo 1 (x / 10 * 16 + x % 10) (y / 10 * 16 + y % 10) 0 (by omega)
    have s1 := arR_hi 1 (x / 10 * 16 + x % 10) (y / 10 * 16 + y % 10) 0 (by omega)
    have p0 := arF_lo 1 (x / 10 * 16 + x % 10) (y / 10 * 16 + y % 10) 0 (by omega)
    have p1 := arF_hi 1 (x / 10 * 16 + x % 10) (y / 10 * 16 + y % 10) 0 (by omega)
    have u0 := arR_lo 3 (x / 10 * 16 + x % 10) (y / 10 * 16 + y % 10) 0 (by omega)
    have u1 := arR_hi 3 (x / 10 * 16 + x % 10) (y / 10 * 16 + y % 10) 0 (by omega)
    have r0 := arF_lo 3 (x / 10 * 16 + x % 10) (y / 10 * 16 + y % 10) 0 (by omega)
    have r1 := arF_hi 3 (x / 10 * 16 + x % 10) (y / 10 * 16 + y % 10) 0 (by omega)
    go_wp2_with (first | (go_at_call 8; refine (turn_any _ _ _ _ (by exact hB.grown (by repeat (first | assumption | exact Grown.refl _ | refine Grown.step ?_ (by assumption)))) (by omega) (by omega) (by omega) (by omega)).mono ?_; rintro e w' ⟨rfl, hg⟩) | (go_at_call 6; refine (arith_any _ _ _ _ _ (by omega) (by omega) (by omega) (by omega) (by omega) (by omega)).mono ?_; rintro e w' ⟨rfl, hg⟩) | go_in)
    go_ret
    exact ⟨retb (by first | rfl | assumption), by repeat (first | assumption | exact Grown.refl _ | refine Grown.step ?_ (by assumption))⟩
  · go_enter Tryd.func3, Tryd.ntmps3
    go_wp2_with fail
    refine (pick_var _ _ b0 b1).mono ?_
    rintro e w' ⟨x, rfl, rfl, x0, x1⟩
    go_wp2_with fail
    refine (pick_var _ _ d0 d1).mono ?_
    rintro e w' ⟨y, rfl, rfl, y0, y1⟩
    have hq := hundredAll dec1All x y x0 x1 y0 y1
    unfold dec1 at hq
    simp only [Bool.and_eq_true] at hq
    obtain ⟨⟨⟨⟨⟨⟨⟨k1, k2⟩, k3⟩, k4⟩, k5⟩, k6⟩, k7⟩, k8⟩ := hq
    have s0 := arR_lo 1 (x / 10 * 16 + x % 10) (y / 10 * 16 + y % 10) 16 (by omega)
    have s1 := arR_hi 1 (x / 10 * 16 + x % 10) (y / 10 * 16 + y % 10) 16 (by omega)
    have p0 := arF_lo 1 (x / 10 * 16 + x % 10) (y / 10 * 16 + y % 10) 16 (by omega)
    have p1 := arF_hi 1 (x / 10 * 16 + x % 10) (y / 10 * 16 + y % 10) 16 (by omega)
    have u0 := arR_lo 3 (x / 10 * 16 + x % 10) (y / 10 * 16 + y % 10) 16 (by omega)
    have u1 := arR_hi 3 (x / 10 * 16 + x % 10) (y / 10 * 16 + y % 10) 16 (by omega)
    have r0 := arF_lo 3 (x / 10 * 16 + x % 10) (y / 10 * 16 + y % 10) 16 (by omega)
    have r1 := arF_hi 3 (x / 10 * 16 + x % 10) (y / 10 * 16 + y % 10) 16 (by omega)
    go_wp2_with (first | (go_at_call 8; refine (turn_any _ _ _ _ (by exact hB.grown (by repeat (first | assumption | exact Grown.refl _ | refine Grown.step ?_ (by assumption)))) (by omega) (by omega) (by omega) (by omega)).mono ?_; rintro e w' ⟨rfl, hg⟩) | (go_at_call 6; refine (arith_any _ _ _ _ _ (by omega) (by omega) (by omega) (by omega) (by omega) (by omega)).mono ?_; rintro e w' ⟨rfl, hg⟩) | go_in)
    go_ret
    exact ⟨retb (by first | rfl | assumption), by repeat (first | assumption | exact Grown.refl _ | refine Grown.step ?_ (by assumption))⟩

/-- The door's own heap meets the condition. -/
theorem door_met (os : Os) (args : Array Value) : laidMetH Tryd.prog Rows.aluDecimalRow.laid ((World.doorLaid Tryd.prog 400 os).forCall (fun _ _ => 0) ⟨#[], args, []⟩).memory :=
  laidMetH_of_parts3 (fuel := 8) (laidMet_of_run' 8 (by kernel_rfl) (by kernel_rfl)) (by kernel_rfl) (by kernel_rfl)
/-- What the condition gives the walk: the table's cells. -/
theorem of_laid (W : World) (h : laidMetH Tryd.prog Rows.aluDecimalRow.laid W) : LaidB W := by
  rw [MakeChecks.laidMetH_plain _ _ _ (by kernel_rfl)] at h
  have t : Lib.TabIs Tryd.prog W "arcade/alu.bits" .u8 [1, 2, 4, 8, 16, 32, 64, 128] :=
    Lib.tabIs_of_head (rest := []) (g := 0) (t := 52) (e := 5) (n := 8) (by kernel_rfl) (by kernel_rfl) Tryd.underlying52 Tryd.underlying5 (by kernel_rfl) (by kernel_rfl) h
  have c := fun i hi => t.cell (by kernel_rfl : Tryd.prog.globalNamed "arcade/alu.bits" = some 0) i hi
  refine ⟨World.block_lt_of_cell? _ _ (c 0 (by decide)), fun i hi => ?_⟩
  rw [c i hi]
  have : i = 0 ∨ i = 1 ∨ i = 2 ∨ i = 3 ∨ i = 4 ∨ i = 5 ∨ i = 6 ∨ i = 7 := by omega
  rcases this with rfl | rfl | rfl | rfl | rfl | rfl | rfl | rfl <;> rfl

/-! ### THE ROW's STEP: WRITTEN OUT: LEAVE IT -/
set_option maxRecDepth 100000 in
theorem lifted (os : Os) (started : os.Started) (H : Type) (enc : TypeId × Value → H) :
    ReturnsInHanded {} Tryd.checked os 3 .any (fun w args => (Rows.aluDecimalSpec.pre enc Tryd.prog Tryd.f3 [] false w args ∧ laidMetH Tryd.prog Rows.aluDecimalRow.laid w) ∧ sizedMet enc Tryd.prog Tryd.f3 (OpenSpec.ofChange Rows.aluDecimalSpec) false w args)
      (Rows.aluDecimalSpec.post enc Tryd.prog Tryd.f3 false true false false) := by
  refine returnsInHanded_of_change_and (C := Tryd.checked) (X := fun w _ => laidMetH Tryd.prog Rows.aluDecimalRow.laid w) (fun _ _ _ hh h => h.of_heap hh) own started (by kernel_rfl) Tryd.func3
    (ChangeSpec.witness_shaped (enc := enc) (C := Tryd.checked) (os := os) (X := fun w _ => laidMetH Tryd.prog Rows.aluDecimalRow.laid w) false (World.doorLaid Tryd.prog 400 os) #[.int .i64 0, .int .i64 0, .int .i64 0] 8 rfl (World.shaped_of_RefB (by kernel_rfl) (by kernel_rfl)) (by kernel_rfl) (by kernel_rfl) (by kernel_rfl) (door_met os _)) ?_
  intro W base args ds gs before hval0 hW _ _ hL _
  have hval : ∀ (j : Nat) t v, Tryd.f3.params[j]? = some t → args[j]? = some v → Value.okWide Tryd.prog W .any base t v := hval0
  have hW' := hW
  obtain ⟨p, q, hA0, hV, rfl, hfz, hnd⟩ := hW
  have hA : DataW.TrodAll enc Tryd.prog W 0 (fun _ => true) true Tryd.f3.params.toList args.toList ds p := hA0
  rw [Tryd.params3] at hA hval
  obtain ⟨v0, vs0, d0, ds0, p0, q0, hargs, rfl, rfl, h0, r0⟩ := trodAll_cons hA
  obtain ⟨v1, vs1, d1, ds1, p1, q1, rfl, rfl, rfl, h1, r1⟩ := trodAll_cons r0
  obtain ⟨v2, vs2, d2, ds2, p2, q2, rfl, rfl, rfl, h2, r2⟩ := trodAll_cons r1
  obtain ⟨rfl, rfl, rfl⟩ := trodAll_nil r2
  obtain rfl : args = #[v0, v1, v2] := by cases args; simp_all
  obtain ⟨rfl, rfl⟩ := trodVars_none hV
  obtain ⟨a0, rfl, rfl, rfl, w0⟩ := open_int Tryd.underlying3 (hval 0 3 v0 rfl rfl) h0
  obtain ⟨a1, rfl, rfl, rfl, w1⟩ := open_int Tryd.underlying3 (hval 1 3 v1 rfl rfl) h1
  obtain ⟨a2, rfl, rfl, rfl, w2⟩ := open_int Tryd.underlying3 (hval 2 3 v2 rfl rfl) h2
  clear hA0 hval0
  simp only [List.append_nil] at hW'
  refine (walk a0 a1 a2 w0 w1 w2 W (of_laid W hL)).mono fun e W' ⟨he, hg⟩ => ?_
  subst he
  exact ⟨_, rfl, post_of_same (pa := []) (pv := []) hW' (fun _ _ _ => (trodAll_cons_mk (shut_bool Tryd.underlying4 _) trodAll_mk0)) (fun sp _ => (trodAll_cons_mk (shut_int Tryd.underlying3 w0) (trodAll_cons_mk (shut_int Tryd.underlying3 w1) (trodAll_cons_mk (shut_int Tryd.underlying3 w2) trodAll_mk0)))) (fun _ _ => rfl) rfl
    (hg.frame _) hg.2.1 (ok_one (by kernel_rfl) rfl (okWide_bool_mk Tryd.underlying4 _))⟩

theorem over : Rows.aluDecimalRow.holds Tryd.pinned (OpenSpec.ofChange Rows.aluDecimalSpec) :=
  OpenClaim.holds_of_wide 3 Tryd.f3 rfl rfl rfl rfl rfl rfl rfl ⟨rfl, rfl, rfl, rfl, rfl⟩ rfl rfl rfl rfl rfl (by kernel_rfl) Tryd.func3 (by kernel_rfl)
    (of_decide_eq_true (by kernel_rfl)) (by unfold Func.isWrapper; first | (rw [if_pos (by decide +kernel)]; kernel_rfl) | (rw [if_neg (by decide +kernel)]; exact ⟨rfl, rfl⟩))
    (fun os started H enc _ => lifted os started H enc)

/-- ████ THE STATEMENT ████ -/
theorem proved : Rows.AluDecimalSaid :=
  over

/-- The card: the row, its table tied to the program's text. -/
theorem card : Rows.AluDecimalCardSaid :=
  Claim7.holds_tied_plain_at .later [] [.data] true (true, "e6a8b69185910cc5c7d604f3c993dc141dc36939c123517ac00518a85f31bb88") false
    proved (fun _ h => by cases h) (by kernel_rfl) (fun _ h => by cases h) aluDecimal_row_tie rfl ⟨rfl, rfl⟩ (by kernel_rfl) rfl
    (fun f fn hf hfn => by
      obtain rfl : f = 3 := Option.some.inj ((show Tryd.prog.funcNamed "arcade/arcadelaw1.AluDecimal" = some 3 by kernel_rfl).symm.trans hf) |>.symm
      obtain rfl : fn = Tryd.f3 := (Option.some.inj (Tryd.func3.symm.trans hfn)).symm
      exact ⟨by kernel_rfl, fun j t ht => by
        rw [Tryd.params3] at ht
        have hm : t ∈ [3] := by simpa using Array.mem_of_getElem? ht
        have hall : ([3].all fun u => !Tryd.prog.wantsStandIn u) = true := by kernel_rfl
        exact (show Tryd.prog.wantsStandIn t = false by simpa using List.all_eq_true.1 hall t hm)⟩)
    (by kernel_rfl)
end Go.Proofs.YtlbcodjkcjjoeabDoor.aluDecimal
namespace Go.Proofs.YtlbcodjkcjjoeabDoor
theorem aluDecimal_card : Rows.AluDecimalCardSaid := aluDecimal.card
#print axioms aluDecimal_card
end Go.Proofs.YtlbcodjkcjjoeabDoor
