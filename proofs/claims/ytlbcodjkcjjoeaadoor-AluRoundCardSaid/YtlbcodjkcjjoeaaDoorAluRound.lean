/- Proved: for every two ints the law AluRound answers true (bits go round and come back; SWAP, CPL and CCF undo themselves; SLA is ADD of itself; SRA and SRL are halves), where the table of bits is as the program's text lays it. -/
import Derived.Test.YtlbcodjkcjjoeaaDoorRows
import Derived.Test.YtlbcodjkcjjoeaaDoorTie
import Derived.Test.YtlbcodjkcjjoeaaDoorCards
import Derived.Test.YtlbcodjkcjjoeaaDoorAluT
import Derived.Test.YtlbcodjkcjjoeaaDoorRoundF
import Derived.LoopTactic
import Derived.LaidMore
import Derived.Stop.Joined
import Derived.Lib.LaidTab
import Derived.SevenTiedAt
import Derived.WalkKit
import Derived.ProofKit
import Derived.OpenShut
namespace Go.Proofs.YtlbcodjkcjjoeaaDoor.aluRound
open Go.ChangeShapes Go.WideShapes Go.ChangeAt Go.RowKit
set_option linter.unusedVariables false      -- a walk need not use every 'w<i>' (that an integer argument fits its kind)

theorem own : ownKnob Tryd.prog.godebug = none := by kernel_rfl


set_option maxRecDepth 100000 in
set_option maxHeartbeats 4000000 in
theorem walk (a0 : Int) (a1 : Int) (w0 : (Lit.int .i64 a0).wf = true) (w1 : (Lit.int .i64 a1).wf = true) (w : World) (hB : LaidB w) :
    Calls Tryd.prog 3 #[.int .i64 a0, .int .i64 a1] w fun e w' => e = .returned (.bool true) ∧ Grown w w' := by
  have ha := pairAll aheadAll (a0 % 256) (a1 % 256) (by omega) (by omega) (by omega) (by omega)
  have hr : Hid (rest (a0 % 256) (bits .and .u8 (a1 % 256) 240) = true) := pairAll restAll (a0 % 256) (a1 % 256) (by omega) (by omega) (by omega) (by omega)
  have c0 := u8_lo .and (a1 % 256) 240
  have c1 := u8_hi .and (a1 % 256) 240
  unfold ahead at ha
  simp only [Bool.and_eq_true, Bool.not_eq_true'] at ha
  obtain ⟨⟨k1, k2⟩, k3⟩ := ha
  go_enter Tryd.func3, Tryd.ntmps3
  go_wp2_with (first | (go_at_call 5; refine (shift_any _ _ _ _ (by exact hB.grown (by repeat (first | assumption | exact Grown.refl _ | refine Grown.step ?_ (by assumption)))) (by first | omega | (apply shR_lo; omega)) (by first | omega | (apply shR_hi <;> omega)) (by first | omega | (apply shF_lo; omega)) (by first | omega | (apply shF_hi; omega))).mono ?_; rintro e w' ⟨rfl, hg⟩))
  go_loopw [15, 16, 17, 18, 19] (fun u v x t i wr => ∃ k : Nat, k ≤ 9 ∧ i = .int .i64 k ∧ u = .int .u8 (rU k (a0 % 256)) ∧ v = .int .u8 (rV k (a0 % 256)) ∧ x = .int .u8 (rW k (a0 % 256) (bits .and .u8 (a1 % 256) 240)).1 ∧ t = .int .u8 (rW k (a0 % 256) (bits .and .u8 (a1 % 256) 240)).2 ∧ Grown w wr) (fun _ _ _ _ i _ => 9 - (intOf i).toNat)
  case atStart => exact ⟨0, by omega, rfl, rfl, rfl, rfl, rfl, by repeat (first | assumption | exact Grown.refl _ | refine Grown.step ?_ (by assumption))⟩
  case round =>
    obtain ⟨k, hk, rfl, rfl, rfl, rfl, rfl, hG⟩ := hrel
    have hu := rU_bd k (a0 % 256) (by omega) (by omega)
    have hv := rV_bd k (a0 % 256) (by omega) (by omega)
    have hw := rW_bd k (a0 % 256) (bits .and .u8 (a1 % 256) 240) (by omega) (by omega) c0 c1
    obtain ⟨u0, u1⟩ := hu
    obtain ⟨v0, v1⟩ := hv
    obtain ⟨⟨x0, x1⟩, y0, y1⟩ := hw
    clear k1 k2 k3
    by_cases h8 : k < 8
    · have eU : Hid (rU (k + 1) (a0 % 256) = shR 0 (rU k (a0 % 256)) 0) := show (if k < 8 then _ else _) = _ from if_pos h8
      have eV : Hid (rV (k + 1) (a0 % 256) = shR 1 (rV k (a0 % 256)) 240) := show (if k < 8 then _ else _) = _ from if_pos h8
      go_wp2_with (go_at_call 5; refine (shift_any _ _ _ _ (by exact hB.grown (by repeat (first | assumption | exact Grown.refl _ | refine Grown.step ?_ (by assumption)))) (by omega) (by omega) (by omega) (by omega)).mono ?_; rintro e w' ⟨rfl, hg⟩)
      go_roundw
      case rel => exact ⟨k + 1, by omega, by go_num, by rw [eU.out], by rw [eV.out], rfl, rfl, by repeat (first | assumption | exact Grown.refl _ | refine Grown.step ?_ (by assumption))⟩
      case measure => simp [intOf]; omega
    · by_cases h9 : k < 9
      · have eU : Hid (rU (k + 1) (a0 % 256) = rU k (a0 % 256)) := show (if k < 8 then _ else _) = _ from if_neg h8
        have eV : Hid (rV (k + 1) (a0 % 256) = rV k (a0 % 256)) := show (if k < 8 then _ else _) = _ from if_neg h8
        go_wp2_with (go_at_call 5; refine (shift_any _ _ _ _ (by exact hB.grown (by repeat (first | assumption | exact Grown.refl _ | refine Grown.step ?_ (by assumption)))) (by omega) (by omega) (by omega) (by omega)).mono ?_; rintro e w' ⟨rfl, hg⟩)
        go_roundw
        case rel => exact ⟨k + 1, by omega, by go_num, by rw [eU.out], by rw [eV.out], rfl, rfl, by repeat (first | assumption | exact Grown.refl _ | refine Grown.step ?_ (by assumption))⟩
        case measure => simp [intOf]; omega
      · obtain rfl : k = 9 := by omega
        have kU := nineU (a0 % 256) (by omega) (by omega)
        have kV := nineV (a0 % 256) (by omega) (by omega)
        obtain ⟨kW, kX⟩ := nineW (a0 % 256) (bits .and .u8 (a1 % 256) 240) (by omega) (by omega) c0 c1
        have hq := hr.out
        unfold rest at hq
        simp only [Bool.and_eq_true] at hq
        obtain ⟨⟨⟨⟨⟨⟨⟨⟨⟨r1, r2⟩, r3⟩, r4⟩, r5⟩, r6⟩, r7⟩, r8⟩, r9⟩, r10⟩ := hq
        generalize rU 9 (a0 % 256) = U at *
        generalize rV 9 (a0 % 256) = V at *
        generalize (rW 9 (a0 % 256) (bits .and .u8 (a1 % 256) 240)) = Y at *
        have z0 := tuF_lo 7 (a0 % 256) (bits .and .u8 (a1 % 256) 240) c0
        have z1 := tuF_hi 7 (a0 % 256) (bits .and .u8 (a1 % 256) 240) c1
        have m0 := tuR_lo 5 (a0 % 256) (bits .and .u8 (a1 % 256) 240) (by omega) (by omega)
        have m1 := tuR_hi 5 (a0 % 256) (bits .and .u8 (a1 % 256) 240) (by omega) (by omega)
        have n0 := tuF_lo 5 (a0 % 256) (bits .and .u8 (a1 % 256) 240) c0
        have n1 := tuF_hi 5 (a0 % 256) (bits .and .u8 (a1 % 256) 240) c1
        have q0 := shR_lo 6 (a0 % 256) (bits .and .u8 (a1 % 256) 240) (by omega)
        have q1 := shR_hi 6 (a0 % 256) (bits .and .u8 (a1 % 256) 240) (by omega) (by omega)
        go_wp2_with (first | (go_at_call 5; refine (shift_any _ _ _ _ (by exact hB.grown (by repeat (first | assumption | exact Grown.refl _ | refine Grown.step ?_ (by assumption)))) (by omega) (by omega) (by omega) (by omega)).mono ?_; rintro e w' ⟨rfl, hg⟩) | (go_at_call 6; refine (turn_any _ _ _ _ (by exact hB.grown (by repeat (first | assumption | exact Grown.refl _ | refine Grown.step ?_ (by assumption)))) (by omega) (by omega) (by omega) (by omega)).mono ?_; rintro e w' ⟨rfl, hg⟩) | (go_at_call 7; refine (arith_any _ _ _ _ _ (by omega) (by omega) (by omega) (by omega) (by omega) (by omega)).mono ?_; rintro e w' ⟨rfl, hg⟩))
        · go_ret
          exact ⟨retb (by first | rfl | assumption), by repeat (first | assumption | exact Grown.refl _ | refine Grown.step ?_ (by assumption))⟩
        · exact absurd (beq_iff_eq.1 r4) (by assumption)

/-- The door's own heap meets the condition. -/
theorem door_met (os : Os) (args : Array Value) : laidMetH Tryd.prog Rows.aluRoundRow.laid ((World.doorLaid Tryd.prog 400 os).forCall (fun _ _ => 0) ⟨#[], args, []⟩).memory :=
  laidMetH_of_parts3 (fuel := 8) (laidMet_of_run' 8 (by kernel_rfl) (by kernel_rfl)) (by kernel_rfl) (by kernel_rfl)
/-- What the condition gives the walk: the table's cells. -/
theorem of_laid (W : World) (h : laidMetH Tryd.prog Rows.aluRoundRow.laid W) : LaidB W := by
  rw [MakeChecks.laidMetH_plain _ _ _ (by kernel_rfl)] at h
  have t : Lib.TabIs Tryd.prog W "arcade/alu.bits" .u8 [1, 2, 4, 8, 16, 32, 64, 128] :=
    Lib.tabIs_of_head (rest := []) (g := 0) (t := 35) (e := 5) (n := 8) (by kernel_rfl) (by kernel_rfl) Tryd.underlying35 Tryd.underlying5 (by kernel_rfl) (by kernel_rfl) h
  have c := fun i hi => t.cell (by kernel_rfl : Tryd.prog.globalNamed "arcade/alu.bits" = some 0) i hi
  refine ⟨World.block_lt_of_cell? _ _ (c 0 (by decide)), fun i hi => ?_⟩
  rw [c i hi]
  have : i = 0 ∨ i = 1 ∨ i = 2 ∨ i = 3 ∨ i = 4 ∨ i = 5 ∨ i = 6 ∨ i = 7 := by omega
  rcases this with rfl | rfl | rfl | rfl | rfl | rfl | rfl | rfl <;> rfl

/-! ### THE ROW's STEP: WRITTEN OUT: LEAVE IT -/
set_option maxRecDepth 100000 in
theorem lifted (os : Os) (started : os.Started) (H : Type) (enc : TypeId × Value → H) :
    ReturnsInHanded {} Tryd.checked os 3 .any (fun w args => (Rows.aluRoundSpec.pre enc Tryd.prog Tryd.f3 [] false w args ∧ laidMetH Tryd.prog Rows.aluRoundRow.laid w) ∧ sizedMet enc Tryd.prog Tryd.f3 (OpenSpec.ofChange Rows.aluRoundSpec) false w args)
      (Rows.aluRoundSpec.post enc Tryd.prog Tryd.f3 false true false false) := by
  refine returnsInHanded_of_change_and (C := Tryd.checked) (X := fun w _ => laidMetH Tryd.prog Rows.aluRoundRow.laid w) (fun _ _ _ hh h => h.of_heap hh) own started (by kernel_rfl) Tryd.func3
    (ChangeSpec.witness_shaped (enc := enc) (C := Tryd.checked) (os := os) (X := fun w _ => laidMetH Tryd.prog Rows.aluRoundRow.laid w) false (World.doorLaid Tryd.prog 400 os) #[.int .i64 0, .int .i64 0] 8 rfl (World.shaped_of_RefB (by kernel_rfl) (by kernel_rfl)) (by kernel_rfl) (by kernel_rfl) (by kernel_rfl) (door_met os _)) ?_
  intro W base args ds gs before hval0 hW _ _ hL _
  have hval : ∀ (j : Nat) t v, Tryd.f3.params[j]? = some t → args[j]? = some v → Value.okWide Tryd.prog W .any base t v := hval0
  have hW' := hW
  obtain ⟨p, q, hA0, hV, rfl, hfz, hnd⟩ := hW
  have hA : DataW.TrodAll enc Tryd.prog W 0 (fun _ => true) true Tryd.f3.params.toList args.toList ds p := hA0
  rw [Tryd.params3] at hA hval
  obtain ⟨v0, vs0, d0, ds0, p0, q0, hargs, rfl, rfl, h0, r0⟩ := trodAll_cons hA
  obtain ⟨v1, vs1, d1, ds1, p1, q1, rfl, rfl, rfl, h1, r1⟩ := trodAll_cons r0
  obtain ⟨rfl, rfl, rfl⟩ := trodAll_nil r1
  obtain rfl : args = #[v0, v1] := by cases args; simp_all
  obtain ⟨rfl, rfl⟩ := trodVars_none hV
  obtain ⟨a0, rfl, rfl, rfl, w0⟩ := open_int Tryd.underlying3 (hval 0 3 v0 rfl rfl) h0
  obtain ⟨a1, rfl, rfl, rfl, w1⟩ := open_int Tryd.underlying3 (hval 1 3 v1 rfl rfl) h1
  clear hA0 hval0
  simp only [List.append_nil] at hW'
  refine (walk a0 a1 w0 w1 W (of_laid W hL)).mono fun e W' ⟨he, hg⟩ => ?_
  subst he
  exact ⟨_, rfl, post_of_same (pa := []) (pv := []) hW' (fun _ _ _ => (trodAll_cons_mk (shut_bool Tryd.underlying4 _) trodAll_mk0)) (fun sp _ => (trodAll_cons_mk (shut_int Tryd.underlying3 w0) (trodAll_cons_mk (shut_int Tryd.underlying3 w1) trodAll_mk0))) (fun _ _ => rfl) rfl
    (hg.frame _) hg.2.1 (ok_one (by kernel_rfl) rfl (okWide_bool_mk Tryd.underlying4 _))⟩

theorem over : Rows.aluRoundRow.holds Tryd.pinned (OpenSpec.ofChange Rows.aluRoundSpec) :=
  OpenClaim.holds_of_wide 3 Tryd.f3 rfl rfl rfl rfl rfl rfl rfl ⟨rfl, rfl, rfl, rfl, rfl⟩ rfl rfl rfl rfl rfl (by kernel_rfl) Tryd.func3 (by kernel_rfl)
    (of_decide_eq_true (by kernel_rfl)) (by unfold Func.isWrapper; first | (rw [if_pos (by decide +kernel)]; kernel_rfl) | (rw [if_neg (by decide +kernel)]; exact ⟨rfl, rfl⟩))
    (fun os started H enc _ => lifted os started H enc)

/-- ████ THE STATEMENT ████ -/
theorem proved : Rows.AluRoundSaid :=
  over

/-- The card: the row, its table tied to the program's text. -/
theorem card : Rows.AluRoundCardSaid :=
  Claim7.holds_tied_plain_at .later [] [.data] true (true, "8bbebffced923f90158d8454e8c8e375c134ef7765a228edfc2569966a462da0") false
    proved (fun _ h => by cases h) (by kernel_rfl) (fun _ h => by cases h) aluRound_row_tie rfl ⟨rfl, rfl⟩ (by kernel_rfl) rfl
    (fun f fn hf hfn => by
      obtain rfl : f = 3 := Option.some.inj ((show Tryd.prog.funcNamed "arcade/arcadelaw1.AluRound" = some 3 by kernel_rfl).symm.trans hf) |>.symm
      obtain rfl : fn = Tryd.f3 := (Option.some.inj (Tryd.func3.symm.trans hfn)).symm
      exact ⟨by kernel_rfl, fun j t ht => by
        rw [Tryd.params3] at ht
        have hm : t ∈ [3] := by simpa using Array.mem_of_getElem? ht
        have hall : ([3].all fun u => !Tryd.prog.wantsStandIn u) = true := by kernel_rfl
        exact (show Tryd.prog.wantsStandIn t = false by simpa using List.all_eq_true.1 hall t hm)⟩)
    (by kernel_rfl)
end Go.Proofs.YtlbcodjkcjjoeaaDoor.aluRound
namespace Go.Proofs.YtlbcodjkcjjoeaaDoor
theorem aluRound_card : Rows.AluRoundCardSaid := aluRound.card
#print axioms aluRound_card
end Go.Proofs.YtlbcodjkcjjoeaaDoor
