/- What instructions do, over the translation: those that reckon. -/
import Derived.Test.YtdkibohpdkdooaaGreatDoorCpE
import Derived.Test.YtdkibohpdkdooaaGreatDoorAluT
namespace Go.Proofs.YtdkibohpdkdooaaGreatDoor
open Go.RowKit
set_option linter.unusedVariables false
/-- the table of bits lies as it must, and is no processor -/
def Lb (b : Nat) (w : World) : Prop := LaidB w ∧ b ≠ 0
theorem LaidB.up {w w' : World} (h : LaidB w) (u : Up w w') : LaidB w' := by
  refine ⟨Nat.lt_of_lt_of_le h.1 u.size, fun i hi => ?_⟩
  rw [← h.2 i hi]
  unfold World.cell?
  rw [show (w'.heap[(⟨0, i, none⟩ : Addr).block]?) = w.heap[(⟨0, i, none⟩ : Addr).block]? from u.block 0 h.1]
theorem LaidB.fr {w w' : World} {b : Nat} (h : LaidB w) (u : Fr b w w') (hb : b ≠ 0) : LaidB w' := by
  refine ⟨Nat.lt_of_lt_of_le h.1 u.size, fun i hi => ?_⟩
  rw [← h.2 i hi]
  unfold World.cell?
  rw [show (w'.heap[(⟨0, i, none⟩ : Addr).block]?) = w.heap[(⟨0, i, none⟩ : Addr).block]? from u.block 0 h.1 (fun e => hb e.symm)]
theorem Lb.up {w w' : World} {b : Nat} (h : Lb b w) (u : Up w w') : Lb b w' := ⟨h.1.up u, h.2⟩
theorem Lb.fr {w w' : World} {b : Nat} (h : Lb b w) (u : Fr b w w') : Lb b w' := ⟨h.1.fr u h.2, h.2⟩
theorem wi (n : Int) (h0 : 0 ≤ n) (h1 : n ≤ 65535) : IntKind.i64.wrap n = n := by simp [IntKind.wrap, IntKind.bits, IntKind.signed]; omega
theorem steppedR_ok {s : St} (o : s.Ok) : 0 ≤ s.steppedR ∧ s.steppedR ≤ 255 := by
  have := o.value s.y
  unfold St.steppedR stR
  repeat' split
  all_goals omega
set_option maxRecDepth 100000 in
set_option maxHeartbeats 1000000 in
theorem stepped_any (b : Nat) (s : St) (w : World) (h : Cp w b s) (o : s.Ok) :
    Calls Tryz.prog 70 #[.pointer (some ⟨b, 0, none⟩)] w fun e w' => e = .returned (.tuple #[.int .u8 s.steppedR, .int .u8 s.steppedF]) ∧ Up w w' := by
  have c6 : w.cell? ⟨b, 6, none⟩ = some (.int .u8 (s.r 6)) := h.cell 6
  have hz : bits .and .u8 s.z 1 = s.z % 2 := u8_and1 _ o.z.1 (by have := o.z.2; omega)
  have hz0 : 0 ≤ s.z % 2 := by omega
  have hz1 : s.z % 2 ≤ 1 := by omega
  have hb := h.lt
  go_enter Tryz.func70, Tryz.ntmps70
  go_wp2_with fail
  go_region_held3 (fun w' => w'.cell? ⟨b, 6, none⟩ = some (.int .u8 (s.r 6))) (first | exact c6 | exact k6)
    (first
      | (go_at_call 60; refine (z_any b s _ (by exact h) o).mono ?_; rintro e w' ⟨rfl, n, rfl⟩)
      | (go_at_call 59; refine (y_any b s _ (by exact h) o).mono ?_; rintro e w' ⟨rfl, n, rfl⟩)
      | (go_at_call 69; refine (value_any b s _ (by exact h) o s.y o.y.1 o.y.2).mono ?_; rintro e w' ⟨rfl, n, rfl⟩)
      | (go_at_call 103; rw [wi (s.z % 2) (by omega) (by omega)]; refine (step_any (s.z % 2) (s.value s.y) (s.r 6) _ (o.value _).1 (o.value _).2 (o.r 6).1 (o.r 6).2).mono ?_; rintro e w2 ⟨rfl, hg⟩
         have hup : Up w w2 := (Up.drewN w _).trans (Up.ofGrown hg)
         have k6 : w2.cell? ⟨b, 6, none⟩ = some (.int .u8 (s.r 6)) := (h.up hup).cell 6
         clear hg))
  go_wp2
  go_ret2
  exact ⟨rfl, hup⟩
set_option maxRecDepth 100000 in
theorem loadHL_does (b : Nat) (s : St) (w : World) (h : Cp w b s) (o : s.Ok) :
    Calls Tryz.prog 92 #[.pointer (some ⟨b, 0, none⟩)] w fun e w' => e = .returned (.tuple #[]) ∧ Cp w' b ((s.setPair 2 (ofR s.sp s.latest)).setReg 6 (ofF s.sp s.latest)) ∧ Fr b w w' := by
  have c8 : w.cell? ⟨b, 8, none⟩ = some (.int .u16 s.sp) := h.cell 8
  have osp1 := (o.sp).1
  have osp2 := (o.sp).2
  go_enter Tryz.func92, Tryz.ntmps92
  go_wp2_with fail
  go_region_held3 (fun w' => w'.cell? ⟨b, 8, none⟩ = some (.int .u16 s.sp)) (exact c8)
    (first
      | (go_at_call 43; refine (latest_any b s _ (by exact h) o).mono ?_; rintro e w' ⟨rfl, n, rfl⟩)
      | (go_at_call 119; refine (addoffset_any s.sp s.latest _ osp1 osp2 o.latest.1 o.latest.2).mono ?_; rintro e w' ⟨rfl, rfl⟩))
  go_wp2_with (go_at_call 110; refine (setPair_any b s _ (by exact h) o 2 (ofR s.sp s.latest) (by decide) (by decide) (by unfold ofR; omega) (by unfold ofR; omega)).mono ?_; rintro e w2 ⟨rfl, hc2, hf2⟩; have k6 : w2.cell? ⟨b, 6, none⟩ = some (.int .u8 (s.r 6)) := hc2.cell 6; have f6 := hc2.frozen 6)
  (first | refine bodyPost_end (results_none rfl _ _ _) rfl ?_ | refine bodyPost_ret (results_none rfl _ _ _) rfl ?_)
  exact ⟨rfl, hc2.set 6 _ _ rfl, (Fr.trans (Fr.ofUp (Up.drewN w _)) hf2).setCell⟩
set_option maxRecDepth 100000 in
theorem addSP_does (b : Nat) (s : St) (w : World) (h : Cp w b s) (o : s.Ok) :
    Calls Tryz.prog 90 #[.pointer (some ⟨b, 0, none⟩)] w fun e w' => e = .returned (.tuple #[]) ∧ Cp w' b ({ s with sp := ofR s.sp s.latest, r := upd s.r 6 (ofF s.sp s.latest) }) ∧ Fr b w w' := by
  have c8 : w.cell? ⟨b, 8, none⟩ = some (.int .u16 s.sp) := h.cell 8
  have c6 : w.cell? ⟨b, 6, none⟩ = some (.int .u8 (s.r 6)) := h.cell 6
  have osp1 := (o.sp).1
  have osp2 := (o.sp).2
  have f6 := h.frozen 6
  have f8 := h.frozen 8
  go_enter Tryz.func90, Tryz.ntmps90
  go_wp2_with fail
  go_region_with
    (first
      | (go_at_call 43; refine (latest_any b s _ (by exact h) o).mono ?_; rintro e w' ⟨rfl, n, rfl⟩)
      | (go_at_call 119; refine (addoffset_any s.sp s.latest _ osp1 osp2 o.latest.1 o.latest.2).mono ?_; rintro e w' ⟨rfl, rfl⟩))
  all_goals go_wp2
  all_goals (first | refine bodyPost_end (results_none rfl _ _ _) rfl ?_ | refine bodyPost_ret (results_none rfl _ _ _) rfl ?_)
  all_goals exact ⟨rfl, (h.set 8 _ { s with sp := ofR s.sp s.latest } rfl).set 6 _ _ rfl, Fr.setCell (Fr.setCell (Fr.ofUp (Up.drewN w _)))⟩
set_option maxRecDepth 100000 in
theorem steppedData_any (b : Nat) (s : St) (w : World) (h : Cp w b s) (o : s.Ok) :
    Calls Tryz.prog 44 #[.pointer (some ⟨b, 0, none⟩)] w fun e w' => e = .returned (.int .u8 s.steppedR) ∧ Up w w' := by
  go_enter Tryz.func44, Tryz.ntmps44
  go_wp2_with (go_at_call 70; refine (stepped_any b s _ (by exact h) o).mono ?_; rintro e w2 ⟨rfl, hu⟩)
  go_ret
  exact ⟨rfl, hu⟩
set_option maxRecDepth 100000 in
theorem step_does (b : Nat) (s : St) (w : World) (h : Cp w b s) (o : s.Ok) :
    Calls Tryz.prog 117 #[.pointer (some ⟨b, 0, none⟩)] w fun e w' => e = .returned (.tuple #[]) ∧ Cp w' b ((s.setByte s.y s.steppedR).setReg 6 s.steppedF) ∧ Fr b w w' := by
  go_enter Tryz.func117, Tryz.ntmps117
  go_wp2_with fail
  refine (stepped_any b s _ (by exact h) o).mono ?_
  rintro e w1 ⟨rfl, hu1⟩
  have h1 := h.up hu1
  go_wp2_with fail
  go_region_held3 (fun w' => True) (trivial)
    (first
      | (go_at_call 59; refine (y_any b s _ (by exact h1) o).mono ?_; rintro e w' ⟨rfl, n, rfl⟩)
      | (go_at_call 109; refine (setByte_any b s _ (by exact h1) o s.y s.steppedR o.y.1 o.y.2).mono ?_; rintro e w2 ⟨rfl, hc2, hf2⟩
         have k6 : w2.cell? ⟨b, 6, none⟩ = some (.int .u8 ((s.setByte s.y s.steppedR).r 6)) := hc2.cell 6
         have f6 := hc2.frozen 6))
  go_wp2
  (first | refine bodyPost_end (results_none rfl _ _ _) rfl ?_ | refine bodyPost_ret (results_none rfl _ _ _) rfl ?_)
  exact ⟨rfl, hc2.set 6 _ _ rfl, (Fr.trans (Fr.ofUp (hu1.trans (Up.drewN w1 _))) hf2).setCell⟩
set_option maxRecDepth 100000 in
theorem addPair_does (b : Nat) (s : St) (w : World) (h : Cp w b s) (o : s.Ok) :
    Calls Tryz.prog 81 #[.pointer (some ⟨b, 0, none⟩)] w fun e w' => e = .returned (.tuple #[]) ∧ Cp w' b ((s.setPair 2 (awR (s.pair 2) (s.pair s.p))).setReg 6 (awF (s.pair 2) (s.pair s.p) (s.r 6))) ∧ Fr b w w' := by
  have c6 : w.cell? ⟨b, 6, none⟩ = some (.int .u8 (s.r 6)) := h.cell 6
  go_enter Tryz.func81, Tryz.ntmps81
  go_wp2_with fail
  go_region_held3 (fun w' => w'.cell? ⟨b, 6, none⟩ = some (.int .u8 (s.r 6))) (exact c6)
    (first
      | (go_at_call 35; refine (hl_any b s _ (by exact h) o).mono ?_; rintro e w' ⟨rfl, n, rfl⟩)
      | (go_at_call 73; refine (p_any b s _ (by exact h) o).mono ?_; rintro e w' ⟨rfl, n, rfl⟩)
      | (go_at_call 67; refine (pair_any b s _ (by exact h) o s.p o.p.1 o.p.2).mono ?_; rintro e w' ⟨rfl, n, rfl⟩)
      | (go_at_call 111; refine (addword_any (s.pair 2) (s.pair s.p) (s.r 6) _ (o.pair _).1 (o.pair _).2 (o.pair _).1 (o.pair _).2 (o.r 6).1 (o.r 6).2).mono ?_; rintro e w' ⟨rfl, rfl⟩))
  go_wp2_with (go_at_call 110; refine (setPair_any b s _ (by exact h) o 2 (awR (s.pair 2) (s.pair s.p)) (by decide) (by decide) (by unfold awR; omega) (by unfold awR; omega)).mono ?_; rintro e w2 ⟨rfl, hc2, hf2⟩; have k6 : w2.cell? ⟨b, 6, none⟩ = some (.int .u8 (s.r 6)) := hc2.cell 6; have f6 := hc2.frozen 6)
  (first | refine bodyPost_end (results_none rfl _ _ _) rfl ?_ | refine bodyPost_ret (results_none rfl _ _ _) rfl ?_)
  exact ⟨rfl, hc2.set 6 _ _ rfl, (Fr.trans (Fr.ofUp (Up.drewN w _)) hf2).setCell⟩
end Go.Proofs.YtdkibohpdkdooaaGreatDoor
