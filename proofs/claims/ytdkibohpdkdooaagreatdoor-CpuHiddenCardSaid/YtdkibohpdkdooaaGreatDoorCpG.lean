/- What instructions do, over the translation: those that reckon. -/
import Derived.Test.YtdkibohpdkdooaaGreatDoorCpF
namespace Go.Proofs.YtdkibohpdkdooaaGreatDoor
open Go.RowKit
set_option linter.unusedVariables false
set_option maxHeartbeats 4000000 in
set_option maxRecDepth 100000 in
theorem sum_does (b : Nat) (s : St) (w : World) (h : Cp w b s) (o : s.Ok) :
    Calls Tryz.prog 88 #[.pointer (some ⟨b, 0, none⟩)] w fun e w' => e = .returned (.tuple #[]) ∧ Cp w' b ({ s with r := upd (upd s.r 7 (arR s.y (s.r 7) s.source (s.r 6))) 6 (arF s.y (s.r 7) s.source (s.r 6)) }) ∧ Fr b w w' := by
  have c6 : w.cell? ⟨b, 6, none⟩ = some (.int .u8 (s.r 6)) := h.cell 6
  have hy1 := o.y.1
  have hy2 := o.y.2
  go_enter Tryz.func88, Tryz.ntmps88
  go_wp2_with fail
  go_region_with
    (first
      | (go_at_call 59; refine (y_any b s _ (by exact h) o).mono ?_; rintro e w' ⟨rfl, n, rfl⟩)
      | (go_at_call 41; refine (a_any b s _ (by exact h) o).mono ?_; rintro e w' ⟨rfl, n, rfl⟩)
      | (go_at_call 42; refine (source_any b s _ (by exact h) o).mono ?_; rintro e w' ⟨rfl, n, rfl⟩)
      | (go_at_call 118; (try rw [wi s.y (by omega) (by omega)]); refine (arith_any s.y (s.r 7) s.source (s.r 6) _ (o.r 7).1 (o.r 7).2 (o.value _).1 (o.value _).2 (o.r 6).1 (o.r 6).2).mono ?_; rintro e w2 ⟨rfl, hg⟩
         have hup : Up w w2 := (Up.drewN w _).trans (Up.ofGrown hg)
         have h2 := h.up hup
         have k6 : w2.cell? ⟨b, 6, none⟩ = some (.int .u8 (s.r 6)) := h2.cell 6
         have k7 : w2.cell? ⟨b, 7, none⟩ = some (.int .u8 (s.r 7)) := h2.cell 7
         have f6 := h2.frozen 6
         have f7 := h2.frozen 7
         clear hg))
  all_goals go_wp2
  all_goals (first | refine bodyPost_end (results_none rfl _ _ _) rfl ?_ | refine bodyPost_ret (results_none rfl _ _ _) rfl ?_)
  all_goals exact ⟨rfl, (h2.set 7 _ { s with r := upd s.r 7 (arR s.y (s.r 7) s.source (s.r 6)) } rfl).set 6 _ _ rfl, Fr.setCell (Fr.setCell (Fr.ofUp hup))⟩
set_option maxHeartbeats 4000000 in
set_option maxRecDepth 100000 in
theorem turn_does (b : Nat) (s : St) (w : World) (h : Cp w b s) (o : s.Ok) (hL : Lb b w) :
    Calls Tryz.prog 116 #[.pointer (some ⟨b, 0, none⟩)] w fun e w' => e = .returned (.tuple #[]) ∧ Cp w' b ({ s with r := upd (upd s.r 7 (tuR s.y (s.r 7) (s.r 6))) 6 (tuF s.y (s.r 7) (s.r 6)) }) ∧ Fr b w w' := by
  have c6 : w.cell? ⟨b, 6, none⟩ = some (.int .u8 (s.r 6)) := h.cell 6
  have hy1 := o.y.1
  have hy2 := o.y.2
  go_enter Tryz.func116, Tryz.ntmps116
  go_wp2_with fail
  go_region_with
    (first
      | (go_at_call 59; refine (y_any b s _ (by exact h) o).mono ?_; rintro e w' ⟨rfl, n, rfl⟩)
      | (go_at_call 41; refine (a_any b s _ (by exact h) o).mono ?_; rintro e w' ⟨rfl, n, rfl⟩)
      | (go_at_call 42; refine (source_any b s _ (by exact h) o).mono ?_; rintro e w' ⟨rfl, n, rfl⟩)
      | (go_at_call 139; (try rw [wi s.y (by omega) (by omega)]); refine (turn_any s.y (s.r 7) (s.r 6) _ (by first | exact hL.1 | exact LaidB.up hL.1 (Up.drewN w _)) (o.r 7).1 (o.r 7).2 (o.r 6).1 (o.r 6).2).mono ?_; rintro e w2 ⟨rfl, hg⟩
         have hup : Up w w2 := (Up.drewN w _).trans (Up.ofGrown hg)
         have h2 := h.up hup
         have k6 : w2.cell? ⟨b, 6, none⟩ = some (.int .u8 (s.r 6)) := h2.cell 6
         have k7 : w2.cell? ⟨b, 7, none⟩ = some (.int .u8 (s.r 7)) := h2.cell 7
         have f6 := h2.frozen 6
         have f7 := h2.frozen 7
         clear hg))
  all_goals go_wp2
  all_goals (first | refine bodyPost_end (results_none rfl _ _ _) rfl ?_ | refine bodyPost_ret (results_none rfl _ _ _) rfl ?_)
  all_goals exact ⟨rfl, (h2.set 7 _ { s with r := upd s.r 7 (tuR s.y (s.r 7) (s.r 6)) } rfl).set 6 _ _ rfl, Fr.setCell (Fr.setCell (Fr.ofUp hup))⟩
end Go.Proofs.YtdkibohpdkdooaaGreatDoor
