/- What instructions do, over the translation: calls, returns and jumps. -/
import Derived.Test.YtdkibohpdkdooaaGreatDoorCpD
namespace Go.Proofs.YtdkibohpdkdooaaGreatDoor
open Go.RowKit
set_option linter.unusedVariables false
theorem near (p e : Int) (h0 : 0 ≤ e) (h1 : e ≤ 255) : IntKind.u16.wrap (p + IntKind.u16.wrap (IntKind.i8.wrap e)) = (p + e - (if 127 < e then 256 else 0)) % 65536 := by
  rw [signed e h0 h1, IntKind.wrap_u16, IntKind.wrap_u16]
  split <;> omega
set_option maxRecDepth 100000 in
theorem call_does (b : Nat) (s : St) (w : World) (h : Cp w b s) (o : s.Ok) :
    Calls Tryz.prog 122 #[.pointer (some ⟨b, 0, none⟩)] w fun e w' => e = .returned (.tuple #[]) ∧ Cp w' b (s.spDown.go s.word) ∧ Fr b w w' := by
  have c8 : w.cell? ⟨b, 8, none⟩ = some (.int .u16 s.sp) := h.cell 8
  have c9 : w.cell? ⟨b, 9, none⟩ = some (.int .u16 s.pc) := h.cell 9
  have osp1 := (o.sp).1
  have osp2 := (o.sp).2
  have f8 := h.frozen 8
  have f9 := h.frozen 9
  go_enter Tryz.func122, Tryz.ntmps122
  go_wp2_with (first | (go_at_call 38; refine (word_any b s.spDown _ (by exact h.set 8 _ _ rfl) o.spDown).mono ?_; rintro e w' ⟨rfl, n, rfl⟩))
  (first | refine bodyPost_end (results_none rfl _ _ _) rfl ?_ | refine bodyPost_ret (results_none rfl _ _ _) rfl ?_)
  exact ⟨rfl, (h.set 8 _ s.spDown rfl).set 9 _ _ rfl, Fr.setCell (Fr.drewN (Fr.setCell (Fr.refl b w)) _)⟩
set_option maxRecDepth 100000 in
theorem ret_does (b : Nat) (s : St) (w : World) (h : Cp w b s) (o : s.Ok) :
    Calls Tryz.prog 89 #[.pointer (some ⟨b, 0, none⟩)] w fun e w' => e = .returned (.tuple #[]) ∧ Cp w' b (s.spUp.go s.word) ∧ Fr b w w' := by
  have c8 : w.cell? ⟨b, 8, none⟩ = some (.int .u16 s.sp) := h.cell 8
  have c9 : w.cell? ⟨b, 9, none⟩ = some (.int .u16 s.pc) := h.cell 9
  have osp1 := (o.sp).1
  have osp2 := (o.sp).2
  have f8 := h.frozen 8
  have f9 := h.frozen 9
  go_enter Tryz.func89, Tryz.ntmps89
  go_wp2_with (first | (go_at_call 38; refine (word_any b s.spUp _ (by exact h.set 8 _ _ rfl) o.spUp).mono ?_; rintro e w' ⟨rfl, n, rfl⟩))
  (first | refine bodyPost_end (results_none rfl _ _ _) rfl ?_ | refine bodyPost_ret (results_none rfl _ _ _) rfl ?_)
  exact ⟨rfl, (h.set 8 _ s.spUp rfl).set 9 _ _ rfl, Fr.setCell (Fr.drewN (Fr.setCell (Fr.refl b w)) _)⟩
set_option maxRecDepth 100000 in
theorem restart_does (b : Nat) (s : St) (w : World) (h : Cp w b s) (o : s.Ok) :
    Calls Tryz.prog 121 #[.pointer (some ⟨b, 0, none⟩)] w fun e w' => e = .returned (.tuple #[]) ∧ Cp w' b (s.spDown.go (8 * s.y)) ∧ Fr b w w' := by
  have c8 : w.cell? ⟨b, 8, none⟩ = some (.int .u16 s.sp) := h.cell 8
  have c9 : w.cell? ⟨b, 9, none⟩ = some (.int .u16 s.pc) := h.cell 9
  have osp1 := (o.sp).1
  have osp2 := (o.sp).2
  have f8 := h.frozen 8
  have f9 := h.frozen 9
  have hy1 := o.spDown.y.1
  have hy2 := o.spDown.y.2
  go_enter Tryz.func121, Tryz.ntmps121
  go_wp2_with (first | (go_at_call 59; refine (y_any b s.spDown _ (by exact h.set 8 _ _ rfl) o.spDown).mono ?_; rintro e w' ⟨rfl, n, rfl⟩))
  (first | refine bodyPost_end (results_none rfl _ _ _) rfl ?_ | refine bodyPost_ret (results_none rfl _ _ _) rfl ?_)
  exact ⟨rfl, (h.set 8 _ s.spDown rfl).set 9 _ _ rfl, Fr.setCell (Fr.drewN (Fr.setCell (Fr.refl b w)) _)⟩
set_option maxRecDepth 100000 in
theorem reti_does (b : Nat) (s : St) (w : World) (h : Cp w b s) (o : s.Ok) :
    Calls Tryz.prog 94 #[.pointer (some ⟨b, 0, none⟩)] w fun e w' => e = .returned (.tuple #[]) ∧ Cp w' b ({ s.spUp.go s.word with ime := true }) ∧ Fr b w w' := by
  go_enter Tryz.func94, Tryz.ntmps94
  go_wp2_with (go_at_call 89; refine (ret_does b s _ (by exact h) o).mono ?_; rintro e w2 ⟨rfl, hc2, hf2⟩; have k10 : w2.cell? ⟨b, 10, none⟩ = some (.bool s.ime) := hc2.cell 10; have f10 := hc2.frozen 10)
  (first | refine bodyPost_end (results_none rfl _ _ _) rfl ?_ | refine bodyPost_ret (results_none rfl _ _ _) rfl ?_)
  exact ⟨rfl, hc2.set 10 _ _ rfl, hf2.setCell⟩
set_option maxRecDepth 100000 in
theorem pop_does (b : Nat) (s : St) (w : World) (h : Cp w b s) (o : s.Ok) :
    Calls Tryz.prog 93 #[.pointer (some ⟨b, 0, none⟩)] w fun e w' => e = .returned (.tuple #[]) ∧ Cp w' b (s.spUp.setPushed s.p s.word) ∧ Fr b w w' := by
  have c8 : w.cell? ⟨b, 8, none⟩ = some (.int .u16 s.sp) := h.cell 8
  have osp1 := (o.sp).1
  have osp2 := (o.sp).2
  have f8 := h.frozen 8
  go_enter Tryz.func93, Tryz.ntmps93
  go_wp2_with fail
  go_region_held3 (fun w' => True) (trivial) (first | (go_at_call 73; refine (p_any b s.spUp _ (by exact h.set 8 _ _ rfl) o.spUp).mono ?_; rintro e w' ⟨rfl, n, rfl⟩) | (go_at_call 38; refine (word_any b s.spUp _ (by exact h.set 8 _ _ rfl) o.spUp).mono ?_; rintro e w' ⟨rfl, n, rfl⟩) | (go_at_call 120; refine (setPushedPair_any b s.spUp _ (by exact h.set 8 _ _ rfl) o.spUp s.p s.word o.p.1 o.p.2 o.word.1 o.word.2).mono ?_; rintro e w2 ⟨rfl, hc2, hf2⟩))
  go_wp2
  (first | refine bodyPost_end (results_none rfl _ _ _) rfl ?_ | refine bodyPost_ret (results_none rfl _ _ _) rfl ?_)
  exact ⟨rfl, hc2, Fr.trans (Fr.drewN (Fr.setCell (Fr.refl b w)) _) hf2⟩
set_option maxRecDepth 100000 in
theorem jumpNear_does (b : Nat) (s : St) (w : World) (h : Cp w b s) (o : s.Ok) :
    Calls Tryz.prog 79 #[.pointer (some ⟨b, 0, none⟩)] w fun e w' => e = .returned (.tuple #[]) ∧ Cp w' b (s.go ((s.pc + s.latest - (if 127 < s.latest then 256 else 0)) % 65536)) ∧ Fr b w w' := by
  have c9 : w.cell? ⟨b, 9, none⟩ = some (.int .u16 s.pc) := h.cell 9
  have opc1 := (o.pc).1
  have opc2 := (o.pc).2
  have f9 := h.frozen 9
  have hl1 := o.latest.1
  have hl2 := o.latest.2
  have hC : Cp w b s := h
  obtain ⟨T, hT⟩ : ∃ T, T = (s.pc + s.latest - (if 127 < s.latest then 256 else 0)) % 65536 := ⟨_, rfl⟩
  have HT : Hid ((s.pc + s.latest - (if 127 < s.latest then 256 else 0)) % 65536 = T) := hT.symm
  rw [← hT]
  clear hT
  go_enter Tryz.func79, Tryz.ntmps79
  go_wp2_with fail
  go_region_with (first | (go_at_call 43; refine (latest_any b s _ (by exact h) o).mono ?_; rintro e w' ⟨rfl, n, rfl⟩))
  all_goals go_wp2
  all_goals (first | refine bodyPost_end (results_none rfl _ _ _) rfl ?_ | refine bodyPost_ret (results_none rfl _ _ _) rfl ?_)
  all_goals rw [near s.pc s.latest hl1 hl2, HT.out]
  all_goals exact ⟨rfl, hC.set 9 _ _ rfl, Fr.setCell (Fr.ofUp (Up.drewN w _))⟩
set_option maxRecDepth 100000 in
theorem loadAUp_does (b : Nat) (s : St) (w : World) (h : Cp w b s) (o : s.Ok) :
    Calls Tryz.prog 113 #[.pointer (some ⟨b, 0, none⟩)] w fun e w' => e = .returned (.tuple #[]) ∧ Cp w' b ((s.setReg 7 s.latest).hlAdd 1) ∧ Fr b w w' := by
  go_enter Tryz.func113, Tryz.ntmps113
  go_wp2_with (first | (go_at_call 91; refine (loadA_does b s _ (by exact h) o).mono ?_; rintro e w2 ⟨rfl, hc2, hf2⟩) | (go_at_call 112; refine (hlUp_does b (s.setReg 7 s.latest) _ (by exact hc2) (o.setReg 7 _ o.latest)).mono ?_; rintro e w3 ⟨rfl, hc3, hf3⟩))
  (first | refine bodyPost_end (results_none rfl _ _ _) rfl ?_ | refine bodyPost_ret (results_none rfl _ _ _) rfl ?_)
  exact ⟨rfl, hc3, hf2.trans hf3⟩
set_option maxRecDepth 100000 in
theorem loadADown_does (b : Nat) (s : St) (w : World) (h : Cp w b s) (o : s.Ok) :
    Calls Tryz.prog 115 #[.pointer (some ⟨b, 0, none⟩)] w fun e w' => e = .returned (.tuple #[]) ∧ Cp w' b ((s.setReg 7 s.latest).hlAdd (-1)) ∧ Fr b w w' := by
  go_enter Tryz.func115, Tryz.ntmps115
  go_wp2_with (first | (go_at_call 91; refine (loadA_does b s _ (by exact h) o).mono ?_; rintro e w2 ⟨rfl, hc2, hf2⟩) | (go_at_call 114; refine (hlDown_does b (s.setReg 7 s.latest) _ (by exact hc2) (o.setReg 7 _ o.latest)).mono ?_; rintro e w3 ⟨rfl, hc3, hf3⟩))
  (first | refine bodyPost_end (results_none rfl _ _ _) rfl ?_ | refine bodyPost_ret (results_none rfl _ _ _) rfl ?_)
  exact ⟨rfl, hc3, hf2.trans hf3⟩
end Go.Proofs.YtdkibohpdkdooaaGreatDoor
