/- What instructions do, over the translation: those that reckon nothing. -/
import Derived.Test.YtbfjihcnnefehaaGreatDoorCpC
namespace Go.Proofs.YtbfjihcnnefehaaGreatDoor
open Go.RowKit
set_option linter.unusedVariables false
theorem Fr.drewN {b : Nat} {x y : World} (h : Fr b x y) (n : Nat) : Fr b x (y.drewN n) := ⟨h.os, h.output, h.size, h.block⟩
theorem upd_ok {r : Nat → Int} (h : ∀ k, 0 ≤ r k ∧ r k ≤ 255) (n : Nat) (v : Int) (hv : 0 ≤ v ∧ v ≤ 255) : ∀ k, 0 ≤ upd r n v k ∧ upd r n v k ≤ 255 := by
  intro k
  unfold upd
  split
  · exact hv
  · exact h k
theorem St.Ok.setReg {s : St} (o : s.Ok) (n : Nat) (v : Int) (hv : 0 ≤ v ∧ v ≤ 255) : (s.setReg n v).Ok := { o with r := upd_ok o.r n v hv }
theorem St.Ok.spUp {s : St} (o : s.Ok) : s.spUp.Ok := { o with sp := by unfold St.spUp; simp only; omega }
theorem St.Ok.spDown {s : St} (o : s.Ok) : s.spDown.Ok := { o with sp := by unfold St.spDown; simp only; omega }
theorem St.Ok.go {s : St} (o : s.Ok) (a : Int) (ha : 0 ≤ a ∧ a ≤ 65535) : (s.go a).Ok := { o with pc := ha }
theorem St.Ok.setPair {s : St} (o : s.Ok) (p a : Int) (ha : 0 ≤ a ∧ a ≤ 65535) : (s.setPair p a).Ok := by
  unfold St.setPair
  split
  · exact { o with sp := ha }
  · exact { o with r := upd_ok (upd_ok o.r _ _ (by omega)) _ _ (by omega) }
theorem St.Ok.setPushed {s : St} (o : s.Ok) (p a : Int) (ha : 0 ≤ a ∧ a ≤ 65535) : (s.setPushed p a).Ok := by
  unfold St.setPushed
  split
  · exact { o with r := upd_ok (upd_ok o.r _ _ (by omega)) _ _ (by omega) }
  · exact o.setPair p a ha
theorem St.Ok.setByte {s : St} (o : s.Ok) (n v : Int) (hv : 0 ≤ v ∧ v ≤ 255) : (s.setByte n v).Ok := by
  unfold St.setByte
  split
  · exact o
  · exact { o with r := upd_ok o.r _ _ hv }
set_option maxRecDepth 100000 in
theorem jump_does (b : Nat) (s : St) (w : World) (h : Cp w b s) (o : s.Ok) :
    Calls Tryz.prog 161 #[.pointer (some ⟨b, 0, none⟩)] w fun e w' => e = .returned (.tuple #[]) ∧ Cp w' b (s.go s.word) ∧ Fr b w w' := by
  have c9 : w.cell? ⟨b, 9, none⟩ = some (.int .u16 s.pc) := h.cell 9
  have f9 := h.frozen 9
  go_enter Tryz.func161, Tryz.ntmps161
  go_wp2_with (first | (go_at_call 88; refine (word_any b s _ (by exact h) o).mono ?_; rintro e w' ⟨rfl, n, rfl⟩))
  (first | refine bodyPost_end (results_none rfl _ _ _) rfl ?_ | refine bodyPost_ret (results_none rfl _ _ _) rfl ?_)
  exact ⟨rfl, h.set 9 _ _ rfl, Fr.setCell (Fr.ofUp ⟨rfl, rfl, Nat.le_refl _, fun _ _ => rfl⟩)⟩
set_option maxRecDepth 100000 in
theorem jumpHL_does (b : Nat) (s : St) (w : World) (h : Cp w b s) (o : s.Ok) :
    Calls Tryz.prog 159 #[.pointer (some ⟨b, 0, none⟩)] w fun e w' => e = .returned (.tuple #[]) ∧ Cp w' b (s.go (s.pair 2)) ∧ Fr b w w' := by
  have c9 : w.cell? ⟨b, 9, none⟩ = some (.int .u16 s.pc) := h.cell 9
  have f9 := h.frozen 9
  go_enter Tryz.func159, Tryz.ntmps159
  go_wp2_with (first | (go_at_call 85; refine (hl_any b s _ (by exact h) o).mono ?_; rintro e w' ⟨rfl, n, rfl⟩))
  (first | refine bodyPost_end (results_none rfl _ _ _) rfl ?_ | refine bodyPost_ret (results_none rfl _ _ _) rfl ?_)
  exact ⟨rfl, h.set 9 _ _ rfl, Fr.setCell (Fr.ofUp ⟨rfl, rfl, Nat.le_refl _, fun _ _ => rfl⟩)⟩
set_option maxRecDepth 100000 in
theorem loadA_does (b : Nat) (s : St) (w : World) (h : Cp w b s) (o : s.Ok) :
    Calls Tryz.prog 155 #[.pointer (some ⟨b, 0, none⟩)] w fun e w' => e = .returned (.tuple #[]) ∧ Cp w' b (s.setReg 7 s.latest) ∧ Fr b w w' := by
  have c7 : w.cell? ⟨b, 7, none⟩ = some (.int .u8 (s.r 7)) := h.cell 7
  have f7 := h.frozen 7
  go_enter Tryz.func155, Tryz.ntmps155
  go_wp2_with fail
  go_region_held3 (fun w' => True) (trivial) (first | (go_at_call 93; refine (latest_any b s _ (by exact h) o).mono ?_; rintro e w' ⟨rfl, n, rfl⟩))
  go_wp2
  (first | refine bodyPost_end (results_none rfl _ _ _) rfl ?_ | refine bodyPost_ret (results_none rfl _ _ _) rfl ?_)
  exact ⟨rfl, h.set 7 _ _ rfl, Fr.setCell (Fr.ofUp ⟨rfl, rfl, Nat.le_refl _, fun _ _ => rfl⟩)⟩
set_option maxRecDepth 100000 in
theorem loadSP_does (b : Nat) (s : St) (w : World) (h : Cp w b s) (o : s.Ok) :
    Calls Tryz.prog 160 #[.pointer (some ⟨b, 0, none⟩)] w fun e w' => e = .returned (.tuple #[]) ∧ Cp w' b ({ s with sp := s.pair 2 }) ∧ Fr b w w' := by
  have c8 : w.cell? ⟨b, 8, none⟩ = some (.int .u16 s.sp) := h.cell 8
  have f8 := h.frozen 8
  go_enter Tryz.func160, Tryz.ntmps160
  go_wp2_with (first | (go_at_call 85; refine (hl_any b s _ (by exact h) o).mono ?_; rintro e w' ⟨rfl, n, rfl⟩))
  (first | refine bodyPost_end (results_none rfl _ _ _) rfl ?_ | refine bodyPost_ret (results_none rfl _ _ _) rfl ?_)
  exact ⟨rfl, h.set 8 _ _ rfl, Fr.setCell (Fr.ofUp ⟨rfl, rfl, Nat.le_refl _, fun _ _ => rfl⟩)⟩
set_option maxRecDepth 100000 in
theorem move_does (b : Nat) (s : St) (w : World) (h : Cp w b s) (o : s.Ok) :
    Calls Tryz.prog 151 #[.pointer (some ⟨b, 0, none⟩)] w fun e w' => e = .returned (.tuple #[]) ∧ Cp w' b (s.setByte s.y s.source) ∧ Fr b w w' := by
  go_enter Tryz.func151, Tryz.ntmps151
  go_wp2_with fail
  go_region_held3 (fun w' => True) (trivial) (first | (go_at_call 109; refine (y_any b s _ (by exact h) o).mono ?_; rintro e w' ⟨rfl, n, rfl⟩) | (go_at_call 92; refine (source_any b s _ (by exact h) o).mono ?_; rintro e w' ⟨rfl, n, rfl⟩) | (go_at_call 174; (try rw [IntKind.wrap_u16]); refine (setByte_any b s _ (by exact h) o s.y s.source o.y.1 o.y.2).mono ?_; rintro e w2 ⟨rfl, hc2, hf2⟩))
  go_wp2
  (first | refine bodyPost_end (results_none rfl _ _ _) rfl ?_ | refine bodyPost_ret (results_none rfl _ _ _) rfl ?_)
  exact ⟨rfl, hc2, Fr.trans (Fr.ofUp (Up.drewN w _)) hf2⟩
set_option maxRecDepth 100000 in
theorem loadPair_does (b : Nat) (s : St) (w : World) (h : Cp w b s) (o : s.Ok) :
    Calls Tryz.prog 144 #[.pointer (some ⟨b, 0, none⟩)] w fun e w' => e = .returned (.tuple #[]) ∧ Cp w' b (s.setPair s.p s.word) ∧ Fr b w w' := by
  go_enter Tryz.func144, Tryz.ntmps144
  go_wp2_with fail
  go_region_held3 (fun w' => True) (trivial) (first | (go_at_call 137; refine (p_any b s _ (by exact h) o).mono ?_; rintro e w' ⟨rfl, n, rfl⟩) | (go_at_call 88; refine (word_any b s _ (by exact h) o).mono ?_; rintro e w' ⟨rfl, n, rfl⟩) | (go_at_call 175; (try rw [IntKind.wrap_u16]); refine (setPair_any b s _ (by exact h) o s.p s.word o.p.1 o.p.2 o.word.1 o.word.2).mono ?_; rintro e w2 ⟨rfl, hc2, hf2⟩))
  go_wp2
  (first | refine bodyPost_end (results_none rfl _ _ _) rfl ?_ | refine bodyPost_ret (results_none rfl _ _ _) rfl ?_)
  exact ⟨rfl, hc2, Fr.trans (Fr.ofUp (Up.drewN w _)) hf2⟩
set_option maxRecDepth 100000 in
theorem hlUp_does (b : Nat) (s : St) (w : World) (h : Cp w b s) (o : s.Ok) :
    Calls Tryz.prog 177 #[.pointer (some ⟨b, 0, none⟩)] w fun e w' => e = .returned (.tuple #[]) ∧ Cp w' b (s.hlAdd 1) ∧ Fr b w w' := by
  have hp := o.pair 2
  have hp1 := hp.1
  have hp2 := hp.2
  clear hp
  go_enter Tryz.func177, Tryz.ntmps177
  go_wp2_with fail
  go_region_held3 (fun w' => True) (trivial) (first | (go_at_call 85; refine (hl_any b s _ (by exact h) o).mono ?_; rintro e w' ⟨rfl, n, rfl⟩) | (go_at_call 175; (try rw [IntKind.wrap_u16]); refine (setPair_any b s _ (by exact h) o 2 _ (by decide) (by decide) (by omega) (by omega)).mono ?_; rintro e w2 ⟨rfl, hc2, hf2⟩))
  go_wp2
  (first | refine bodyPost_end (results_none rfl _ _ _) rfl ?_ | refine bodyPost_ret (results_none rfl _ _ _) rfl ?_)
  exact ⟨rfl, hc2, Fr.trans (Fr.ofUp (Up.drewN w _)) hf2⟩
set_option maxRecDepth 100000 in
theorem hlDown_does (b : Nat) (s : St) (w : World) (h : Cp w b s) (o : s.Ok) :
    Calls Tryz.prog 179 #[.pointer (some ⟨b, 0, none⟩)] w fun e w' => e = .returned (.tuple #[]) ∧ Cp w' b (s.hlAdd (-1)) ∧ Fr b w w' := by
  have hp := o.pair 2
  have hp1 := hp.1
  have hp2 := hp.2
  clear hp
  go_enter Tryz.func179, Tryz.ntmps179
  go_wp2_with fail
  go_region_held3 (fun w' => True) (trivial) (first | (go_at_call 85; refine (hl_any b s _ (by exact h) o).mono ?_; rintro e w' ⟨rfl, n, rfl⟩) | (go_at_call 175; (try rw [IntKind.wrap_u16]); refine (setPair_any b s _ (by exact h) o 2 _ (by decide) (by decide) (by omega) (by omega)).mono ?_; rintro e w2 ⟨rfl, hc2, hf2⟩))
  go_wp2
  (first | refine bodyPost_end (results_none rfl _ _ _) rfl ?_ | refine bodyPost_ret (results_none rfl _ _ _) rfl ?_)
  exact ⟨rfl, hc2, Fr.trans (Fr.ofUp (Up.drewN w _)) hf2⟩
set_option maxRecDepth 100000 in
theorem pairUp_does (b : Nat) (s : St) (w : World) (h : Cp w b s) (o : s.Ok) :
    Calls Tryz.prog 147 #[.pointer (some ⟨b, 0, none⟩)] w fun e w' => e = .returned (.tuple #[]) ∧ Cp w' b (s.setPair s.p ((s.pair s.p + 1) % 65536)) ∧ Fr b w w' := by
  have hp := o.pair s.p
  have hp1 := hp.1
  have hp2 := hp.2
  clear hp
  go_enter Tryz.func147, Tryz.ntmps147
  go_wp2_with fail
  go_region_held3 (fun w' => True) (trivial) (first | (go_at_call 137; refine (p_any b s _ (by exact h) o).mono ?_; rintro e w' ⟨rfl, n, rfl⟩) | (go_at_call 131; refine (pair_any b s _ (by exact h) o s.p o.p.1 o.p.2).mono ?_; rintro e w' ⟨rfl, n, rfl⟩) | (go_at_call 175; (try rw [IntKind.wrap_u16]); refine (setPair_any b s _ (by exact h) o s.p _ o.p.1 o.p.2 (by omega) (by omega)).mono ?_; rintro e w2 ⟨rfl, hc2, hf2⟩))
  go_wp2
  (first | refine bodyPost_end (results_none rfl _ _ _) rfl ?_ | refine bodyPost_ret (results_none rfl _ _ _) rfl ?_)
  exact ⟨rfl, hc2, Fr.trans (Fr.ofUp (Up.drewN w _)) hf2⟩
set_option maxRecDepth 100000 in
theorem pairDown_does (b : Nat) (s : St) (w : World) (h : Cp w b s) (o : s.Ok) :
    Calls Tryz.prog 148 #[.pointer (some ⟨b, 0, none⟩)] w fun e w' => e = .returned (.tuple #[]) ∧ Cp w' b (s.setPair s.p ((s.pair s.p - 1) % 65536)) ∧ Fr b w w' := by
  have hp := o.pair s.p
  have hp1 := hp.1
  have hp2 := hp.2
  clear hp
  go_enter Tryz.func148, Tryz.ntmps148
  go_wp2_with fail
  go_region_held3 (fun w' => True) (trivial) (first | (go_at_call 137; refine (p_any b s _ (by exact h) o).mono ?_; rintro e w' ⟨rfl, n, rfl⟩) | (go_at_call 131; refine (pair_any b s _ (by exact h) o s.p o.p.1 o.p.2).mono ?_; rintro e w' ⟨rfl, n, rfl⟩) | (go_at_call 175; (try rw [IntKind.wrap_u16]); refine (setPair_any b s _ (by exact h) o s.p _ o.p.1 o.p.2 (by omega) (by omega)).mono ?_; rintro e w2 ⟨rfl, hc2, hf2⟩))
  go_wp2
  (first | refine bodyPost_end (results_none rfl _ _ _) rfl ?_ | refine bodyPost_ret (results_none rfl _ _ _) rfl ?_)
  exact ⟨rfl, hc2, Fr.trans (Fr.ofUp (Up.drewN w _)) hf2⟩
end Go.Proofs.YtbfjihcnnefehaaGreatDoor
