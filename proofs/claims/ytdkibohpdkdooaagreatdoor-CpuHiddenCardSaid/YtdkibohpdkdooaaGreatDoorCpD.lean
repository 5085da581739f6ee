/- What instructions do, over the translation: those that reckon nothing. -/
import Derived.Test.YtdkibohpdkdooaaGreatDoorCpC
namespace Go.Proofs.YtdkibohpdkdooaaGreatDoor
open Go.RowKit
set_option linter.unusedVariables false
theorem Fr.drewN {b : Nat} {x y : World} (h : Fr b x y) (n : Nat) : Fr b x (y.drewN n) := ⟨h.os, h.output, h.size, h.block⟩
theorem upd_ok {r : Nat → Int} (h : ∀ k, 0 ≤ r k ∧ r k ≤ 255) (n : Nat) (v : Int) (hv : 0 ≤ v ∧ v ≤ 255) : ∀ k, 0 ≤ upd r n v k ∧ upd r n v k ≤ 255 := by
  intro k
  unfold upd
  split
  · exact hv
  · exact h k
theorem St.Ok.setReg {s : St} (o : s.Ok) (n : Nat) (v : Int) (hv : 0 ≤ v ∧ v ≤ 255) : (s.setReg n v).Ok := { o with r := upd_ok o.r n v hv }
theorem St.Ok.spUp {s : St} (o : s.Ok) : s.spUp.Ok := { o with sp := by unfold St.spUp; simp only; omega }
theorem St.Ok.spDown {s : St} (o : s.Ok) : s.spDown.Ok := { o with sp := by unfold St.spDown; simp only; omega }
theorem St.Ok.go {s : St} (o : s.Ok) (a : Int) (ha : 0 ≤ a ∧ a ≤ 65535) : (s.go a).Ok := { o with pc := ha }
theorem St.Ok.setPair {s : St} (o : s.Ok) (p a : Int) (ha : 0 ≤ a ∧ a ≤ 65535) : (s.setPair p a).Ok := by
  unfold St.setPair
  split
  · exact { o with sp := ha }
  · exact { o with r := upd_ok (upd_ok o.r _ _ (by omega)) _ _ (by omega) }
theorem St.Ok.setPushed {s : St} (o : s.Ok) (p a : Int) (ha : 0 ≤ a ∧ a ≤ 65535) : (s.setPushed p a).Ok := by
  unfold St.setPushed
  split
  · exact { o with r := upd_ok (upd_ok o.r _ _ (by omega)) _ _ (by omega) }
  · exact o.setPair p a ha
theorem St.Ok.setByte {s : St} (o : s.Ok) (n v : Int) (hv : 0 ≤ v ∧ v ≤ 255) : (s.setByte n v).Ok := by
  unfold St.setByte
  split
  · exact o
  · exact { o with r := upd_ok o.r _ _ hv }
set_option maxRecDepth 100000 in
theorem jump_does (b : Nat) (s : St) (w : World) (h : Cp w b s) (o : s.Ok) :
    Calls Tryz.prog 97 #[.pointer (some ⟨b, 0, none⟩)] w fun e w' => e = .returned (.tuple #[]) ∧ Cp w' b (s.go s.word) ∧ Fr b w w' := by
  have c9 : w.cell? ⟨b, 9, none⟩ = some (.int .u16 s.pc) := h.cell 9
  have f9 := h.frozen 9
  go_enter Tryz.func97, Tryz.ntmps97
  go_wp2_with (first | (go_at_call 38; refine (word_any b s _ (by exact h) o).mono ?_; rintro e w' ⟨rfl, n, rfl⟩))
  (first | refine bodyPost_end (results_none rfl _ _ _) rfl ?_ | refine bodyPost_ret (results_none rfl _ _ _) rfl ?_)
  exact ⟨rfl, h.set 9 _ _ rfl, Fr.setCell (Fr.ofUp ⟨rfl, rfl, Nat.le_refl _, fun _ _ => rfl⟩)⟩
set_option maxRecDepth 100000 in
theorem jumpHL_does (b : Nat) (s : St) (w : World) (h : Cp w b s) (o : s.Ok) :
    Calls Tryz.prog 95 #[.pointer (some ⟨b, 0, none⟩)] w fun e w' => e = .returned (.tuple #[]) ∧ Cp w' b (s.go (s.pair 2)) ∧ Fr b w w' := by
  have c9 : w.cell? ⟨b, 9, none⟩ = some (.int .u16 s.pc) := h.cell 9
  have f9 := h.frozen 9
  go_enter Tryz.func95, Tryz.ntmps95
  go_wp2_with (first | (go_at_call 35; refine (hl_any b s _ (by exact h) o).mono ?_; rintro e w' ⟨rfl, n, rfl⟩))
  (first | refine bodyPost_end (results_none rfl _ _ _) rfl ?_ | refine bodyPost_ret (results_none rfl _ _ _) rfl ?_)
  exact ⟨rfl, h.set 9 _ _ rfl, Fr.setCell (Fr.ofUp ⟨rfl, rfl, Nat.le_refl _, fun _ _ => rfl⟩)⟩
set_option maxRecDepth 100000 in
theorem loadA_does (b : Nat) (s : St) (w : World) (h : Cp w b s) (o : s.Ok) :
    Calls Tryz.prog 91 #[.pointer (some ⟨b, 0, none⟩)] w fun e w' => e = .returned (.tuple #[]) ∧ Cp w' b (s.setReg 7 s.latest) ∧ Fr b w w' := by
  have c7 : w.cell? ⟨b, 7, none⟩ = some (.int .u8 (s.r 7)) := h.cell 7
  have f7 := h.frozen 7
  go_enter Tryz.func91, Tryz.ntmps91
  go_wp2_with fail
  go_region_held3 (fun w' => True) (trivial) (first | (go_at_call 43; refine (latest_any b s _ (by exact h) o).mono ?_; rintro e w' ⟨rfl, n, rfl⟩))
  go_wp2
  (first | refine bodyPost_end (results_none rfl _ _ _) rfl ?_ | refine bodyPost_ret (results_none rfl _ _ _) rfl ?_)
  exact ⟨rfl, h.set 7 _ _ rfl, Fr.setCell (Fr.ofUp ⟨rfl, rfl, Nat.le_refl _, fun _ _ => rfl⟩)⟩
set_option maxRecDepth 100000 in
theorem loadSP_does (b : Nat) (s : St) (w : World) (h : Cp w b s) (o : s.Ok) :
    Calls Tryz.prog 96 #[.pointer (some ⟨b, 0, none⟩)] w fun e w' => e = .returned (.tuple #[]) ∧ Cp w' b ({ s with sp := s.pair 2 }) ∧ Fr b w w' := by
  have c8 : w.cell? ⟨b, 8, none⟩ = some (.int .u16 s.sp) := h.cell 8
  have f8 := h.frozen 8
  go_enter Tryz.func96, Tryz.ntmps96
  go_wp2_with (first | (go_at_call 35; refine (hl_any b s _ (by exact h) o).mono ?_; rintro e w' ⟨rfl, n, rfl⟩))
  (first | refine bodyPost_end (results_none rfl _ _ _) rfl ?_ | refine bodyPost_ret (results_none rfl _ _ _) rfl ?_)
  exact ⟨rfl, h.set 8 _ _ rfl, Fr.setCell (Fr.ofUp ⟨rfl, rfl, Nat.le_refl _, fun _ _ => rfl⟩)⟩
set_option maxRecDepth 100000 in
theorem move_does (b : Nat) (s : St) (w : World) (h : Cp w b s) (o : s.Ok) :
    Calls Tryz.prog 87 #[.pointer (some ⟨b, 0, none⟩)] w fun e w' => e = .returned (.tuple #[]) ∧ Cp w' b (s.setByte s.y s.source) ∧ Fr b w w' := by
  go_enter Tryz.func87, Tryz.ntmps87
  go_wp2_with fail
  go_region_held3 (fun w' => True) (trivial) (first | (go_at_call 59; refine (y_any b s _ (by exact h) o).mono ?_; rintro e w' ⟨rfl, n, rfl⟩) | (go_at_call 42; refine (source_any b s _ (by exact h) o).mono ?_; rintro e w' ⟨rfl, n, rfl⟩) | (go_at_call 109; (try rw [IntKind.wrap_u16]); refine (setByte_any b s _ (by exact h) o s.y s.source o.y.1 o.y.2).mono ?_; rintro e w2 ⟨rfl, hc2, hf2⟩))
  go_wp2
  (first | refine bodyPost_end (results_none rfl _ _ _) rfl ?_ | refine bodyPost_ret (results_none rfl _ _ _) rfl ?_)
  exact ⟨rfl, hc2, Fr.trans (Fr.ofUp (Up.drewN w _)) hf2⟩
set_option maxRecDepth 100000 in
theorem loadPair_does (b : Nat) (s : St) (w : World) (h : Cp w b s) (o : s.Ok) :
    Calls Tryz.prog 80 #[.pointer (some ⟨b, 0, none⟩)] w fun e w' => e = .returned (.tuple #[]) ∧ Cp w' b (s.setPair s.p s.word) ∧ Fr b w w' := by
  go_enter Tryz.func80, Tryz.ntmps80
  go_wp2_with fail
  go_region_held3 (fun w' => True) (trivial) (first | (go_at_call 73; refine (p_any b s _ (by exact h) o).mono ?_; rintro e w' ⟨rfl, n, rfl⟩) | (go_at_call 38; refine (word_any b s _ (by exact h) o).mono ?_; rintro e w' ⟨rfl, n, rfl⟩) | (go_at_call 110; (try rw [IntKind.wrap_u16]); refine (setPair_any b s _ (by exact h) o s.p s.word o.p.1 o.p.2 o.word.1 o.word.2).mono ?_; rintro e w2 ⟨rfl, hc2, hf2⟩))
  go_wp2
  (first | refine bodyPost_end (results_none rfl _ _ _) rfl ?_ | refine bodyPost_ret (results_none rfl _ _ _) rfl ?_)
  exact ⟨rfl, hc2, Fr.trans (Fr.ofUp (Up.drewN w _)) hf2⟩
set_option maxRecDepth 100000 in
theorem hlUp_does (b : Nat) (s : St) (w : World) (h : Cp w b s) (o : s.Ok) :
    Calls Tryz.prog 112 #[.pointer (some ⟨b, 0, none⟩)] w fun e w' => e = .returned (.tuple #[]) ∧ Cp w' b (s.hlAdd 1) ∧ Fr b w w' := by
  have hp := o.pair 2
  have hp1 := hp.1
  have hp2 := hp.2
  clear hp
  go_enter Tryz.func112, Tryz.ntmps112
  go_wp2_with fail
  go_region_held3 (fun w' => True) (trivial) (first | (go_at_call 35; refine (hl_any b s _ (by exact h) o).mono ?_; rintro e w' ⟨rfl, n, rfl⟩) | (go_at_call 110; (try rw [IntKind.wrap_u16]); refine (setPair_any b s _ (by exact h) o 2 _ (by decide) (by decide) (by omega) (by omega)).mono ?_; rintro e w2 ⟨rfl, hc2, hf2⟩))
  go_wp2
  (first | refine bodyPost_end (results_none rfl _ _ _) rfl ?_ | refine bodyPost_ret (results_none rfl _ _ _) rfl ?_)
  exact ⟨rfl, hc2, Fr.trans (Fr.ofUp (Up.drewN w _)) hf2⟩
set_option maxRecDepth 100000 in
theorem hlDown_does (b : Nat) (s : St) (w : World) (h : Cp w b s) (o : s.Ok) :
    Calls Tryz.prog 114 #[.pointer (some ⟨b, 0, none⟩)] w fun e w' => e = .returned (.tuple #[]) ∧ Cp w' b (s.hlAdd (-1)) ∧ Fr b w w' := by
  have hp := o.pair 2
  have hp1 := hp.1
  have hp2 := hp.2
  clear hp
  go_enter Tryz.func114, Tryz.ntmps114
  go_wp2_with fail
  go_region_held3 (fun w' => True) (trivial) (first | (go_at_call 35; refine (hl_any b s _ (by exact h) o).mono ?_; rintro e w' ⟨rfl, n, rfl⟩) | (go_at_call 110; (try rw [IntKind.wrap_u16]); refine (setPair_any b s _ (by exact h) o 2 _ (by decide) (by decide) (by omega) (by omega)).mono ?_; rintro e w2 ⟨rfl, hc2, hf2⟩))
  go_wp2
  (first | refine bodyPost_end (results_none rfl _ _ _) rfl ?_ | refine bodyPost_ret (results_none rfl _ _ _) rfl ?_)
  exact ⟨rfl, hc2, Fr.trans (Fr.ofUp (Up.drewN w _)) hf2⟩
set_option maxRecDepth 100000 in
theorem pairUp_does (b : Nat) (s : St) (w : World) (h : Cp w b s) (o : s.Ok) :
    Calls Tryz.prog 83 #[.pointer (some ⟨b, 0, none⟩)] w fun e w' => e = .returned (.tuple #[]) ∧ Cp w' b (s.setPair s.p ((s.pair s.p + 1) % 65536)) ∧ Fr b w w' := by
  have hp := o.pair s.p
  have hp1 := hp.1
  have hp2 := hp.2
  clear hp
  go_enter Tryz.func83, Tryz.ntmps83
  go_wp2_with fail
  go_region_held3 (fun w' => True) (trivial) (first | (go_at_call 73; refine (p_any b s _ (by exact h) o).mono ?_; rintro e w' ⟨rfl, n, rfl⟩) | (go_at_call 67; refine (pair_any b s _ (by exact h) o s.p o.p.1 o.p.2).mono ?_; rintro e w' ⟨rfl, n, rfl⟩) | (go_at_call 110; (try rw [IntKind.wrap_u16]); refine (setPair_any b s _ (by exact h) o s.p _ o.p.1 o.p.2 (by omega) (by omega)).mono ?_; rintro e w2 ⟨rfl, hc2, hf2⟩))
  go_wp2
  (first | refine bodyPost_end (results_none rfl _ _ _) rfl ?_ | refine bodyPost_ret (results_none rfl _ _ _) rfl ?_)
  exact ⟨rfl, hc2, Fr.trans (Fr.ofUp (Up.drewN w _)) hf2⟩
set_option maxRecDepth 100000 in
theorem pairDown_does (b : Nat) (s : St) (w : World) (h : Cp w b s) (o : s.Ok) :
    Calls Tryz.prog 84 #[.pointer (some ⟨b, 0, none⟩)] w fun e w' => e = .returned (.tuple #[]) ∧ Cp w' b (s.setPair s.p ((s.pair s.p - 1) % 65536)) ∧ Fr b w w' := by
  have hp := o.pair s.p
  have hp1 := hp.1
  have hp2 := hp.2
  clear hp
  go_enter Tryz.func84, Tryz.ntmps84
  go_wp2_with fail
  go_region_held3 (fun w' => True) (trivial) (first | (go_at_call 73; refine (p_any b s _ (by exact h) o).mono ?_; rintro e w' ⟨rfl, n, rfl⟩) | (go_at_call 67; refine (pair_any b s _ (by exact h) o s.p o.p.1 o.p.2).mono ?_; rintro e w' ⟨rfl, n, rfl⟩) | (go_at_call 110; (try rw [IntKind.wrap_u16]); refine (setPair_any b s _ (by exact h) o s.p _ o.p.1 o.p.2 (by omega) (by omega)).mono ?_; rintro e w2 ⟨rfl, hc2, hf2⟩))
  go_wp2
  (first | refine bodyPost_end (results_none rfl _ _ _) rfl ?_ | refine bodyPost_ret (results_none rfl _ _ _) rfl ?_)
  exact ⟨rfl, hc2, Fr.trans (Fr.ofUp (Up.drewN w _)) hf2⟩
end Go.Proofs.YtdkibohpdkdooaaGreatDoor
