/- The calls that write a processor, over the translation: the small ones. -/
import Derived.Test.YtdkibohpdkdooaaGreatDoorCpB
namespace Go.Proofs.YtdkibohpdkdooaaGreatDoor
open Go.RowKit
set_option linter.unusedVariables false
theorem Fr.drew {b : Nat} {x y : World} (h : Fr b x y) : Fr b x y.drew := ⟨h.os, h.output, h.size, h.block⟩
theorem Cp.set {w : World} {b : Nat} {s : St} (h : Cp w b s) (k : Nat) (v : Value) (s' : St) (e : (cpCells s).setIfInBounds k v = cpCells s') : Cp (w.setCell ⟨b, k, none⟩ v) b s' := by
  unfold Cp at h ⊢
  rw [setCell_eq_setRow w b k _ _ _ _ h, e]
  exact setRow_heap w b _ _ _ _ h
set_option maxRecDepth 100000 in
theorem halt_does (b : Nat) (s : St) (w : World) (h : Cp w b s) (o : s.Ok) :
    Calls Tryz.prog 86 #[.pointer (some ⟨b, 0, none⟩)] w fun e w' => e = .returned (.tuple #[]) ∧ Cp w' b ({ s with state := 1 }) ∧ Fr b w w' := by
  have c11 : w.cell? ⟨b, 11, none⟩ = some (.int .i64 s.state) := h.cell 11
  have f11 := h.frozen 11
  go_enter Tryz.func86, Tryz.ntmps86
  go_wp2
  (first | refine bodyPost_end (results_none rfl _ _ _) rfl ?_ | refine bodyPost_ret (results_none rfl _ _ _) rfl ?_)
  exact ⟨rfl, h.set 11 _ _ rfl, (Fr.refl b w).setCell⟩
set_option maxRecDepth 100000 in
theorem stop_does (b : Nat) (s : St) (w : World) (h : Cp w b s) (o : s.Ok) :
    Calls Tryz.prog 78 #[.pointer (some ⟨b, 0, none⟩)] w fun e w' => e = .returned (.tuple #[]) ∧ Cp w' b ({ s with state := 2 }) ∧ Fr b w w' := by
  have c11 : w.cell? ⟨b, 11, none⟩ = some (.int .i64 s.state) := h.cell 11
  have f11 := h.frozen 11
  go_enter Tryz.func78, Tryz.ntmps78
  go_wp2
  (first | refine bodyPost_end (results_none rfl _ _ _) rfl ?_ | refine bodyPost_ret (results_none rfl _ _ _) rfl ?_)
  exact ⟨rfl, h.set 11 _ _ rfl, (Fr.refl b w).setCell⟩
set_option maxRecDepth 100000 in
theorem lock_does (b : Nat) (s : St) (w : World) (h : Cp w b s) (o : s.Ok) :
    Calls Tryz.prog 98 #[.pointer (some ⟨b, 0, none⟩)] w fun e w' => e = .returned (.tuple #[]) ∧ Cp w' b ({ s with state := 3 }) ∧ Fr b w w' := by
  have c11 : w.cell? ⟨b, 11, none⟩ = some (.int .i64 s.state) := h.cell 11
  have f11 := h.frozen 11
  go_enter Tryz.func98, Tryz.ntmps98
  go_wp2
  (first | refine bodyPost_end (results_none rfl _ _ _) rfl ?_ | refine bodyPost_ret (results_none rfl _ _ _) rfl ?_)
  exact ⟨rfl, h.set 11 _ _ rfl, (Fr.refl b w).setCell⟩
set_option maxRecDepth 100000 in
theorem nothing_does (b : Nat) (s : St) (w : World) (h : Cp w b s) (o : s.Ok) :
    Calls Tryz.prog 77 #[.pointer (some ⟨b, 0, none⟩)] w fun e w' => e = .returned (.tuple #[]) ∧ Cp w' b (s) ∧ Fr b w w' := by
  go_enter Tryz.func77, Tryz.ntmps77
  go_wp2
  (first | refine bodyPost_end (results_none rfl _ _ _) rfl ?_ | refine bodyPost_ret (results_none rfl _ _ _) rfl ?_)
  exact ⟨rfl, h, Fr.refl b w⟩
set_option maxRecDepth 100000 in
theorem push_does (b : Nat) (s : St) (w : World) (h : Cp w b s) (o : s.Ok) :
    Calls Tryz.prog 123 #[.pointer (some ⟨b, 0, none⟩)] w fun e w' => e = .returned (.tuple #[]) ∧ Cp w' b (s.spDown) ∧ Fr b w w' := by
  have c8 : w.cell? ⟨b, 8, none⟩ = some (.int .u16 s.sp) := h.cell 8
  have osp1 := (o.sp).1
  have osp2 := (o.sp).2
  have f8 := h.frozen 8
  go_enter Tryz.func123, Tryz.ntmps123
  go_wp2
  (first | refine bodyPost_end (results_none rfl _ _ _) rfl ?_ | refine bodyPost_ret (results_none rfl _ _ _) rfl ?_)
  exact ⟨rfl, h.set 8 _ _ rfl, (Fr.refl b w).setCell⟩
set_option maxRecDepth 100000 in
theorem ei_does (b : Nat) (s : St) (w : World) (h : Cp w b s) (o : s.Ok) :
    Calls Tryz.prog 100 #[.pointer (some ⟨b, 0, none⟩)] w fun e w' => e = .returned (.tuple #[]) ∧ Cp w' b (s.ei) ∧ Fr b w w' := by
  have c10 : w.cell? ⟨b, 10, none⟩ = some (.bool s.ime) := h.cell 10
  have c12 : w.cell? ⟨b, 12, none⟩ = some (.bool s.due) := h.cell 12
  have f12 := h.frozen 12
  have hC : Cp w b s := h
  unfold St.ei
  by_cases hi : s.ime = true
  rotate_left
  · rw [if_neg hi]
    have hi' : s.ime = false := by simpa using hi
    rw [hi'] at c10
    clear hi'
    clear hi
    go_enter Tryz.func100, Tryz.ntmps100
    go_wp2
    (first | refine bodyPost_end (results_none rfl _ _ _) rfl ?_ | refine bodyPost_ret (results_none rfl _ _ _) rfl ?_)
    exact ⟨rfl, hC.set 12 _ _ rfl, (Fr.refl b w).setCell⟩
  · rw [if_pos hi]
    rw [hi] at c10
    clear hi
    go_enter Tryz.func100, Tryz.ntmps100
    go_wp2
    (first | refine bodyPost_end (results_none rfl _ _ _) rfl ?_ | refine bodyPost_ret (results_none rfl _ _ _) rfl ?_)
    exact ⟨rfl, hC, Fr.refl b w⟩
set_option maxRecDepth 100000 in
theorem di_does (b : Nat) (s : St) (w : World) (h : Cp w b s) (o : s.Ok) :
    Calls Tryz.prog 99 #[.pointer (some ⟨b, 0, none⟩)] w fun e w' => e = .returned (.tuple #[]) ∧ Cp w' b ({ s with ime := false, due := false }) ∧ Fr b w w' := by
  have c10 : w.cell? ⟨b, 10, none⟩ = some (.bool s.ime) := h.cell 10
  have c12 : w.cell? ⟨b, 12, none⟩ = some (.bool s.due) := h.cell 12
  have f10 := h.frozen 10
  have f12 := h.frozen 12
  go_enter Tryz.func99, Tryz.ntmps99
  go_wp2
  (first | refine bodyPost_end (results_none rfl _ _ _) rfl ?_ | refine bodyPost_ret (results_none rfl _ _ _) rfl ?_)
  exact ⟨rfl, (h.set 10 _ { s with ime := false } rfl).set 12 _ _ rfl, ((Fr.refl b w).setCell).setCell⟩
set_option maxRecDepth 100000 in
theorem setByte_any (b : Nat) (s : St) (w : World) (h : Cp w b s) (o : s.Ok) (n v : Int) (hn0 : 0 ≤ n) (hn1 : n ≤ 7) :
    Calls Tryz.prog 109 #[.pointer (some ⟨b, 0, none⟩), .int .u8 n, .int .u8 v] w fun e w' => e = .returned (.tuple #[]) ∧ Cp w' b (s.setByte n v) ∧ Fr b w w' := by
  have c0 : w.cell? ⟨b, 0, none⟩ = some (.int .u8 (s.r 0)) := h.cell 0
  have c1 : w.cell? ⟨b, 1, none⟩ = some (.int .u8 (s.r 1)) := h.cell 1
  have c2 : w.cell? ⟨b, 2, none⟩ = some (.int .u8 (s.r 2)) := h.cell 2
  have c3 : w.cell? ⟨b, 3, none⟩ = some (.int .u8 (s.r 3)) := h.cell 3
  have c4 : w.cell? ⟨b, 4, none⟩ = some (.int .u8 (s.r 4)) := h.cell 4
  have c5 : w.cell? ⟨b, 5, none⟩ = some (.int .u8 (s.r 5)) := h.cell 5
  have c7 : w.cell? ⟨b, 7, none⟩ = some (.int .u8 (s.r 7)) := h.cell 7
  have f0 := h.frozen 0
  have f1 := h.frozen 1
  have f2 := h.frozen 2
  have f3 := h.frozen 3
  have f4 := h.frozen 4
  have f5 := h.frozen 5
  have f7 := h.frozen 7
  have hn : n = 0 ∨ n = 1 ∨ n = 2 ∨ n = 3 ∨ n = 4 ∨ n = 5 ∨ n = 6 ∨ n = 7 := by omega
  clear hn0 hn1
  rcases hn with rfl | rfl | rfl | rfl | rfl | rfl | rfl | rfl
  all_goals go_enter Tryz.func109, Tryz.ntmps109
  all_goals go_wp2
  all_goals (first | refine bodyPost_end (results_none rfl _ _ _) rfl ?_ | refine bodyPost_ret (results_none rfl _ _ _) rfl ?_)
  · exact ⟨rfl, h.set 0 _ _ rfl, (Fr.refl b w).setCell⟩
  · exact ⟨rfl, h.set 1 _ _ rfl, (Fr.refl b w).setCell⟩
  · exact ⟨rfl, h.set 2 _ _ rfl, (Fr.refl b w).setCell⟩
  · exact ⟨rfl, h.set 3 _ _ rfl, (Fr.refl b w).setCell⟩
  · exact ⟨rfl, h.set 4 _ _ rfl, (Fr.refl b w).setCell⟩
  · exact ⟨rfl, h.set 5 _ _ rfl, (Fr.refl b w).setCell⟩
  · exact ⟨rfl, h, Fr.refl b w⟩
  · exact ⟨rfl, h.set 7 _ _ rfl, (Fr.refl b w).setCell⟩
set_option maxRecDepth 100000 in
theorem setPair_any (b : Nat) (s : St) (w : World) (h : Cp w b s) (o : s.Ok) (p v : Int) (hp0 : 0 ≤ p) (hp1 : p ≤ 3) (hv0 : 0 ≤ v) (hv1 : v ≤ 65535) :
    Calls Tryz.prog 110 #[.pointer (some ⟨b, 0, none⟩), .int .u8 p, .int .u16 v] w fun e w' => e = .returned (.tuple #[]) ∧ Cp w' b (s.setPair p v) ∧ Fr b w w' := by
  have c0 : w.cell? ⟨b, 0, none⟩ = some (.int .u8 (s.r 0)) := h.cell 0
  have c1 : w.cell? ⟨b, 1, none⟩ = some (.int .u8 (s.r 1)) := h.cell 1
  have c2 : w.cell? ⟨b, 2, none⟩ = some (.int .u8 (s.r 2)) := h.cell 2
  have c3 : w.cell? ⟨b, 3, none⟩ = some (.int .u8 (s.r 3)) := h.cell 3
  have c4 : w.cell? ⟨b, 4, none⟩ = some (.int .u8 (s.r 4)) := h.cell 4
  have c5 : w.cell? ⟨b, 5, none⟩ = some (.int .u8 (s.r 5)) := h.cell 5
  have c8 : w.cell? ⟨b, 8, none⟩ = some (.int .u16 s.sp) := h.cell 8
  have f0 := h.frozen 0
  have f1 := h.frozen 1
  have f2 := h.frozen 2
  have f3 := h.frozen 3
  have f4 := h.frozen 4
  have f5 := h.frozen 5
  have f8 := h.frozen 8
  have hp : p = 0 ∨ p = 1 ∨ p = 2 ∨ p = 3 := by omega
  clear hp0 hp1
  rcases hp with rfl | rfl | rfl | rfl
  all_goals go_enter Tryz.func110, Tryz.ntmps110
  all_goals have k0 : IntKind.u8.wrap 0 = 0 := rfl
  all_goals have k1 : IntKind.u8.wrap 1 = 1 := rfl
  all_goals have k2 : IntKind.u8.wrap 2 = 2 := rfl
  all_goals have k3 : IntKind.u8.wrap 3 = 3 := rfl
  all_goals have k4 : IntKind.u8.wrap 4 = 4 := rfl
  all_goals have k5 : IntKind.u8.wrap 5 = 5 := rfl
  all_goals go_wp2
  · go_region_held3 (fun w' => True) (trivial) (fail)
    go_wp2
    (first | refine bodyPost_end (results_none rfl _ _ _) rfl ?_ | refine bodyPost_ret (results_none rfl _ _ _) rfl ?_)
    rw [IntKind.wrap_u8 v, wraps_u8 (v / 256) (by omega) (by omega)]
    exact ⟨rfl, (h.set 0 _ { s with r := upd s.r 0 (v / 256) } rfl).set 1 _ _ rfl, (((Fr.refl b w).setCell).setCell).drew⟩
  · go_region_held3 (fun w' => True) (trivial) (fail)
    go_wp2
    (first | refine bodyPost_end (results_none rfl _ _ _) rfl ?_ | refine bodyPost_ret (results_none rfl _ _ _) rfl ?_)
    rw [IntKind.wrap_u8 v, wraps_u8 (v / 256) (by omega) (by omega)]
    exact ⟨rfl, (h.set 2 _ { s with r := upd s.r 2 (v / 256) } rfl).set 3 _ _ rfl, (((Fr.refl b w).setCell).setCell).drew⟩
  · go_region_held3 (fun w' => True) (trivial) (fail)
    go_wp2
    (first | refine bodyPost_end (results_none rfl _ _ _) rfl ?_ | refine bodyPost_ret (results_none rfl _ _ _) rfl ?_)
    rw [IntKind.wrap_u8 v, wraps_u8 (v / 256) (by omega) (by omega)]
    exact ⟨rfl, (h.set 4 _ { s with r := upd s.r 4 (v / 256) } rfl).set 5 _ _ rfl, (((Fr.refl b w).setCell).setCell).drew⟩
  · (first | refine bodyPost_end (results_none rfl _ _ _) rfl ?_ | refine bodyPost_ret (results_none rfl _ _ _) rfl ?_)
    exact ⟨rfl, h.set 8 _ _ rfl, (Fr.refl b w).setCell⟩
set_option maxRecDepth 100000 in
theorem setPushedPair_any (b : Nat) (s : St) (w : World) (h : Cp w b s) (o : s.Ok) (p v : Int) (hp0 : 0 ≤ p) (hp1 : p ≤ 3) (hv0 : 0 ≤ v) (hv1 : v ≤ 65535) :
    Calls Tryz.prog 120 #[.pointer (some ⟨b, 0, none⟩), .int .u8 p, .int .u16 v] w fun e w' => e = .returned (.tuple #[]) ∧ Cp w' b (s.setPushed p v) ∧ Fr b w w' := by
  have c6 : w.cell? ⟨b, 6, none⟩ = some (.int .u8 (s.r 6)) := h.cell 6
  have c7 : w.cell? ⟨b, 7, none⟩ = some (.int .u8 (s.r 7)) := h.cell 7
  have f6 := h.frozen 6
  have f7 := h.frozen 7
  have hp : p = 0 ∨ p = 1 ∨ p = 2 ∨ p = 3 := by omega
  clear hp0 hp1
  rcases hp with rfl | rfl | rfl | rfl
  all_goals go_enter Tryz.func120, Tryz.ntmps120
  all_goals go_wp2_with (go_at_call 110; refine (setPair_any b s _ (by exact h) o _ _ (by decide) (by decide) hv0 hv1).mono ?_; rintro e w1 ⟨rfl, hc1, hf1⟩)
  · (first | refine bodyPost_end (results_none rfl _ _ _) rfl ?_ | refine bodyPost_ret (results_none rfl _ _ _) rfl ?_)
    exact ⟨rfl, hc1, hf1⟩
  · (first | refine bodyPost_end (results_none rfl _ _ _) rfl ?_ | refine bodyPost_ret (results_none rfl _ _ _) rfl ?_)
    exact ⟨rfl, hc1, hf1⟩
  · (first | refine bodyPost_end (results_none rfl _ _ _) rfl ?_ | refine bodyPost_ret (results_none rfl _ _ _) rfl ?_)
    exact ⟨rfl, hc1, hf1⟩
  · go_region_held3 (fun w' => True) (trivial) (fail)
    go_wp2
    (first | refine bodyPost_end (results_none rfl _ _ _) rfl ?_ | refine bodyPost_ret (results_none rfl _ _ _) rfl ?_)
    rw [IntKind.wrap_u8 v, wraps_u8 (v / 256) (by omega) (by omega), and240 (v % 256) (by omega) (by omega)]
    exact ⟨rfl, (h.set 7 _ { s with r := upd s.r 7 (v / 256) } rfl).set 6 _ _ rfl, (((Fr.refl b w).setCell).setCell).drew⟩
end Go.Proofs.YtdkibohpdkdooaaGreatDoor
