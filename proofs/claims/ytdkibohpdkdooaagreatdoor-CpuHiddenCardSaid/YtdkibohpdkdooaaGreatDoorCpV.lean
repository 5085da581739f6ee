/- Lines, handlers, acts, over the translation. -/
import Derived.Test.YtdkibohpdkdooaaGreatDoorCpT
namespace Go.Proofs.YtdkibohpdkdooaaGreatDoor
open Go.RowKit
set_option linter.unusedVariables false
theorem Cp.course {w : World} {b : Nat} {s : St} (h : Cp w b s) (p c : Int) :
    Cp ((((((((w.setCell ⟨b, 14, none⟩ (.int .u8 p)).setCell ⟨b, 15, none⟩ (.int .u8 c)).setCell ⟨b, 16, none⟩ (.int .u8 0)).setCell ⟨b, 17, none⟩ (.int .u8 0)).setCell ⟨b, 18, none⟩ (.int .u8 0)).setCell ⟨b, 19, none⟩ (.int .u8 0)).setCell ⟨b, 20, none⟩ (.int .u8 0)).setCell ⟨b, 21, none⟩ (.int .u8 0)) b { s with phase := p, code := c, done := 0, rd := zf, many := 0, asked := 0 } := by
  have h1 := h.set 14 (.int .u8 p) { s with phase := p } rfl
  have h2 := h1.set 15 (.int .u8 c) { s with phase := p, code := c } rfl
  have h3 := h2.set 16 (.int .u8 0) { s with phase := p, code := c, done := 0 } rfl
  have h4 := h3.set 17 (.int .u8 0) { s with phase := p, code := c, done := 0, rd := upd s.rd 0 0 } rfl
  have h5 := h4.set 18 (.int .u8 0) { s with phase := p, code := c, done := 0, rd := upd (upd s.rd 0 0) 1 0 } rfl
  have h6 := h5.set 19 (.int .u8 0) { s with phase := p, code := c, done := 0, rd := zf } rfl
  have h7 := h6.set 20 (.int .u8 0) { s with phase := p, code := c, done := 0, rd := zf, many := 0 } rfl
  exact h7.set 21 (.int .u8 0) _ rfl
theorem Fr.course {x y : World} {b : Nat} (h : Fr b x y) (v0 v1 v2 v3 v4 v5 v6 v7 : Value) :
    Fr b x ((((((((y.setCell ⟨b, 14, none⟩ v0).setCell ⟨b, 15, none⟩ v1).setCell ⟨b, 16, none⟩ v2).setCell ⟨b, 17, none⟩ v3).setCell ⟨b, 18, none⟩ v4).setCell ⟨b, 19, none⟩ v5).setCell ⟨b, 20, none⟩ v6).setCell ⟨b, 21, none⟩ v7) :=
  (((((((h.setCell).setCell).setCell).setCell).setCell).setCell).setCell).setCell
theorem Cp.courseFacts {w : World} {b : Nat} {s : St} (h : Cp w b s) :
    w.cell? ⟨b, 14, none⟩ = some (.int .u8 s.phase) ∧ w.cell? ⟨b, 15, none⟩ = some (.int .u8 s.code) ∧ w.cell? ⟨b, 16, none⟩ = some (.int .u8 s.done) ∧ w.cell? ⟨b, 17, none⟩ = some (.int .u8 (s.rd 0)) ∧ w.cell? ⟨b, 18, none⟩ = some (.int .u8 (s.rd 1)) ∧ w.cell? ⟨b, 19, none⟩ = some (.int .u8 (s.rd 2)) ∧ w.cell? ⟨b, 20, none⟩ = some (.int .u8 s.many) ∧ w.cell? ⟨b, 21, none⟩ = some (.int .u8 s.asked) ∧
    w.frozen? ⟨b, 14, none⟩ = false ∧ w.frozen? ⟨b, 15, none⟩ = false ∧ w.frozen? ⟨b, 16, none⟩ = false ∧ w.frozen? ⟨b, 17, none⟩ = false ∧ w.frozen? ⟨b, 18, none⟩ = false ∧ w.frozen? ⟨b, 19, none⟩ = false ∧ w.frozen? ⟨b, 20, none⟩ = false ∧ w.frozen? ⟨b, 21, none⟩ = false :=
  ⟨h.cell 14, h.cell 15, h.cell 16, h.cell 17, h.cell 18, h.cell 19, h.cell 20, h.cell 21, h.frozen 14, h.frozen 15, h.frozen 16, h.frozen 17, h.frozen 18, h.frozen 19, h.frozen 20, h.frozen 21⟩
set_option maxRecDepth 100000 in
set_option maxHeartbeats 1000000 in
theorem look_any (l : Int) (b : Nat) (s : St) (w : World) (h : Cp w b s) (o : s.Ok) (hl : 0 ≤ l ∧ l ≤ 31) :
    Calls Tryz.prog 24 #[.pointer (some ⟨b, 0, none⟩), .int .u8 l] w fun e w' => e = .returned (.tuple #[]) ∧ Cp w' b (s.look l) ∧ Fr b w w' := by
  have c11 : w.cell? ⟨b, 11, none⟩ = some (.int .i64 s.state) := h.cell 11
  have f11 := h.frozen 11
  have c10 : w.cell? ⟨b, 10, none⟩ = some (.bool s.ime) := h.cell 10
  have hC : Cp w b s := h
  unfold St.look
  by_cases hl0 : l = 0
  · rw [if_pos (Or.inl hl0)]
    subst hl0
    go_enter Tryz.func24, Tryz.ntmps24
    go_wp2
    (first | refine bodyPost_end (results_none rfl _ _ _) rfl ?_ | refine bodyPost_ret (results_none rfl _ _ _) rfl ?_)
    exact ⟨rfl, hC, Fr.refl b w⟩
  · have e0 : (l == 0) = false := beq_eq_false_iff_ne.2 hl0
    by_cases h3 : s.state = 3
    · rw [if_pos (Or.inr h3)]
      rw [h3] at c11
      clear h3 hl0
      go_enter Tryz.func24, Tryz.ntmps24
      go_wp2
      (first | refine bodyPost_end (results_none rfl _ _ _) rfl ?_ | refine bodyPost_ret (results_none rfl _ _ _) rfl ?_)
      exact ⟨rfl, hC, Fr.refl b w⟩
    · rw [if_neg (by simp [hl0, h3])]
      have e3 : (s.state == 3) = false := beq_eq_false_iff_ne.2 h3
      obtain ⟨c14, c15, c16, c17, c18, c19, c20, c21, f14, f15, f16, f17, f18, f19, f20, f21⟩ := h.courseFacts
      by_cases hi : s.ime = true
      · rw [if_pos hi]
        rw [hi] at c10
        clear h3 hl0 hi
        go_enter Tryz.func24, Tryz.ntmps24
        go_wp2
        (first | refine bodyPost_end (results_none rfl _ _ _) rfl ?_ | refine bodyPost_ret (results_none rfl _ _ _) rfl ?_)
        exact ⟨rfl, (hC.set 11 _ { s with state := 0 } rfl).course 2 0, Fr.course ((Fr.refl b w).setCell) _ _ _ _ _ _ _ _⟩
      · rw [if_neg hi]
        have hi' : s.ime = false := by simpa using hi
        rw [hi'] at c10
        clear h3 hl0 hi hi'
        go_enter Tryz.func24, Tryz.ntmps24
        go_wp2
        (first | refine bodyPost_end (results_none rfl _ _ _) rfl ?_ | refine bodyPost_ret (results_none rfl _ _ _) rfl ?_)
        exact ⟨rfl, hC.set 11 _ _ rfl, (Fr.refl b w).setCell⟩
end Go.Proofs.YtdkibohpdkdooaaGreatDoor
