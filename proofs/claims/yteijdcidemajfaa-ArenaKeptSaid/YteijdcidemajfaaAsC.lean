/- ArenaQuota: what it uses. -/
import Derived.Test.YteijdcidemajfaaAsB
namespace Go.Proofs.Yteijdcidemajfaa
open Go.RowKit
set_option linter.unusedVariables false
variable {K : Nat → Prop} {w w' W : World} {pb n : Nat} {q : Int} {ls : List Loan}
structure Qs (W : World) (K : Nat → Prop) (pb n : Nat) (q : Int) (ls : List Loan) (w : World) : Prop where
  at' : ∃ P free, Pb W K pb P w ∧ P.ars[0]? = some (some ⟨q, ls⟩) ∧ P.cls = [⟨n, 0, 500, free⟩] ∧ free.length + ls.length = 500
  all : ∀ l ∈ ls, l.size = n ∧ l.cls = 0
theorem Qs.up (h : Qs W K pb n q ls w) : Up W w := by
  obtain ⟨P, free, h1, _⟩ := h.at'
  exact h1.up
theorem Qs.more (h : Qs W K pb n q ls w) (u : Up w w') : Qs W K pb n q ls w' := by
  obtain ⟨P, free, h1, h2⟩ := h.at'
  exact ⟨⟨P, free, h1.more u, h2⟩, h.all⟩
theorem sizes_all (h : ∀ l ∈ ls, l.size = n ∧ l.cls = 0) : sizes ls = ls.length * n := by
  induction ls with
  | nil => simp [sizes]
  | cons x r ih =>
    have e : sizes (x :: r) = x.size + sizes r := by simp [sizes]
    rw [e, ih (fun l hl => h l (by simp [hl])), (h x (by simp)).1, List.length_cons, Nat.add_mul, Nat.one_mul, Nat.add_comm]
theorem Qs.take (h : Qs W K pb n q ls w) {size pk : Int} (hq1 : 0 ≤ q) (hq2 : q ≤ 400) (hn : n ≤ 50) (h1 : 1 ≤ size) (h2 : size ≤ (n : Int)) (hpk : I64 pk) (hl : ls.length < 500) (hr : ((ls.length * n : Nat) : Int) + (n : Int) ≤ q) :
    Calls Try.prog 15 #[.pointer (some ⟨pb, 0, none⟩), .int .i64 0, .int .i64 size, .int .i64 pk] w fun e w' => ∃ (b : Int) (l : Loan), e = .returned (.tuple #[.agg #[.int .i64 b, .int .i64 0, .int .i64 (n : Int)], .int .i64 0]) ∧ Qs W K pb n q (ls ++ [l]) w' := by
  obtain ⟨P, free, g1, g2, g3, g4⟩ := h.at'
  have hx : P.cls[0]? = some ⟨n, 0, 500, free⟩ := by rw [g3]; rfl
  have hlo := pickI_lo pk (free.length : Int) (by omega)
  have hhi := pickI_hi pk (free.length : Int) (by omega)
  obtain ⟨r, hrr⟩ := Int.eq_ofNat_of_zero_le hlo
  have hrl : r < free.length := by omega
  have hc : P.classFor size = 0 := by
    unfold Pl.classFor
    rw [g3]
    exact findIdx_hit (x := ⟨n, 0, 500, free⟩) rfl (by simpa using h2) fun j y hj => absurd hj (by omega)
  refine (g1.take (i := 0) (c := 0) (r := r) (buf := free[r]) ⟨by omega, by omega⟩ hpk g2 ⟨by show _ ≤ q; omega, by show q ≤ _; omega⟩ h1 hc hx (by show ((sizes ls : Nat) : Int) + (n : Int) ≤ q; rw [sizes_all h.all]; exact hr) hrr (List.getElem?_eq_getElem hrl)).mono fun e w' ⟨e1, ⟨blk, e2⟩, e3⟩ => ⟨_, ⟨free[r], 0, n, blk, fun _ => 0⟩, e1, ⟨_, free.eraseIdx r, e2, ?_, ?_, ?_⟩, fun l hl => ?_⟩
  · have hl := (List.getElem?_eq_some_iff.1 g2).1
    unfold Pl.taken Pl.setArn Pl.setFree
    dsimp only
    rw [List.getElem?_set, if_pos rfl, if_pos hl]
  · unfold Pl.taken Pl.setArn Pl.setFree
    dsimp only
    rw [g3]
    rfl
  · rw [List.length_eraseIdx, if_pos hrl, List.length_append]
    simp
    omega
  · rcases List.mem_append.1 hl with hl | hl
    · exact h.all l hl
    · rw [List.mem_singleton] at hl
      subst hl
      exact ⟨rfl, rfl⟩
theorem Qs.refuse (h : Qs W K pb n q ls w) {size pk : Int} (hq1 : 0 ≤ q) (hq2 : q ≤ 400) (hn : n ≤ 50) (h1 : 1 ≤ size) (h2 : size ≤ (n : Int)) (hpk : I64 pk) (hr : q < ((ls.length * n : Nat) : Int) + (n : Int)) :
    Calls Try.prog 15 #[.pointer (some ⟨pb, 0, none⟩), .int .i64 0, .int .i64 size, .int .i64 pk] w fun e w' => e = .returned (.tuple #[.agg #[.int .i64 0, .int .i64 0, .int .i64 0], .int .i64 92]) ∧ Qs W K pb n q ls w' := by
  obtain ⟨P, free, g1, g2, g3, g4⟩ := h.at'
  have hx : P.cls[0]? = some ⟨n, 0, 500, free⟩ := by rw [g3]; rfl
  have hc : P.classFor size = 0 := by
    unfold Pl.classFor
    rw [g3]
    exact findIdx_hit (x := ⟨n, 0, 500, free⟩) rfl (by simpa using h2) fun j y hj => absurd hj (by omega)
  exact (g1.takeQuota (i := 0) (c := 0) ⟨by omega, by omega⟩ hpk g2 ⟨by show _ ≤ q; omega, by show q ≤ _; omega⟩ h1 hc hx (by show q < ((sizes ls : Nat) : Int) + (n : Int); rw [sizes_all h.all]; exact hr)).mono fun e w' ⟨e1, e2⟩ => ⟨e1, h.more e2⟩
theorem Qs.used (h : Qs W K pb n q ls w) : Calls Try.prog 16 #[.pointer (some ⟨pb, 0, none⟩), .int .i64 0] w fun e w' => e = .returned (.tuple #[.int .i64 ((ls.length * n : Nat) : Int), .int .i64 0]) ∧ Qs W K pb n q ls w' := by
  obtain ⟨P, free, g1, g2, g3, g4⟩ := h.at'
  have := g1.used (i := 0) g2
  rw [sizes_all h.all] at this
  exact this.mono fun e w' ⟨e1, e2⟩ => ⟨e1, h.more e2⟩
theorem Qs.leases (h : Qs W K pb n q ls w) : Calls Try.prog 17 #[.pointer (some ⟨pb, 0, none⟩), .int .i64 0] w fun e w' => ∃ va vc, e = .returned (.slice va ls.length vc) ∧ ls.length ≤ vc ∧ vc ≤ 9223372036854775807 ∧ Qs W K pb n q ls w' ∧ ∀ l r, ls = l :: r → ∃ g, va = some ⟨g, 0, none⟩ ∧ w'.cell? ⟨g, 0, none⟩ = some (.int .i64 (l.buf : Int)) := by
  obtain ⟨P, free, g1, g2, g3, g4⟩ := h.at'
  obtain ⟨R, A, hp⟩ := g1.at'
  refine (leases_ok (i := 0) hp g1.ok g2).mono fun e w' ⟨v, e1, e2⟩ => ?_
  rcases own_cases e2.own with ⟨hv, hn, _⟩ | ⟨g, cap, hv, h2, h3, h4, h5⟩
  · have hn : ls.length = 0 := hn
    refine ⟨none, 0, by rw [e1, hv, hn], by omega, by omega, h.more e2.up, fun l r e => ?_⟩
    rw [e] at hn
    simp at hn
  · refine ⟨some ⟨g, 0, none⟩, cap, by rw [e1, hv], h2, by unfold maxLen at h3; omega, h.more e2.up, fun l r e => ⟨g, rfl, ?_⟩⟩
    have ho := e2.own
    rw [hv] at ho
    have hln : 0 < ls.length * 3 := by rw [e]; simp
    have := own_cell ho 0 hln
    rw [Nat.zero_add] at this
    rw [this]
    show (leaseCells ls)[0]? = _
    rw [e]
    rfl
theorem Qs.give {l : Loan} (h : Qs W K pb n q (l :: ls) w) : Calls Try.prog 18 #[.pointer (some ⟨pb, 0, none⟩), .int .i64 0, .int .i64 (l.buf : Int)] w fun e w' => e = .returned (.int .i64 0) ∧ Qs W K pb n q ls w' := by
  obtain ⟨P, free, g1, g2, g3, g4⟩ := h.at'
  have hx : P.cls[l.cls]? = some ⟨n, 0, 500, free⟩ := by rw [(h.all l (by simp)).2, g3]; rfl
  have hb : l.buf ≤ 5000 := by
    have hm : l.buf ∈ lent P.ars l.cls := by
      unfold lent
      refine List.mem_flatMap.2 ⟨_, List.mem_of_getElem? g2, ?_⟩
      unfold lentOf
      dsimp only
      refine List.mem_map.2 ⟨l, List.mem_filter.2 ⟨by simp, by simp⟩, rfl⟩
    have := (g1.ok.pm _ _ hx).mem_iff.1 (List.mem_append_right _ hm)
    rw [List.mem_range'_1] at this
    have := this.2
    show l.buf ≤ 5000
    have e : (0 : Nat) + 500 = 500 := rfl
    dsimp only at this
    omega
  have hp : (⟨q, l :: ls⟩ : Arn).place (l.buf : Int) = 0 := by
    unfold Arn.place
    exact findIdx_hit (x := l) rfl (by simp) fun j y hj => absurd hj (by omega)
  refine (g1.give (i := 0) (l := l) (b := (l.buf : Int)) ⟨by omega, by omega⟩ g2 hp rfl hx).mono fun e w' ⟨e1, e2, e3⟩ => ⟨e1, ⟨_, insN l.buf free, e2, ?_, ?_, ?_⟩, fun y hy => h.all y (by simp [hy])⟩
  · have hl := (List.getElem?_eq_some_iff.1 g2).1
    unfold Pl.given Pl.setArn Pl.setFree
    dsimp only
    rw [List.getElem?_set, if_pos rfl, if_pos hl]
    rfl
  · unfold Pl.given Pl.setArn Pl.setFree
    dsimp only
    rw [g3, (h.all l (by simp)).2]
    rfl
  · rw [insN_len]
    rw [List.length_cons] at g4
    omega
theorem Qs.new (hn1 : 1 ≤ n) (hn : n ≤ 50) (hq : 0 ≤ q) (hq2 : q ≤ 400) (h : Pb W K pb (Pl.new [(n, 500)] 2) w) : Calls Try.prog 14 #[.pointer (some ⟨pb, 0, none⟩), .int .i64 q] w fun e w' => e = .returned (.tuple #[.int .i64 0, .int .i64 0]) ∧ Qs W K pb n q [] w' := by
  refine (h.open (q := q) ⟨by omega, by omega⟩ hq (by show 0 < 2; decide)).mono fun e w' ⟨e1, e2, e3⟩ => ⟨e1, ⟨_, List.range' 0 500, e2, rfl, rfl, by simp⟩, fun l hl => by cases hl⟩
end Go.Proofs.Yteijdcidemajfaa
