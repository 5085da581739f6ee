/- Arena: who stands where in a list. -/
import Derived.Test.YteijdcidemajfaaArM
import Derived.Deep.MidRow
namespace Go.Proofs.Yteijdcidemajfaa
open Go.RowKit
set_option linter.unusedVariables false
theorem range4 {w : World} {g o : Nat} {x y z t : Value} (h0 : w.cell? ⟨g, o, none⟩ = some x) (h1 : w.cell? ⟨g, o + 1, none⟩ = some y) (h2 : w.cell? ⟨g, o + 2, none⟩ = some z) (h3 : w.cell? ⟨g, o + 3, none⟩ = some t) : w.rangeAt g o [x, y, z, t] := by
  intro k v hv
  match k with
  | 0 => simp at hv; rw [← hv]; exact h0
  | 1 => simp at hv; rw [← hv]; exact h1
  | 2 => simp at hv; rw [← hv]; exact h2
  | 3 => simp at hv; rw [← hv]; exact h3
  | k + 4 => simp at hv
theorem range2 {w : World} {g o : Nat} {x y : Value} (h0 : w.cell? ⟨g, o, none⟩ = some x) (h1 : w.cell? ⟨g, o + 1, none⟩ = some y) : w.rangeAt g o [x, y] := by
  intro k v hv
  match k with
  | 0 => simp at hv; rw [← hv]; exact h0
  | 1 => simp at hv; rw [← hv]; exact h1
  | k + 2 => simp at hv
/-- a row of one's own, where nothing old has changed -/
theorem ownsRow_up {w w' : World} {base n : Nat} {ty : TypeId} {size : Nat} {v : Value} {xs : List Value} (h : w.ownsRow base ty size v n xs) (u : Up w w') : w'.ownsRow base ty size v n xs :=
  ⟨h.1, h.2.imp id fun ⟨g, cap, cur, h1, h2, h3, h4⟩ => ⟨g, cap, cur, h1, h2, (u.block g (Array.getElem?_eq_some_iff.1 h3).1).trans h3, h4⟩⟩
theorem ownsRow_block {w w' : World} {base n : Nat} {ty : TypeId} {size : Nat} {v : Value} {xs : List Value} (h : w.ownsRow base ty size v n xs) (u : ∀ g, v.ownBlock = some g → w'.heap[g]? = w.heap[g]?) : w'.ownsRow base ty size v n xs :=
  ⟨h.1, h.2.imp id fun ⟨g, cap, cur, h1, h2, h3, h4⟩ => ⟨g, cap, cur, h1, h2, (u g (by rw [h1]; rfl)).trans h3, h4⟩⟩
/-- a loan in a row of them -/
theorem loan_range {w : World} {g cap j : Nat} {ls : List Loan} {l : Loan} (h : w.ownsRow 0 104 4 (.slice (some ⟨g, 0, none⟩) ls.length cap) ls.length (loanCells ls)) (hj : ls[j]? = some l) : w.rangeAt g (j * 4) l.cells := by
  have hl := (List.getElem?_eq_some_iff.1 hj).1
  have f : ∀ r, r < 4 → w.cell? ⟨g, j * 4 + r, none⟩ = l.cells[r]? := fun r hr => by
    have := own_cell h (j * 4 + r) (by omega)
    rw [Nat.zero_add] at this
    rw [this]
    exact loanCells_at ls j r l hj hr
  exact range4 (f 0 (by decide)) (f 1 (by decide)) (f 2 (by decide)) (f 3 (by decide))
theorem num_cell {w : World} {g cap j n : Nat} {l : List Nat} (h : w.ownsRow 0 3 1 (.slice (some ⟨g, 0, none⟩) l.length cap) l.length (nums l)) (hj : l[j]? = some n) : w.cell? ⟨g, j, none⟩ = some (.int .i64 (n : Int)) := by
  have hl := (List.getElem?_eq_some_iff.1 hj).1
  have := own_cell h j (by omega)
  rw [Nat.zero_add] at this
  rw [this]
  exact nums_at hj
set_option maxRecDepth 100000 in
/-- the question that release asks: is a number above the loan's? -/
theorem rel1_any {W : World} {lb : Nat} {x b : Int} (h : W.cell? ⟨lb, 0, none⟩ = some (.int .i64 b)) :
    Calls Try.prog 65 #[.int .i64 x, .pointer (some ⟨lb, 0, none⟩)] W fun e w' => e = .returned (.bool (decide (b < x))) ∧ w' = W := by
  go_enter Try.func65, Try.ntmps65
  go_wp2
  all_goals
    go_ret
    exact ⟨by first | rfl | (simp; done) | (simp_all; done), rfl⟩
set_option maxRecDepth 100000 in
set_option maxHeartbeats 1000000 in
theorem idxI_any {W : World} {v : Value} {l : List Nat} {lb b : Nat} (own : W.ownsRow 0 3 1 v l.length (nums l)) (h : W.cell? ⟨lb, 0, none⟩ = some (.int .i64 (b : Int))) :
    Calls Try.prog 87 #[v, .func (.func 65) #[] #[.pointer (some ⟨lb, 0, none⟩)]] W fun e w' => e = .returned (.int .i64 (idxI (l.findIdx (fun y => decide (b < y))) l.length)) ∧ w' = W := by
  have HC : Hid (∀ x : Int, Calls Try.prog 65 #[.int .i64 x, .pointer (some ⟨lb, 0, none⟩)] W fun e w' => e = .returned (.bool (decide ((b : Int) < x))) ∧ w' = W) := fun x => rel1_any h
  clear h
  rcases own_cases own with ⟨rfl, hn, _⟩ | ⟨g, cap, rfl, hc, hm, hg, _⟩
  · obtain rfl := List.length_eq_zero_iff.1 hn
    clear own HC hn
    go_enter Try.func87, Try.ntmps87
    go_wp2
    go_loop [5, 8] (fun _ k => k = .int .i64 0) (fun _ _ => 0)
    case atStart => exact rfl
    case round =>
      obtain rfl := hrel
      go_wp2
      go_ret
      exact ⟨rfl, rfl⟩
  · have hm2 : cap ≤ 9223372036854775807 := by unfold maxLen at hm; omega
    have HO : Hid (W.ownsRow 0 3 1 (.slice (some ⟨g, 0, none⟩) l.length cap) l.length (nums l)) := own
    have hle : l.length ≤ cap := hc
    clear own hm hc hg
    go_enter Try.func87, Try.ntmps87
    go_wp2
    go_loop [5, 8] (fun _ K => ∃ k : Nat, k ≤ l.length ∧ K = .int .i64 k ∧ Hid (∀ j y, j < k → l[j]? = some y → decide (b < y) = false)) (fun _ K => l.length - (intOf K).toNat)
    case atStart => exact ⟨0, Nat.zero_le _, rfl, fun j y hj => absurd hj (by omega)⟩
    case round =>
      obtain ⟨k, hk, rfl, A⟩ := hrel
      by_cases hlt : k < l.length
      · have d1 : (k : Int) < (l.length : Int) := by omega
        obtain ⟨y, hy⟩ : ∃ y, l[k]? = some y := ⟨_, List.getElem?_eq_getElem hlt⟩
        have HY : Hid (l[k]? = some y) := hy
        have kc := num_cell HO.out hy
        clear hy
        have HQ : Hid _ := HC.out (y : Int)
        by_cases hp : b < y
        · have e1 : decide ((b : Int) < (y : Int)) = true := decide_eq_true (by omega)
          rw [e1] at HQ
          have HR : Hid (l.findIdx (fun y => decide (b < y)) = k) := findIdx_hit HY.out (decide_eq_true hp) A.out
          clear e1
          go_wp2_with fail
          refine Calls.mono HQ.out ?_
          rintro e w' ⟨rfl, hw'⟩
          obtain rfl := hw'.symm
          go_wp2_with fail
          go_ret
          exact ⟨by rw [HR.out]; unfold idxI; rw [if_pos hlt]; rfl, rfl⟩
        · have e1 : decide ((b : Int) < (y : Int)) = false := decide_eq_false (by omega)
          rw [e1] at HQ
          clear e1
          go_wp2_with fail
          refine Calls.mono HQ.out ?_
          rintro e w' ⟨rfl, hw'⟩
          obtain rfl := hw'.symm
          go_wp2_with fail
          go_round
          case rel =>
            refine ⟨k + 1, by omega, by go_num, fun j z hj hz => ?_⟩
            by_cases e : j = k
            · subst e
              rw [HY.out] at hz
              injection hz with hz
              subst hz
              exact decide_eq_false hp
            · exact A.out j z (by omega) hz
          case measure => simp [intOf]; omega
      · have d1 : ¬ (k : Int) < (l.length : Int) := by omega
        have HR : Hid (l.findIdx (fun y => decide (b < y)) = l.length) := findIdx_none fun j y hj => A.out j y (by have := (List.getElem?_eq_some_iff.1 hj).1; omega) hj
        go_wp2
        go_ret
        exact ⟨by rw [HR.out]; unfold idxI; rw [if_neg (by omega)]; rfl, rfl⟩
end Go.Proofs.Yteijdcidemajfaa
