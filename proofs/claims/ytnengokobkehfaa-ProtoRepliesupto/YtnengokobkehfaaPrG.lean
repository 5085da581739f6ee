/- Proto: the parts of a kind are found. -/
import Derived.Test.YtnengokobkehfaaPrF
namespace Go.Proofs.Ytnengokobkehfaa
open Go.RowKit
set_option linter.unusedVariables false
variable {w w' W : World}
set_option maxRecDepth 100000 in
set_option maxHeartbeats 400000 in
theorem partsOf1_any (k x : Int) (pv : Value) (b : Nat) (w : World) (h : w.cell? ⟨b, 0, none⟩ = some (.int .i64 x)) :
    Calls Try.prog 52 #[.agg #[.int .i64 k, pv], .pointer (some ⟨b, 0, none⟩)] w fun e w' => e = .returned (.bool (k == x)) ∧ Up w w' := by
  have hb := World.block_lt_of_cell? _ _ h
  go_enter Try.func52, Try.ntmps52
  go_wp2
  go_ret
  exact ⟨rfl, (Up.refl w).alloc _⟩
/-- where the kind stands -/
def lookAt : Tab → Int → Nat → Int
  | [], _, _ => -1
  | (k, _) :: r, x, i => if k = x then i else lookAt r x (i + 1)
theorem lookAt_drop (T : Tab) (x : Int) (i : Nat) (h : i < T.length) : lookAt (T.drop i) x i = if T[i].1 = x then (i : Int) else lookAt (T.drop (i + 1)) x (i + 1) := by
  rw [List.drop_eq_getElem_cons h]
  rfl
theorem lookAt_look : ∀ (T : Tab) (x : Int) (i : Nat), (lookAt T x i = -1 ∧ look T x = none) ∨ ∃ (j : Nat) (ps : List Part), lookAt T x i = ((i + j : Nat) : Int) ∧ T[j]? = some (x, ps) ∧ look T x = some ps
  | [], x, i => Or.inl ⟨rfl, rfl⟩
  | (k, qs) :: r, x, i => by
    unfold lookAt look
    by_cases h : k = x
    · rw [if_pos h, if_pos h]
      subst h
      exact Or.inr ⟨0, qs, rfl, rfl, rfl⟩
    · rw [if_neg h, if_neg h]
      rcases lookAt_look r x (i + 1) with ⟨h1, h2⟩ | ⟨j, ps, h1, h2, h3⟩
      · exact Or.inl ⟨h1, h2⟩
      · exact Or.inr ⟨j + 1, ps, by rw [h1]; congr 1; omega, by simpa using h2, h3⟩
set_option maxRecDepth 100000 in
set_option maxHeartbeats 400000 in
theorem indexK_any {T : Tab} {tv : Value} (x : Int) (b : Nat) (w : World) (h : TabAt w tv T) (hc : w.cell? ⟨b, 0, none⟩ = some (.int .i64 x)) :
    Calls Try.prog 51 #[tv, .func (.func 52) #[] #[.pointer (some ⟨b, 0, none⟩)]] w fun e w' => e = .returned (.int .i64 (lookAt T x 0)) ∧ Up w w' := by
  obtain ⟨g, rfl, hT⟩ := h.ex
  have hlen := h.len
  have hli : (T.length : Int) ≤ 100 := by omega
  have HT : Hid (∀ i k ps, T[i]? = some (k, ps) → ∃ pv, w.rangeAt g (i * 2) [.int .i64 k, pv] ∧ PartsAt w pv ps) := hT
  have HC : Hid (w.cell? ⟨b, 0, none⟩ = some (.int .i64 x)) := hc
  clear h hT hc
  obtain ⟨n, hn⟩ : ∃ n, n = T.length := ⟨_, rfl⟩
  have HN : Hid (n = T.length) := hn
  rw [← hn] at hlen hli ⊢
  clear hn
  go_enter Try.func51, Try.ntmps51
  go_wp2
  go_loopw [8] (fun i wr => ∃ k : Nat, k ≤ n ∧ i = .int .i64 k ∧ Hid (lookAt T x 0 = lookAt (T.drop k) x k) ∧ Hid (Up w wr)) (fun i _ => n - (intOf i).toNat)
  case atStart => exact ⟨0, Nat.zero_le _, rfl, rfl, Up.refl _⟩
  case round =>
    obtain ⟨k, hk, rfl, hB, hU⟩ := hrel
    by_cases hlt : k < n
    · have hlt' : k < T.length := by rw [← HN.out]; exact hlt
      obtain ⟨y, ps, hy⟩ : ∃ y ps, T[k] = (y, ps) := ⟨T[k].1, T[k].2, rfl⟩
      obtain ⟨pv, hr, hp⟩ := HT.out k y ps (by rw [← hy]; exact List.getElem?_eq_getElem hlt')
      have hB2 : Hid (lookAt T x 0 = if y = x then (k : Int) else lookAt (T.drop (k + 1)) x (k + 1)) := by
        show _ = _
        rw [hB.out, lookAt_drop T x k hlt', hy]
      have hrr : wr.rangeAt g (k * 2) [.int .i64 y, pv] := range_up hr hU.out
      have HR : Hid (wr.rangeAt g (k * 2) [.int .i64 y, pv]) := hrr
      have HW : Hid (wr.cell? ⟨b, 0, none⟩ = some (.int .i64 x)) := (hU.out.cell (World.block_lt_of_cell? _ _ HC.out)).trans HC.out
      clear hB hr hrr hp hy hlt'
      go_wp2_with (refine wpList_load_mid rfl 78 _ rfl g (k * 2) rfl [.int .i64 y, pv] _ HR.out Try.underlying78 rfl (by kernel_rfl) ?_)
      by_cases hx : y = x
      · have hnb : (y == x) = true := by simp [hx]
        have hB3 : Hid (lookAt T x 0 = k) := by show _ = _; rw [hB2.out, if_pos hx]
        have HX : Hid (y = x) := hx
        clear hx
        refine (partsOf1_any y x pv b _ HW.out).mono ?_
        rintro e w1 ⟨rfl, hU1⟩
        rw [hnb]
        have HU1 : Hid (Up w w1) := hU.out.trans hU1
        clear hU1
        go_wp2_with fail
        go_ret
        exact ⟨ret1 hB3.out.symm, HU1.out⟩
      · have hnb : (y == x) = false := by simp [hx]
        have hB3 : Hid (lookAt T x 0 = lookAt (T.drop (k + 1)) x (k + 1)) := by show _ = _; rw [hB2.out, if_neg hx]
        clear hx
        refine (partsOf1_any y x pv b _ HW.out).mono ?_
        rintro e w1 ⟨rfl, hU1⟩
        rw [hnb]
        have HU1 : Hid (Up w w1) := hU.out.trans hU1
        clear hU1
        go_wp2_with fail
        go_roundw
        case rel => exact ⟨k + 1, by omega, by go_num, hB3, HU1⟩
        case measure => simp [intOf]; omega
    · have e : k = n := by omega
      subst e
      have hB3 : Hid (lookAt T x 0 = -1) := by show _ = _; rw [hB.out, HN.out, List.drop_length]; rfl
      clear hB
      go_wp2_with fail
      go_ret
      exact ⟨ret1 hB3.out.symm, hU.out⟩
/-- what comes of looking for a kind's parts -/
def PartsAns (W0 W : World) (r : Option (List Part)) (e : Ending) (w' : World) : Prop :=
  match r with
  | some ps => (∃ pv, e = .returned (.tuple #[pv, .bool true]) ∧ PartsAt W0 pv ps) ∧ Up W w'
  | none => e = .returned (.tuple #[.slice none 0 0, .bool false]) ∧ Up W w'
set_option maxRecDepth 100000 in
set_option maxHeartbeats 400000 in
theorem partsOf_any {T : Tab} {tv : Value} (x : Int) (W0 w : World) (h : TabAt W0 tv T) (hU0 : Up W0 w) :
    Calls Try.prog 38 #[tv, .int .i64 x] w (PartsAns W0 w (look T x)) := by
  have hmf : ∀ (fn : Fn) (first cap : Array Value) (w : World), (Instr.makeFunc fn first cap).run Try.prog w = .ok (.func fn first cap) w := fun _ _ _ _ => rfl
  have HH : Hid (TabAt w tv T) := h.up hU0
  have HU0 : Hid (Up W0 w) := hU0
  obtain ⟨g, rfl, hT⟩ := h.ex
  have hlen := h.len
  have HT : Hid (∀ i k ps, T[i]? = some (k, ps) → ∃ pv, W0.rangeAt g (i * 2) [.int .i64 k, pv] ∧ PartsAt W0 pv ps) := hT
  clear h hT hU0
  rcases lookAt_look T x 0 with ⟨h1, h2⟩ | ⟨j, ps, h1, h2, h3⟩
  · rw [h2]
    have H1 : Hid (lookAt T x 0 = -1) := h1
    clear h1 h2
    go_enter Try.func38, Try.ntmps38
    go_wp2_with fail
    refine (indexK_any x w.heap.size _ (by exact HH.out.up ((Up.refl w).alloc _)) (by simp [go_sem])).mono ?_
    rintro e w1 ⟨rfl, hU⟩
    rw [H1.out]
    have HU : Hid (Up w w1) := ((Up.refl w).alloc _).trans hU
    clear hU
    go_wp2_with fail
    go_ret2
    exact ⟨rfl, HU.out⟩
  · rw [h3]
    obtain ⟨pv, q1, q2⟩ := HT.out j x ps h2
    have hj : j < T.length := (List.getElem?_eq_some_iff.1 h2).1
    have hji : (j : Int) ≤ 100 := by omega
    have hji2 : (j : Int) < T.length := by omega
    have H1 : Hid (lookAt T x 0 = j) := by show _ = _; rw [h1, Nat.zero_add]
    have Q1 : Hid (w.rangeAt g (j * 2) [.int .i64 x, pv]) := range_up q1 HU0.out
    have Q2 : Hid (PartsAt W0 pv ps) := q2
    clear h1 h2 h3 q1 q2
    go_enter Try.func38, Try.ntmps38
    go_wp2_with fail
    refine (indexK_any x w.heap.size _ (by exact HH.out.up ((Up.refl w).alloc _)) (by simp [go_sem])).mono ?_
    rintro e w1 ⟨rfl, hU⟩
    rw [H1.out]
    have HU : Hid (Up w w1) := ((Up.refl w).alloc _).trans hU
    have hcl : w1.cell? ⟨g, j * 2 + 1, none⟩ = some pv := range_up Q1.out HU.out 1 pv rfl
    clear hU
    go_wp2_with fail
    go_ret2
    exact ⟨⟨pv, rfl, Q2.out⟩, HU.out⟩
/-- a block, all of it -/
theorem range_heap {b : Nat} {cs : Array Value} {ty : TypeId} (h : w.heap[b]? = some (.cells cs ty (0, 0))) : w.rangeAt b 0 cs.toList := by
  intro k v hv
  rw [Nat.zero_add]
  refine heap_cell h ?_
  simpa using hv
end Go.Proofs.Ytnengokobkehfaa
