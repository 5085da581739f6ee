/- Proto: the tables of kinds, as they are made. -/
import Derived.Test.YtnengokobkehfaaPrK
namespace Go.Proofs.Ytnengokobkehfaa
open Go.RowKit
set_option linter.unusedVariables false
variable {w w' W : World}
/-- blocks made one behind the other -/
def allocs (W : World) : List Obj → World
  | [] => W
  | o :: r => allocs (W.alloc o) r
theorem allocs_up : ∀ (l : List Obj) (W : World), Up W (allocs W l)
  | [], W => Up.refl W
  | o :: r, W => ((Up.refl W).alloc o).trans (allocs_up r _)
theorem allocs_heap : ∀ (l : List Obj) (W : World) (k : Nat) (o : Obj), l[k]? = some o → (allocs W l).heap[W.heap.size + k]? = some o
  | [], W, k, o, h => by simp at h
  | x :: r, W, 0, o, h => by
    have e : x = o := by simpa using h
    subst e
    exact ((allocs_up r (W.alloc x)).block _ (by simp)).trans (heap_alloc_new W x)
  | x :: r, W, k + 1, o, h => by
    have := allocs_heap r (W.alloc x) k o (by simpa using h)
    simp only [World.size_alloc] at this
    rw [show W.heap.size + (k + 1) = W.heap.size + 1 + k by omega]
    exact this
/-- what is made for Msg -/
def objsMsg (b : Nat) : List Obj := [.cells #[.int .i64 1] 3,
  .cells #[.int .i64 8] 3,
  .cells #[.int .i64 0] 3,
  .cells #[.int .i64 262144] 3,
  .cells #[.func (.func 30) #[] #[], .func (.func 31) #[] #[], .int .i64 1, .func (.func 47) #[] #[.pointer (some ⟨b + 0, 0, none⟩), .pointer (some ⟨b + 1, 0, none⟩)], .func (.func 33) #[] #[], .func (.func 34) #[] #[], .int .i64 1, .func (.func 35) #[] #[], .func (.func 36) #[] #[], .func (.func 34) #[] #[], .int .i64 4, .func (.func 47) #[] #[.pointer (some ⟨b + 2, 0, none⟩), .pointer (some ⟨b + 3, 0, none⟩)]] 75,
  .cells #[.int .i64 0] 3,
  .cells #[.int .i64 255] 3,
  .cells #[.func (.func 37) #[] #[], .func (.func 31) #[] #[], .int .i64 1, .func (.func 47) #[] #[.pointer (some ⟨b + 5, 0, none⟩), .pointer (some ⟨b + 6, 0, none⟩)]] 75,
  .cells #[.int .i64 1] 3,
  .cells #[.int .i64 600] 3,
  .cells #[.func (.func 37) #[] #[], .func (.func 31) #[] #[], .int .i64 2, .func (.func 47) #[] #[.pointer (some ⟨b + 8, 0, none⟩), .pointer (some ⟨b + 9, 0, none⟩)]] 75,
  .cells #[.int .i64 0] 3,
  .cells #[.int .i64 65535] 3,
  .cells #[.func (.func 37) #[] #[], .func (.func 31) #[] #[], .int .i64 2, .func (.func 47) #[] #[.pointer (some ⟨b + 11, 0, none⟩), .pointer (some ⟨b + 12, 0, none⟩)]] 75,
  .cells #[.int .i64 1, .slice (some ⟨b + 4, 0, none⟩) 3 3, .int .i64 2, .slice (some ⟨b + 7, 0, none⟩) 1 1, .int .i64 3, .slice (some ⟨b + 10, 0, none⟩) 1 1, .int .i64 4, .slice none 0 0, .int .i64 5, .slice none 0 0, .int .i64 6, .slice (some ⟨b + 13, 0, none⟩) 1 1, .int .i64 7, .slice none 0 0] 78]
def tabMsg (b : Nat) : Value := .slice (some ⟨b + 14, 0, none⟩) 7 7
set_option maxRecDepth 100000 in
set_option maxHeartbeats 1000000 in
theorem messageKinds_run (W : World) : Calls Try.prog 19 #[] W fun e w' => e = .returned (tabMsg W.heap.size) ∧ w' = allocs W (objsMsg W.heap.size) := by
  go_enter Try.func19, Try.ntmps19
  go_wp2_with (go_at_call 32; refine (between_any _ _ _).mono ?_; rintro e w' ⟨rfl, rfl⟩)
  go_ret
  exact ⟨rfl, rfl⟩
theorem tabMsg_at (W : World) : TabAt (allocs W (objsMsg W.heap.size)) (tabMsg W.heap.size) msgT := by
  have H := fun k o (h : (objsMsg W.heap.size)[k]? = some o) => allocs_heap (objsMsg W.heap.size) W k o h
  generalize allocs W (objsMsg W.heap.size) = w at H
  generalize W.heap.size = b at H ⊢
  have HK := H 14 _ rfl
  have P0 : PartsAt w (.slice (some ⟨b + 4, 0, none⟩) 3 3) (msgT.getD 0 (0, [])).2 := by
    refine ⟨⟨_, b + 4, 3, rfl, Nat.le_refl _, by unfold maxLen; decide, fun _ => rfl, fun j p h => ?_⟩, fun p h => ?_⟩
    · have hc := H 4 _ rfl
      have hj : j < 3 := (List.getElem?_eq_some_iff.1 h).1
      have hjj : j = 0 ∨ j = 1 ∨ j = 2 := by omega
      rcases hjj with rfl | rfl | rfl
      · injection h with h
        subst h
        refine ⟨(.func (.func 47) #[] #[.pointer (some ⟨b + 0, 0, none⟩), .pointer (some ⟨b + 1, 0, none⟩)] : Value), fun q v hv => ?_, ?_⟩
        rotate_left
        · exact ⟨b + 0, b + 1, rfl, heap_cell (H 0 _ rfl) rfl, heap_cell (H 1 _ rfl) rfl⟩
        · refine heap_cell hc ?_
          have hq : q < 4 := (List.getElem?_eq_some_iff.1 hv).1
          have hqq : q = 0 ∨ q = 1 ∨ q = 2 ∨ q = 3 := by omega
          rcases hqq with rfl | rfl | rfl | rfl <;> (injection hv with hv; subst hv; rfl)
      · injection h with h
        subst h
        refine ⟨(.func (.func 35) #[] #[] : Value), fun q v hv => ?_, ?_⟩
        rotate_left
        · exact rfl
        · refine heap_cell hc ?_
          have hq : q < 4 := (List.getElem?_eq_some_iff.1 hv).1
          have hqq : q = 0 ∨ q = 1 ∨ q = 2 ∨ q = 3 := by omega
          rcases hqq with rfl | rfl | rfl | rfl <;> (injection hv with hv; subst hv; rfl)
      · injection h with h
        subst h
        refine ⟨(.func (.func 47) #[] #[.pointer (some ⟨b + 2, 0, none⟩), .pointer (some ⟨b + 3, 0, none⟩)] : Value), fun q v hv => ?_, ?_⟩
        rotate_left
        · exact ⟨b + 2, b + 3, rfl, heap_cell (H 2 _ rfl) rfl, heap_cell (H 3 _ rfl) rfl⟩
        · refine heap_cell hc ?_
          have hq : q < 4 := (List.getElem?_eq_some_iff.1 hv).1
          have hqq : q = 0 ∨ q = 1 ∨ q = 2 ∨ q = 3 := by omega
          rcases hqq with rfl | rfl | rfl | rfl <;> (injection hv with hv; subst hv; rfl)
    · have : (msgT.getD 0 (0, [])).2.all Part.okB = true := by decide +kernel
      exact part_ok (List.all_eq_true.1 this p h)
  have P1 : PartsAt w (.slice (some ⟨b + 7, 0, none⟩) 1 1) (msgT.getD 1 (0, [])).2 := by
    refine ⟨⟨_, b + 7, 1, rfl, Nat.le_refl _, by unfold maxLen; decide, fun _ => rfl, fun j p h => ?_⟩, fun p h => ?_⟩
    · have hc := H 7 _ rfl
      have hj : j < 1 := (List.getElem?_eq_some_iff.1 h).1
      have hjj : j = 0 := by omega
      rcases hjj with rfl
      · injection h with h
        subst h
        refine ⟨(.func (.func 47) #[] #[.pointer (some ⟨b + 5, 0, none⟩), .pointer (some ⟨b + 6, 0, none⟩)] : Value), fun q v hv => ?_, ?_⟩
        rotate_left
        · exact ⟨b + 5, b + 6, rfl, heap_cell (H 5 _ rfl) rfl, heap_cell (H 6 _ rfl) rfl⟩
        · refine heap_cell hc ?_
          have hq : q < 4 := (List.getElem?_eq_some_iff.1 hv).1
          have hqq : q = 0 ∨ q = 1 ∨ q = 2 ∨ q = 3 := by omega
          rcases hqq with rfl | rfl | rfl | rfl <;> (injection hv with hv; subst hv; rfl)
    · have : (msgT.getD 1 (0, [])).2.all Part.okB = true := by decide +kernel
      exact part_ok (List.all_eq_true.1 this p h)
  have P2 : PartsAt w (.slice (some ⟨b + 10, 0, none⟩) 1 1) (msgT.getD 2 (0, [])).2 := by
    refine ⟨⟨_, b + 10, 1, rfl, Nat.le_refl _, by unfold maxLen; decide, fun _ => rfl, fun j p h => ?_⟩, fun p h => ?_⟩
    · have hc := H 10 _ rfl
      have hj : j < 1 := (List.getElem?_eq_some_iff.1 h).1
      have hjj : j = 0 := by omega
      rcases hjj with rfl
      · injection h with h
        subst h
        refine ⟨(.func (.func 47) #[] #[.pointer (some ⟨b + 8, 0, none⟩), .pointer (some ⟨b + 9, 0, none⟩)] : Value), fun q v hv => ?_, ?_⟩
        rotate_left
        · exact ⟨b + 8, b + 9, rfl, heap_cell (H 8 _ rfl) rfl, heap_cell (H 9 _ rfl) rfl⟩
        · refine heap_cell hc ?_
          have hq : q < 4 := (List.getElem?_eq_some_iff.1 hv).1
          have hqq : q = 0 ∨ q = 1 ∨ q = 2 ∨ q = 3 := by omega
          rcases hqq with rfl | rfl | rfl | rfl <;> (injection hv with hv; subst hv; rfl)
    · have : (msgT.getD 2 (0, [])).2.all Part.okB = true := by decide +kernel
      exact part_ok (List.all_eq_true.1 this p h)
  have P3 : PartsAt w (.slice none 0 0) (msgT.getD 3 (0, [])).2 := by
    refine ⟨⟨none, 0, 0, rfl, Nat.le_refl _, Nat.zero_le _, fun h => absurd h (by decide), fun j p h => ?_⟩, fun p h => ?_⟩
    · exact absurd h (by simp [msgT])
    · exact absurd h (by simp [msgT])
  have P4 : PartsAt w (.slice none 0 0) (msgT.getD 4 (0, [])).2 := by
    refine ⟨⟨none, 0, 0, rfl, Nat.le_refl _, Nat.zero_le _, fun h => absurd h (by decide), fun j p h => ?_⟩, fun p h => ?_⟩
    · exact absurd h (by simp [msgT])
    · exact absurd h (by simp [msgT])
  have P5 : PartsAt w (.slice (some ⟨b + 13, 0, none⟩) 1 1) (msgT.getD 5 (0, [])).2 := by
    refine ⟨⟨_, b + 13, 1, rfl, Nat.le_refl _, by unfold maxLen; decide, fun _ => rfl, fun j p h => ?_⟩, fun p h => ?_⟩
    · have hc := H 13 _ rfl
      have hj : j < 1 := (List.getElem?_eq_some_iff.1 h).1
      have hjj : j = 0 := by omega
      rcases hjj with rfl
      · injection h with h
        subst h
        refine ⟨(.func (.func 47) #[] #[.pointer (some ⟨b + 11, 0, none⟩), .pointer (some ⟨b + 12, 0, none⟩)] : Value), fun q v hv => ?_, ?_⟩
        rotate_left
        · exact ⟨b + 11, b + 12, rfl, heap_cell (H 11 _ rfl) rfl, heap_cell (H 12 _ rfl) rfl⟩
        · refine heap_cell hc ?_
          have hq : q < 4 := (List.getElem?_eq_some_iff.1 hv).1
          have hqq : q = 0 ∨ q = 1 ∨ q = 2 ∨ q = 3 := by omega
          rcases hqq with rfl | rfl | rfl | rfl <;> (injection hv with hv; subst hv; rfl)
    · have : (msgT.getD 5 (0, [])).2.all Part.okB = true := by decide +kernel
      exact part_ok (List.all_eq_true.1 this p h)
  have P6 : PartsAt w (.slice none 0 0) (msgT.getD 6 (0, [])).2 := by
    refine ⟨⟨none, 0, 0, rfl, Nat.le_refl _, Nat.zero_le _, fun h => absurd h (by decide), fun j p h => ?_⟩, fun p h => ?_⟩
    · exact absurd h (by simp [msgT])
    · exact absurd h (by simp [msgT])
  refine ⟨⟨b + 14, rfl, fun i k ps hi => ?_⟩, by decide⟩
  have hi2 : i < 7 := (List.getElem?_eq_some_iff.1 hi).1
  have hii : i = 0 ∨ i = 1 ∨ i = 2 ∨ i = 3 ∨ i = 4 ∨ i = 5 ∨ i = 6 := by omega
  rcases hii with rfl | rfl | rfl | rfl | rfl | rfl | rfl
  · injection hi with hi
    injection hi with h1 h2
    subst h1 h2
    refine ⟨(.slice (some ⟨b + 4, 0, none⟩) 3 3 : Value), fun q v hv => ?_, P0⟩
    refine heap_cell HK ?_
    have hq : q < 2 := (List.getElem?_eq_some_iff.1 hv).1
    have hqq : q = 0 ∨ q = 1 := by omega
    rcases hqq with rfl | rfl <;> (injection hv with hv; subst hv; rfl)
  · injection hi with hi
    injection hi with h1 h2
    subst h1 h2
    refine ⟨(.slice (some ⟨b + 7, 0, none⟩) 1 1 : Value), fun q v hv => ?_, P1⟩
    refine heap_cell HK ?_
    have hq : q < 2 := (List.getElem?_eq_some_iff.1 hv).1
    have hqq : q = 0 ∨ q = 1 := by omega
    rcases hqq with rfl | rfl <;> (injection hv with hv; subst hv; rfl)
  · injection hi with hi
    injection hi with h1 h2
    subst h1 h2
    refine ⟨(.slice (some ⟨b + 10, 0, none⟩) 1 1 : Value), fun q v hv => ?_, P2⟩
    refine heap_cell HK ?_
    have hq : q < 2 := (List.getElem?_eq_some_iff.1 hv).1
    have hqq : q = 0 ∨ q = 1 := by omega
    rcases hqq with rfl | rfl <;> (injection hv with hv; subst hv; rfl)
  · injection hi with hi
    injection hi with h1 h2
    subst h1 h2
    refine ⟨(.slice none 0 0 : Value), fun q v hv => ?_, P3⟩
    refine heap_cell HK ?_
    have hq : q < 2 := (List.getElem?_eq_some_iff.1 hv).1
    have hqq : q = 0 ∨ q = 1 := by omega
    rcases hqq with rfl | rfl <;> (injection hv with hv; subst hv; rfl)
  · injection hi with hi
    injection hi with h1 h2
    subst h1 h2
    refine ⟨(.slice none 0 0 : Value), fun q v hv => ?_, P4⟩
    refine heap_cell HK ?_
    have hq : q < 2 := (List.getElem?_eq_some_iff.1 hv).1
    have hqq : q = 0 ∨ q = 1 := by omega
    rcases hqq with rfl | rfl <;> (injection hv with hv; subst hv; rfl)
  · injection hi with hi
    injection hi with h1 h2
    subst h1 h2
    refine ⟨(.slice (some ⟨b + 13, 0, none⟩) 1 1 : Value), fun q v hv => ?_, P5⟩
    refine heap_cell HK ?_
    have hq : q < 2 := (List.getElem?_eq_some_iff.1 hv).1
    have hqq : q = 0 ∨ q = 1 := by omega
    rcases hqq with rfl | rfl <;> (injection hv with hv; subst hv; rfl)
  · injection hi with hi
    injection hi with h1 h2
    subst h1 h2
    refine ⟨(.slice none 0 0 : Value), fun q v hv => ?_, P6⟩
    refine heap_cell HK ?_
    have hq : q < 2 := (List.getElem?_eq_some_iff.1 hv).1
    have hqq : q = 0 ∨ q = 1 := by omega
    rcases hqq with rfl | rfl <;> (injection hv with hv; subst hv; rfl)
theorem messageKinds_any (W : World) : Calls Try.prog 19 #[] W fun e w' => ∃ b, e = .returned (tabMsg b) ∧ TabAt w' (tabMsg b) msgT ∧ Up W w' := by
  refine (messageKinds_run W).mono ?_
  rintro e w' ⟨rfl, rfl⟩
  exact ⟨_, rfl, tabMsg_at W, allocs_up _ W⟩
/-- what is made for Rep -/
def objsRep (b : Nat) : List Obj := [.cells #[.int .i64 0] 3,
  .cells #[.int .i64 131072] 3,
  .cells #[.func (.func 37) #[] #[], .func (.func 31) #[] #[], .int .i64 4, .func (.func 47) #[] #[.pointer (some ⟨b + 0, 0, none⟩), .pointer (some ⟨b + 1, 0, none⟩)]] 75,
  .cells #[.int .i64 1] 3,
  .cells #[.int .i64 65535] 3,
  .cells #[.func (.func 37) #[] #[], .func (.func 31) #[] #[], .int .i64 2, .func (.func 47) #[] #[.pointer (some ⟨b + 3, 0, none⟩), .pointer (some ⟨b + 4, 0, none⟩)]] 75,
  .cells #[.int .i64 0] 3,
  .cells #[.int .i64 4294967295] 3,
  .cells #[.int .i64 0] 3,
  .cells #[.int .i64 4294967295] 3,
  .cells #[.func (.func 37) #[] #[], .func (.func 31) #[] #[], .int .i64 4, .func (.func 47) #[] #[.pointer (some ⟨b + 6, 0, none⟩), .pointer (some ⟨b + 7, 0, none⟩)], .func (.func 41) #[] #[], .func (.func 31) #[] #[], .int .i64 4, .func (.func 47) #[] #[.pointer (some ⟨b + 8, 0, none⟩), .pointer (some ⟨b + 9, 0, none⟩)]] 75,
  .cells #[.int .i64 0] 3,
  .cells #[.int .i64 4294967295] 3,
  .cells #[.int .i64 0] 3,
  .cells #[.int .i64 5760] 3,
  .cells #[.func (.func 37) #[] #[], .func (.func 31) #[] #[], .int .i64 4, .func (.func 47) #[] #[.pointer (some ⟨b + 11, 0, none⟩), .pointer (some ⟨b + 12, 0, none⟩)], .func (.func 36) #[] #[], .func (.func 34) #[] #[], .int .i64 4, .func (.func 47) #[] #[.pointer (some ⟨b + 13, 0, none⟩), .pointer (some ⟨b + 14, 0, none⟩)]] 75,
  .cells #[.int .i64 0] 3,
  .cells #[.int .i64 131072] 3,
  .cells #[.func (.func 37) #[] #[], .func (.func 31) #[] #[], .int .i64 4, .func (.func 47) #[] #[.pointer (some ⟨b + 16, 0, none⟩), .pointer (some ⟨b + 17, 0, none⟩)]] 75,
  .cells #[.int .i64 0] 3,
  .cells #[.int .i64 255] 3,
  .cells #[.func (.func 37) #[] #[], .func (.func 31) #[] #[], .int .i64 1, .func (.func 47) #[] #[.pointer (some ⟨b + 19, 0, none⟩), .pointer (some ⟨b + 20, 0, none⟩)]] 75,
  .cells #[.int .i64 0] 3,
  .cells #[.int .i64 4294967295] 3,
  .cells #[.func (.func 37) #[] #[], .func (.func 31) #[] #[], .int .i64 4, .func (.func 47) #[] #[.pointer (some ⟨b + 22, 0, none⟩), .pointer (some ⟨b + 23, 0, none⟩)]] 75,
  .cells #[.int .i64 0] 3,
  .cells #[.int .i64 4294967295] 3,
  .cells #[.func (.func 37) #[] #[], .func (.func 31) #[] #[], .int .i64 4, .func (.func 47) #[] #[.pointer (some ⟨b + 25, 0, none⟩), .pointer (some ⟨b + 26, 0, none⟩)]] 75,
  .cells #[.int .i64 1, .slice (some ⟨b + 2, 0, none⟩) 1 1, .int .i64 2, .slice none 0 0, .int .i64 3, .slice (some ⟨b + 5, 0, none⟩) 1 1, .int .i64 4, .slice (some ⟨b + 10, 0, none⟩) 2 2, .int .i64 5, .slice (some ⟨b + 15, 0, none⟩) 2 2, .int .i64 6, .slice (some ⟨b + 18, 0, none⟩) 1 1, .int .i64 7, .slice (some ⟨b + 21, 0, none⟩) 1 1, .int .i64 8, .slice (some ⟨b + 24, 0, none⟩) 1 1, .int .i64 9, .slice (some ⟨b + 27, 0, none⟩) 1 1] 78]
def tabRep (b : Nat) : Value := .slice (some ⟨b + 28, 0, none⟩) 9 9
set_option maxRecDepth 100000 in
set_option maxHeartbeats 1000000 in
theorem replyKinds_run (W : World) : Calls Try.prog 25 #[] W fun e w' => e = .returned (tabRep W.heap.size) ∧ w' = allocs W (objsRep W.heap.size) := by
  go_enter Try.func25, Try.ntmps25
  go_wp2_with (go_at_call 32; refine (between_any _ _ _).mono ?_; rintro e w' ⟨rfl, rfl⟩)
  go_ret
  exact ⟨rfl, rfl⟩
theorem tabRep_at (W : World) : TabAt (allocs W (objsRep W.heap.size)) (tabRep W.heap.size) repT := by
  have H := fun k o (h : (objsRep W.heap.size)[k]? = some o) => allocs_heap (objsRep W.heap.size) W k o h
  generalize allocs W (objsRep W.heap.size) = w at H
  generalize W.heap.size = b at H ⊢
  have HK := H 28 _ rfl
  have P0 : PartsAt w (.slice (some ⟨b + 2, 0, none⟩) 1 1) (repT.getD 0 (0, [])).2 := by
    refine ⟨⟨_, b + 2, 1, rfl, Nat.le_refl _, by unfold maxLen; decide, fun _ => rfl, fun j p h => ?_⟩, fun p h => ?_⟩
    · have hc := H 2 _ rfl
      have hj : j < 1 := (List.getElem?_eq_some_iff.1 h).1
      have hjj : j = 0 := by omega
      rcases hjj with rfl
      · injection h with h
        subst h
        refine ⟨(.func (.func 47) #[] #[.pointer (some ⟨b + 0, 0, none⟩), .pointer (some ⟨b + 1, 0, none⟩)] : Value), fun q v hv => ?_, ?_⟩
        rotate_left
        · exact ⟨b + 0, b + 1, rfl, heap_cell (H 0 _ rfl) rfl, heap_cell (H 1 _ rfl) rfl⟩
        · refine heap_cell hc ?_
          have hq : q < 4 := (List.getElem?_eq_some_iff.1 hv).1
          have hqq : q = 0 ∨ q = 1 ∨ q = 2 ∨ q = 3 := by omega
          rcases hqq with rfl | rfl | rfl | rfl <;> (injection hv with hv; subst hv; rfl)
    · have : (repT.getD 0 (0, [])).2.all Part.okB = true := by decide +kernel
      exact part_ok (List.all_eq_true.1 this p h)
  have P1 : PartsAt w (.slice none 0 0) (repT.getD 1 (0, [])).2 := by
    refine ⟨⟨none, 0, 0, rfl, Nat.le_refl _, Nat.zero_le _, fun h => absurd h (by decide), fun j p h => ?_⟩, fun p h => ?_⟩
    · exact absurd h (by simp [repT])
    · exact absurd h (by simp [repT])
  have P2 : PartsAt w (.slice (some ⟨b + 5, 0, none⟩) 1 1) (repT.getD 2 (0, [])).2 := by
    refine ⟨⟨_, b + 5, 1, rfl, Nat.le_refl _, by unfold maxLen; decide, fun _ => rfl, fun j p h => ?_⟩, fun p h => ?_⟩
    · have hc := H 5 _ rfl
      have hj : j < 1 := (List.getElem?_eq_some_iff.1 h).1
      have hjj : j = 0 := by omega
      rcases hjj with rfl
      · injection h with h
        subst h
        refine ⟨(.func (.func 47) #[] #[.pointer (some ⟨b + 3, 0, none⟩), .pointer (some ⟨b + 4, 0, none⟩)] : Value), fun q v hv => ?_, ?_⟩
        rotate_left
        · exact ⟨b + 3, b + 4, rfl, heap_cell (H 3 _ rfl) rfl, heap_cell (H 4 _ rfl) rfl⟩
        · refine heap_cell hc ?_
          have hq : q < 4 := (List.getElem?_eq_some_iff.1 hv).1
          have hqq : q = 0 ∨ q = 1 ∨ q = 2 ∨ q = 3 := by omega
          rcases hqq with rfl | rfl | rfl | rfl <;> (injection hv with hv; subst hv; rfl)
    · have : (repT.getD 2 (0, [])).2.all Part.okB = true := by decide +kernel
      exact part_ok (List.all_eq_true.1 this p h)
  have P3 : PartsAt w (.slice (some ⟨b + 10, 0, none⟩) 2 2) (repT.getD 3 (0, [])).2 := by
    refine ⟨⟨_, b + 10, 2, rfl, Nat.le_refl _, by unfold maxLen; decide, fun _ => rfl, fun j p h => ?_⟩, fun p h => ?_⟩
    · have hc := H 10 _ rfl
      have hj : j < 2 := (List.getElem?_eq_some_iff.1 h).1
      have hjj : j = 0 ∨ j = 1 := by omega
      rcases hjj with rfl | rfl
      · injection h with h
        subst h
        refine ⟨(.func (.func 47) #[] #[.pointer (some ⟨b + 6, 0, none⟩), .pointer (some ⟨b + 7, 0, none⟩)] : Value), fun q v hv => ?_, ?_⟩
        rotate_left
        · exact ⟨b + 6, b + 7, rfl, heap_cell (H 6 _ rfl) rfl, heap_cell (H 7 _ rfl) rfl⟩
        · refine heap_cell hc ?_
          have hq : q < 4 := (List.getElem?_eq_some_iff.1 hv).1
          have hqq : q = 0 ∨ q = 1 ∨ q = 2 ∨ q = 3 := by omega
          rcases hqq with rfl | rfl | rfl | rfl <;> (injection hv with hv; subst hv; rfl)
      · injection h with h
        subst h
        refine ⟨(.func (.func 47) #[] #[.pointer (some ⟨b + 8, 0, none⟩), .pointer (some ⟨b + 9, 0, none⟩)] : Value), fun q v hv => ?_, ?_⟩
        rotate_left
        · exact ⟨b + 8, b + 9, rfl, heap_cell (H 8 _ rfl) rfl, heap_cell (H 9 _ rfl) rfl⟩
        · refine heap_cell hc ?_
          have hq : q < 4 := (List.getElem?_eq_some_iff.1 hv).1
          have hqq : q = 0 ∨ q = 1 ∨ q = 2 ∨ q = 3 := by omega
          rcases hqq with rfl | rfl | rfl | rfl <;> (injection hv with hv; subst hv; rfl)
    · have : (repT.getD 3 (0, [])).2.all Part.okB = true := by decide +kernel
      exact part_ok (List.all_eq_true.1 this p h)
  have P4 : PartsAt w (.slice (some ⟨b + 15, 0, none⟩) 2 2) (repT.getD 4 (0, [])).2 := by
    refine ⟨⟨_, b + 15, 2, rfl, Nat.le_refl _, by unfold maxLen; decide, fun _ => rfl, fun j p h => ?_⟩, fun p h => ?_⟩
    · have hc := H 15 _ rfl
      have hj : j < 2 := (List.getElem?_eq_some_iff.1 h).1
      have hjj : j = 0 ∨ j = 1 := by omega
      rcases hjj with rfl | rfl
      · injection h with h
        subst h
        refine ⟨(.func (.func 47) #[] #[.pointer (some ⟨b + 11, 0, none⟩), .pointer (some ⟨b + 12, 0, none⟩)] : Value), fun q v hv => ?_, ?_⟩
        rotate_left
        · exact ⟨b + 11, b + 12, rfl, heap_cell (H 11 _ rfl) rfl, heap_cell (H 12 _ rfl) rfl⟩
        · refine heap_cell hc ?_
          have hq : q < 4 := (List.getElem?_eq_some_iff.1 hv).1
          have hqq : q = 0 ∨ q = 1 ∨ q = 2 ∨ q = 3 := by omega
          rcases hqq with rfl | rfl | rfl | rfl <;> (injection hv with hv; subst hv; rfl)
      · injection h with h
        subst h
        refine ⟨(.func (.func 47) #[] #[.pointer (some ⟨b + 13, 0, none⟩), .pointer (some ⟨b + 14, 0, none⟩)] : Value), fun q v hv => ?_, ?_⟩
        rotate_left
        · exact ⟨b + 13, b + 14, rfl, heap_cell (H 13 _ rfl) rfl, heap_cell (H 14 _ rfl) rfl⟩
        · refine heap_cell hc ?_
          have hq : q < 4 := (List.getElem?_eq_some_iff.1 hv).1
          have hqq : q = 0 ∨ q = 1 ∨ q = 2 ∨ q = 3 := by omega
          rcases hqq with rfl | rfl | rfl | rfl <;> (injection hv with hv; subst hv; rfl)
    · have : (repT.getD 4 (0, [])).2.all Part.okB = true := by decide +kernel
      exact part_ok (List.all_eq_true.1 this p h)
  have P5 : PartsAt w (.slice (some ⟨b + 18, 0, none⟩) 1 1) (repT.getD 5 (0, [])).2 := by
    refine ⟨⟨_, b + 18, 1, rfl, Nat.le_refl _, by unfold maxLen; decide, fun _ => rfl, fun j p h => ?_⟩, fun p h => ?_⟩
    · have hc := H 18 _ rfl
      have hj : j < 1 := (List.getElem?_eq_some_iff.1 h).1
      have hjj : j = 0 := by omega
      rcases hjj with rfl
      · injection h with h
        subst h
        refine ⟨(.func (.func 47) #[] #[.pointer (some ⟨b + 16, 0, none⟩), .pointer (some ⟨b + 17, 0, none⟩)] : Value), fun q v hv => ?_, ?_⟩
        rotate_left
        · exact ⟨b + 16, b + 17, rfl, heap_cell (H 16 _ rfl) rfl, heap_cell (H 17 _ rfl) rfl⟩
        · refine heap_cell hc ?_
          have hq : q < 4 := (List.getElem?_eq_some_iff.1 hv).1
          have hqq : q = 0 ∨ q = 1 ∨ q = 2 ∨ q = 3 := by omega
          rcases hqq with rfl | rfl | rfl | rfl <;> (injection hv with hv; subst hv; rfl)
    · have : (repT.getD 5 (0, [])).2.all Part.okB = true := by decide +kernel
      exact part_ok (List.all_eq_true.1 this p h)
  have P6 : PartsAt w (.slice (some ⟨b + 21, 0, none⟩) 1 1) (repT.getD 6 (0, [])).2 := by
    refine ⟨⟨_, b + 21, 1, rfl, Nat.le_refl _, by unfold maxLen; decide, fun _ => rfl, fun j p h => ?_⟩, fun p h => ?_⟩
    · have hc := H 21 _ rfl
      have hj : j < 1 := (List.getElem?_eq_some_iff.1 h).1
      have hjj : j = 0 := by omega
      rcases hjj with rfl
      · injection h with h
        subst h
        refine ⟨(.func (.func 47) #[] #[.pointer (some ⟨b + 19, 0, none⟩), .pointer (some ⟨b + 20, 0, none⟩)] : Value), fun q v hv => ?_, ?_⟩
        rotate_left
        · exact ⟨b + 19, b + 20, rfl, heap_cell (H 19 _ rfl) rfl, heap_cell (H 20 _ rfl) rfl⟩
        · refine heap_cell hc ?_
          have hq : q < 4 := (List.getElem?_eq_some_iff.1 hv).1
          have hqq : q = 0 ∨ q = 1 ∨ q = 2 ∨ q = 3 := by omega
          rcases hqq with rfl | rfl | rfl | rfl <;> (injection hv with hv; subst hv; rfl)
    · have : (repT.getD 6 (0, [])).2.all Part.okB = true := by decide +kernel
      exact part_ok (List.all_eq_true.1 this p h)
  have P7 : PartsAt w (.slice (some ⟨b + 24, 0, none⟩) 1 1) (repT.getD 7 (0, [])).2 := by
    refine ⟨⟨_, b + 24, 1, rfl, Nat.le_refl _, by unfold maxLen; decide, fun _ => rfl, fun j p h => ?_⟩, fun p h => ?_⟩
    · have hc := H 24 _ rfl
      have hj : j < 1 := (List.getElem?_eq_some_iff.1 h).1
      have hjj : j = 0 := by omega
      rcases hjj with rfl
      · injection h with h
        subst h
        refine ⟨(.func (.func 47) #[] #[.pointer (some ⟨b + 22, 0, none⟩), .pointer (some ⟨b + 23, 0, none⟩)] : Value), fun q v hv => ?_, ?_⟩
        rotate_left
        · exact ⟨b + 22, b + 23, rfl, heap_cell (H 22 _ rfl) rfl, heap_cell (H 23 _ rfl) rfl⟩
        · refine heap_cell hc ?_
          have hq : q < 4 := (List.getElem?_eq_some_iff.1 hv).1
          have hqq : q = 0 ∨ q = 1 ∨ q = 2 ∨ q = 3 := by omega
          rcases hqq with rfl | rfl | rfl | rfl <;> (injection hv with hv; subst hv; rfl)
    · have : (repT.getD 7 (0, [])).2.all Part.okB = true := by decide +kernel
      exact part_ok (List.all_eq_true.1 this p h)
  have P8 : PartsAt w (.slice (some ⟨b + 27, 0, none⟩) 1 1) (repT.getD 8 (0, [])).2 := by
    refine ⟨⟨_, b + 27, 1, rfl, Nat.le_refl _, by unfold maxLen; decide, fun _ => rfl, fun j p h => ?_⟩, fun p h => ?_⟩
    · have hc := H 27 _ rfl
      have hj : j < 1 := (List.getElem?_eq_some_iff.1 h).1
      have hjj : j = 0 := by omega
      rcases hjj with rfl
      · injection h with h
        subst h
        refine ⟨(.func (.func 47) #[] #[.pointer (some ⟨b + 25, 0, none⟩), .pointer (some ⟨b + 26, 0, none⟩)] : Value), fun q v hv => ?_, ?_⟩
        rotate_left
        · exact ⟨b + 25, b + 26, rfl, heap_cell (H 25 _ rfl) rfl, heap_cell (H 26 _ rfl) rfl⟩
        · refine heap_cell hc ?_
          have hq : q < 4 := (List.getElem?_eq_some_iff.1 hv).1
          have hqq : q = 0 ∨ q = 1 ∨ q = 2 ∨ q = 3 := by omega
          rcases hqq with rfl | rfl | rfl | rfl <;> (injection hv with hv; subst hv; rfl)
    · have : (repT.getD 8 (0, [])).2.all Part.okB = true := by decide +kernel
      exact part_ok (List.all_eq_true.1 this p h)
  refine ⟨⟨b + 28, rfl, fun i k ps hi => ?_⟩, by decide⟩
  have hi2 : i < 9 := (List.getElem?_eq_some_iff.1 hi).1
  have hii : i = 0 ∨ i = 1 ∨ i = 2 ∨ i = 3 ∨ i = 4 ∨ i = 5 ∨ i = 6 ∨ i = 7 ∨ i = 8 := by omega
  rcases hii with rfl | rfl | rfl | rfl | rfl | rfl | rfl | rfl | rfl
  · injection hi with hi
    injection hi with h1 h2
    subst h1 h2
    refine ⟨(.slice (some ⟨b + 2, 0, none⟩) 1 1 : Value), fun q v hv => ?_, P0⟩
    refine heap_cell HK ?_
    have hq : q < 2 := (List.getElem?_eq_some_iff.1 hv).1
    have hqq : q = 0 ∨ q = 1 := by omega
    rcases hqq with rfl | rfl <;> (injection hv with hv; subst hv; rfl)
  · injection hi with hi
    injection hi with h1 h2
    subst h1 h2
    refine ⟨(.slice none 0 0 : Value), fun q v hv => ?_, P1⟩
    refine heap_cell HK ?_
    have hq : q < 2 := (List.getElem?_eq_some_iff.1 hv).1
    have hqq : q = 0 ∨ q = 1 := by omega
    rcases hqq with rfl | rfl <;> (injection hv with hv; subst hv; rfl)
  · injection hi with hi
    injection hi with h1 h2
    subst h1 h2
    refine ⟨(.slice (some ⟨b + 5, 0, none⟩) 1 1 : Value), fun q v hv => ?_, P2⟩
    refine heap_cell HK ?_
    have hq : q < 2 := (List.getElem?_eq_some_iff.1 hv).1
    have hqq : q = 0 ∨ q = 1 := by omega
    rcases hqq with rfl | rfl <;> (injection hv with hv; subst hv; rfl)
  · injection hi with hi
    injection hi with h1 h2
    subst h1 h2
    refine ⟨(.slice (some ⟨b + 10, 0, none⟩) 2 2 : Value), fun q v hv => ?_, P3⟩
    refine heap_cell HK ?_
    have hq : q < 2 := (List.getElem?_eq_some_iff.1 hv).1
    have hqq : q = 0 ∨ q = 1 := by omega
    rcases hqq with rfl | rfl <;> (injection hv with hv; subst hv; rfl)
  · injection hi with hi
    injection hi with h1 h2
    subst h1 h2
    refine ⟨(.slice (some ⟨b + 15, 0, none⟩) 2 2 : Value), fun q v hv => ?_, P4⟩
    refine heap_cell HK ?_
    have hq : q < 2 := (List.getElem?_eq_some_iff.1 hv).1
    have hqq : q = 0 ∨ q = 1 := by omega
    rcases hqq with rfl | rfl <;> (injection hv with hv; subst hv; rfl)
  · injection hi with hi
    injection hi with h1 h2
    subst h1 h2
    refine ⟨(.slice (some ⟨b + 18, 0, none⟩) 1 1 : Value), fun q v hv => ?_, P5⟩
    refine heap_cell HK ?_
    have hq : q < 2 := (List.getElem?_eq_some_iff.1 hv).1
    have hqq : q = 0 ∨ q = 1 := by omega
    rcases hqq with rfl | rfl <;> (injection hv with hv; subst hv; rfl)
  · injection hi with hi
    injection hi with h1 h2
    subst h1 h2
    refine ⟨(.slice (some ⟨b + 21, 0, none⟩) 1 1 : Value), fun q v hv => ?_, P6⟩
    refine heap_cell HK ?_
    have hq : q < 2 := (List.getElem?_eq_some_iff.1 hv).1
    have hqq : q = 0 ∨ q = 1 := by omega
    rcases hqq with rfl | rfl <;> (injection hv with hv; subst hv; rfl)
  · injection hi with hi
    injection hi with h1 h2
    subst h1 h2
    refine ⟨(.slice (some ⟨b + 24, 0, none⟩) 1 1 : Value), fun q v hv => ?_, P7⟩
    refine heap_cell HK ?_
    have hq : q < 2 := (List.getElem?_eq_some_iff.1 hv).1
    have hqq : q = 0 ∨ q = 1 := by omega
    rcases hqq with rfl | rfl <;> (injection hv with hv; subst hv; rfl)
  · injection hi with hi
    injection hi with h1 h2
    subst h1 h2
    refine ⟨(.slice (some ⟨b + 27, 0, none⟩) 1 1 : Value), fun q v hv => ?_, P8⟩
    refine heap_cell HK ?_
    have hq : q < 2 := (List.getElem?_eq_some_iff.1 hv).1
    have hqq : q = 0 ∨ q = 1 := by omega
    rcases hqq with rfl | rfl <;> (injection hv with hv; subst hv; rfl)
theorem replyKinds_any (W : World) : Calls Try.prog 25 #[] W fun e w' => ∃ b, e = .returned (tabRep b) ∧ TabAt w' (tabRep b) repT ∧ Up W w' := by
  refine (replyKinds_run W).mono ?_
  rintro e w' ⟨rfl, rfl⟩
  exact ⟨_, rfl, tabRep_at W, allocs_up _ W⟩
end Go.Proofs.Ytnengokobkehfaa
