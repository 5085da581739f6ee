/- Sched: arrays; acts; nobody has two turns at one time. -/
import Derived.Test.YtakciepfckdpfaaScO
namespace Go.Proofs.Ytakciepfckdpfaa
open Go.RowKit
set_option linter.unusedVariables false
set_option linter.unusedSimpArgs false
variable {w w' W : World} {K K' : Nat → Prop} {sb ob k n m b : Nat} {S : Sd} {T : TypeId} {g g' : Nat → Value} {on : Nat → Int}
/-- an array -/
structure Av (w : World) (b : Nat) (T : TypeId) (m : Nat) (g : Nat → Value) : Prop where
  row : ∃ cs, w.heap[b]? = some (.cells cs T (0, 0)) ∧ cs.size = m ∧ ∀ j, j < m → cs[j]? = some (g j)
theorem Av.lt (h : Av w b T m g) : b < w.heap.size := by
  obtain ⟨cs, h1, _⟩ := h.row
  exact heap_at h1
theorem Av.cell (h : Av w b T m g) {j : Nat} (hj : j < m) : w.cell? ⟨b, j, none⟩ = some (g j) := by
  obtain ⟨cs, h1, h2, h3⟩ := h.row
  exact heap_cell h1 (h3 j hj)
theorem Av.fz (h : Av w b T m g) (j : Nat) : w.frozen? ⟨b, j, none⟩ = false := by
  obtain ⟨cs, h1, _⟩ := h.row
  exact heap_fz h1
theorem Av.of_block (h : Av w b T m g) (e : w'.heap[b]? = w.heap[b]?) : Av w' b T m g := by
  obtain ⟨cs, h1, h2⟩ := h.row
  exact ⟨cs, e.trans h1, h2⟩
theorem Av.up (h : Av w b T m g) (u : Up w w') : Av w' b T m g := h.of_block (u.block b h.lt)
theorem Av.congr (h : Av w b T m g) (e : ∀ j, j < m → g j = g' j) : Av w b T m g' := by
  obtain ⟨cs, h1, h2, h3⟩ := h.row
  exact ⟨cs, h1, h2, fun j hj => by rw [← e j hj]; exact h3 j hj⟩
theorem Av.set (h : Av w b T m g) (i : Nat) (v : Value) : Av (w.setCell ⟨b, i, none⟩ v) b T m (fun j => if j = i then v else g j) := by
  obtain ⟨cs, h1, h2, h3⟩ := h.row
  refine ⟨_, heap_setCell_same w b i _ _ v h1, by simp [h2], fun j hj => ?_⟩
  rw [Array.getElem?_setIfInBounds]
  by_cases e : j = i
  · subst e
    rw [if_pos rfl, if_pos (by omega), if_pos rfl]
  · rw [if_neg (fun e' => e e'.symm), if_neg e]
    exact h3 j hj
/-- acts as they come in -/
structure Act2s (W : World) (aa : Option Addr) (ab ao len cap : Nat) (f : Nat → Nat → Int) : Prop where
  lc : len ≤ cap
  cm : cap ≤ maxLen
  ad : 0 < len → aa = some ⟨ab, ao, none⟩
  i64 : ∀ k j, I64 (f k j)
  cell : ∀ k, k < len → ∀ j, j < 2 → W.cell? ⟨ab, ao + k * 2 + j, none⟩ = some (.int .i64 (f k j))
theorem Act2s.range {aa : Option Addr} {ab ao len cap : Nat} {f : Nat → Nat → Int} (h : Act2s W aa ab ao len cap f) (u : Up W w) {k : Nat} (hk : k < len) : w.rangeAt ab (ao + k * 2) [.int .i64 (f k 0), .int .i64 (f k 1)] :=
  range2 (cell_up u (h.cell k hk 0 (by decide))) (cell_up u (h.cell k hk 1 (by decide)))
/-- what holds between turns and the law's own list -/
structure Oi (k n : Nat) (S : Sd) (on : Nat → Int) : Prop where
  len : S.slo.length = k
  slot : ∀ j t, S.slo[j]? = some t → (on j = if t.rd then t.id else -1) ∧ (t.rd = true → 0 ≤ t.id)
  lo : ∀ m ∈ S.rnd, 0 ≤ m.id ∧ m.id < (n : Int)
  all : ∀ x : Int, 0 ≤ x → x < (n : Int) → ∃ m ∈ S.rnd, m.id = x
theorem Oi.start {k n : Nat} : Oi k n ⟨allR n, offs k⟩ (fun _ => -1) := by
  refine ⟨offs_len k, fun j t h => ?_, fun m hm => ?_, fun x h0 h1 => ⟨⟨x, true⟩, ?_, rfl⟩⟩
  · have := List.mem_of_getElem? h
    rw [List.eq_of_mem_replicate this]
    exact ⟨rfl, fun h => by cases h⟩
  · obtain ⟨j, hj, rfl⟩ := List.mem_map.1 hm
    have := List.mem_range.1 hj
    simp
    omega
  · exact List.mem_map.2 ⟨x.toNat, List.mem_range.2 (by omega), by rw [Int.toNat_of_nonneg h0]⟩
theorem mem_turn {l : List Mem} {p : Nat} {x m : Mem} (h : l[p]? = some x) : m ∈ l.eraseIdx p ++ [x] ↔ m ∈ l := by
  obtain ⟨hp, rfl⟩ := List.getElem?_eq_some_iff.1 h
  have e : l = l.take p ++ l[p] :: l.drop (p + 1) := by rw [← List.drop_eq_getElem_cons hp, List.take_append_drop]
  rw [List.eraseIdx_eq_take_drop_succ]
  constructor
  · intro hm
    rw [e]
    simp only [List.mem_append, List.mem_cons, List.mem_singleton, List.not_mem_nil, or_false] at hm ⊢
    rcases hm with (h1 | h1) | h1
    · exact Or.inl h1
    · exact Or.inr (Or.inr h1)
    · exact Or.inr (Or.inl h1)
  · intro hm
    rw [e] at hm
    simp only [List.mem_append, List.mem_cons, List.mem_singleton, List.not_mem_nil, or_false] at hm ⊢
    rcases hm with h1 | h1 | h1
    · exact Or.inl (Or.inl h1)
    · exact Or.inr h1
    · exact Or.inl (Or.inr h1)
theorem Sd.begE_zero {s : Nat} (h : S.begE (s : Int) = 0) : ∃ t x, S.slo[s]? = some t ∧ t.rd = false ∧ S.rnd[S.next]? = some x ∧ S.nextM = x ∧ S.busy x.id = false := by
  unfold Sd.begE at h
  cases hs : S.slot (s : Int) with
  | none => rw [hs] at h; cases h
  | some t =>
    rw [hs] at h
    have h : (if t.rd = true then (131 : Int) else if S.next < S.rnd.length then 0 else 134) = 0 := h
    obtain ⟨_, j, hj, ht⟩ := Sd.slot_some hs
    have : s = j := by omega
    subst this
    by_cases hr : t.rd = true
    · rw [if_pos hr] at h
      cases h
    · rw [if_neg hr] at h
      by_cases hn : S.next < S.rnd.length
      · refine ⟨t, S.rnd[S.next], ht, by simpa using hr, List.getElem?_eq_getElem hn, ?_, ?_⟩
        · unfold Sd.nextM
          rw [List.getD_eq_getElem?_getD, List.getElem?_eq_getElem hn]
          rfl
        · have := List.findIdx_getElem (xs := S.rnd) (p := fun m : Mem => m.rd && !S.busy m.id) (w := hn)
          simp only [Bool.and_eq_true, Bool.not_eq_true'] at this
          exact this.2
      · rw [if_neg hn] at h
        cases h
theorem Oi.begin {s : Nat} (h : Oi k n S on) (h0 : S.begE (s : Int) = 0) : (0 ≤ S.begN (s : Int) ∧ S.begN (s : Int) < (n : Int)) ∧ on s = -1 ∧ (∀ j, j < k → on j ≠ S.begN (s : Int)) ∧ Oi k n (S.begin (s : Int)) (fun j => if j = s then S.begN (s : Int) else on j) := by
  obtain ⟨t, x, h1, h2, h3, h4, h5⟩ := Sd.begE_zero h0
  have eN : S.begN (s : Int) = x.id := by
    unfold Sd.begN
    rw [if_pos h0, h4]
  have eB : S.begin (s : Int) = ⟨S.rnd.eraseIdx S.next ++ [x], S.slo.set s ⟨x.id, true⟩⟩ := by
    unfold Sd.begin
    rw [if_pos h0, h4, Int.toNat_natCast]
  have hx := h.lo x (List.mem_of_getElem? h3)
  rw [eN, eB]
  have hon : on s = -1 := by
    have := (h.slot s t h1).1
    rw [h2] at this
    exact this
  refine ⟨hx, hon, fun j hj e => ?_, ?_, fun j t' ht' => ?_, fun m hm => h.lo m ((mem_turn h3).1 hm), fun y h0 h1 => ?_⟩
  · obtain ⟨t', ht'⟩ : ∃ t', S.slo[j]? = some t' := ⟨_, List.getElem?_eq_getElem (by rw [h.len]; exact hj)⟩
    have := (h.slot j t' ht').1
    cases hr : t'.rd with
    | false =>
      rw [hr] at this
      have : on j = -1 := this
      omega
    | true =>
      rw [hr] at this
      have this : on j = t'.id := this
      have hb : S.busy x.id = true := by
        unfold Sd.busy
        rw [List.any_eq_true]
        exact ⟨t', List.mem_of_getElem? ht', by simp [hr, ← this, e]⟩
      rw [h5] at hb
      cases hb
  · show (S.slo.set s _).length = k
    rw [List.length_set, h.len]
  · have ht' : (S.slo.set s ⟨x.id, true⟩)[j]? = some t' := ht'
    rw [List.getElem?_set] at ht'
    by_cases e : s = j
    · subst e
      rw [if_pos rfl, if_pos (List.getElem?_eq_some_iff.1 h1).1] at ht'
      injection ht' with ht'
      subst ht'
      simp
      exact hx.1
    · rw [if_neg e] at ht'
      have := h.slot j t' ht'
      rw [if_neg (fun e' => e e'.symm)]
      exact this
  · obtain ⟨m, hm, e⟩ := h.all y h0 h1
    exact ⟨m, (mem_turn h3).2 hm, e⟩
theorem Oi.begin_no {s : Nat} (h0 : S.begE (s : Int) ≠ 0) : S.begin (s : Int) = S := if_neg h0
theorem Oi.done {s : Nat} (h : Oi k n S on) (hs : s < k) : ((S.endE (s : Int) = 0 ∧ 0 ≤ on s ∧ S.endN (s : Int) = on s) ∨ (S.endE (s : Int) = 131 ∧ on s = -1)) ∧ Oi k n (S.done (s : Int)) (fun j => if j = s then -1 else on j) := by
  obtain ⟨t, ht⟩ : ∃ t, S.slo[s]? = some t := ⟨_, List.getElem?_eq_getElem (by rw [h.len]; exact hs)⟩
  have hq := h.slot s t ht
  cases hr : t.rd with
  | true =>
    rw [hr] at hq
    have e1 : S.endE (s : Int) = 0 := by
      unfold Sd.endE
      rw [slot_nat ht]
      show (if t.rd = true then _ else _) = _
      rw [if_pos hr]
    have e2 : S.endN (s : Int) = t.id := by
      unfold Sd.endN
      rw [if_pos e1, Int.toNat_natCast, List.getD_eq_getElem?_getD, ht]
      rfl
    have e3 : S.done (s : Int) = { S with slo := S.slo.set s ⟨0, false⟩ } := by
      unfold Sd.done
      rw [if_pos e1, Int.toNat_natCast]
    have hq1 : on s = t.id := hq.1
    refine ⟨Or.inl ⟨e1, by rw [hq1]; exact hq.2 rfl, by rw [e2, hq1]⟩, ?_⟩
    rw [e3]
    refine ⟨by show (S.slo.set s _).length = k; rw [List.length_set, h.len], fun j t' ht' => ?_, h.lo, h.all⟩
    have ht' : (S.slo.set s ⟨0, false⟩)[j]? = some t' := ht'
    rw [List.getElem?_set] at ht'
    by_cases e : s = j
    · subst e
      rw [if_pos rfl, if_pos (List.getElem?_eq_some_iff.1 ht).1] at ht'
      injection ht' with ht'
      subst ht'
      simp
    · rw [if_neg e] at ht'
      have := h.slot j t' ht'
      rw [if_neg (fun e' => e e'.symm)]
      exact this
  | false =>
    rw [hr] at hq
    have e1 : S.endE (s : Int) = 131 := by
      unfold Sd.endE
      rw [slot_nat ht]
      show (if t.rd = true then _ else _) = _
      rw [if_neg (by rw [hr]; decide)]
    have e3 : S.done (s : Int) = S := if_neg (by rw [e1]; decide)
    have hq1 : on s = -1 := hq.1
    refine ⟨Or.inr ⟨e1, hq1⟩, ?_⟩
    rw [e3]
    refine ⟨h.len, fun j t' ht' => ?_, h.lo, h.all⟩
    have := h.slot j t' ht'
    by_cases e : j = s
    · rw [if_pos e]
      subst e
      rw [hq1] at this
      exact this
    · rw [if_neg e]
      exact this
theorem Oi.ready {id : Int} {c : Bool} (h : Oi k n S on) (h0 : 0 ≤ id) (h1 : id < (n : Int)) : S.remE id = 0 ∧ Oi k n (S.ready id c) on := by
  obtain ⟨m, hm, he⟩ := h.all id h0 h1
  have hat : S.at id < S.rnd.length := by
    unfold Sd.at
    rw [List.findIdx_lt_length]
    exact ⟨m, hm, by simp [he]⟩
  have e1 : S.remE id = 0 := if_pos hat
  refine ⟨e1, ?_⟩
  have e2 : S.ready id c = { S with rnd := S.rnd.set (S.at id) ⟨id, c⟩ } := if_pos e1
  rw [e2]
  obtain ⟨x, hx, hxi⟩ := find_at (l := S.rnd) (id := id) hat
  refine ⟨h.len, h.slot, fun m hm => ?_, fun y hy0 hy1 => ?_⟩
  · rcases List.mem_or_eq_of_mem_set hm with h2 | h2
    · exact h.lo m h2
    · subst h2
      exact ⟨h0, h1⟩
  · by_cases e : y = id
    · subst e
      refine ⟨⟨y, c⟩, ?_, rfl⟩
      exact List.mem_iff_getElem?.2 ⟨S.at y, by show (S.rnd.set _ _)[_]? = _; rw [List.getElem?_set, if_pos rfl, if_pos hat]⟩
    · obtain ⟨m2, hm2, he2⟩ := h.all y hy0 hy1
      obtain ⟨j, hj⟩ := List.mem_iff_getElem?.1 hm2
      refine ⟨m2, List.mem_iff_getElem?.2 ⟨j, ?_⟩, he2⟩
      show (S.rnd.set _ _)[j]? = _
      rw [List.getElem?_set]
      by_cases ej : S.at id = j
      · have hx2 : S.rnd[S.at id]? = some x := hx
        rw [ej, hj] at hx2
        injection hx2 with hx2
        rw [← hx2, he2] at hxi
        exact absurd hxi e
      · rw [if_neg ej]
        exact hj
end Go.Proofs.Ytakciepfckdpfaa
