/- Sched: who is ready is not made to wait, plainly. -/
import Derived.Test.YtakciepfckdpfaaScP
namespace Go.Proofs.Ytakciepfckdpfaa
open Go.RowKit
set_option linter.unusedVariables false
set_option linter.unusedSimpArgs false
/-- is a number ready behind so many acts? -/
def rdF (kd td : Nat → Nat) (me : Nat) : Nat → Int → Bool
  | 0, _ => true
  | i + 1, x => if 6 ≤ kd i ∧ (td i : Int) = x ∧ td i ≠ me then decide (kd i = 6) else rdF kd td me i x
theorem rdF_me (kd td : Nat → Nat) (me : Nat) : ∀ i, rdF kd td me i (me : Int) = true
  | 0 => rfl
  | i + 1 => by
    unfold rdF
    rw [if_neg (by omega)]
    exact rdF_me kd td me i
theorem split_turn {mm : Mem} {B : List Mem} (hr : mm.rd = true) : ∀ A : List Mem,
    (∃ A1 x A2, A = A1 ++ x :: A2 ∧ (A ++ mm :: B).findIdx (fun m => m.rd) = A1.length ∧ (A ++ mm :: B)[A1.length]? = some x ∧ (A ++ mm :: B).eraseIdx A1.length ++ [x] = (A1 ++ A2) ++ mm :: (B ++ [x])) ∨
    ((∀ m ∈ A, m.rd = false) ∧ (A ++ mm :: B).findIdx (fun m => m.rd) = A.length ∧ (A ++ mm :: B)[A.length]? = some mm ∧ (A ++ mm :: B).eraseIdx A.length ++ [mm] = (A ++ B) ++ mm :: [])
  | [] => Or.inr ⟨fun m hm => (by cases hm), by simp [List.findIdx_cons, hr], rfl, rfl⟩
  | a :: A => by
    cases ha : a.rd with
    | true => exact Or.inl ⟨[], a, A, rfl, by simp [List.findIdx_cons, ha], rfl, by simp⟩
    | false =>
      rcases split_turn hr A with ⟨A1, x, A2, h1, h2, h3, h4⟩ | ⟨h1, h2, h3, h4⟩
      · refine Or.inl ⟨a :: A1, x, A2, by rw [h1]; rfl, ?_, ?_, ?_⟩
        · show (a :: (A ++ mm :: B)).findIdx _ = _
          rw [List.findIdx_cons, ha, h2]
          rfl
        · exact h3
        · show a :: ((A ++ mm :: B).eraseIdx A1.length ++ [x]) = _
          rw [h4]
          rfl
      · refine Or.inr ⟨fun m hm => ?_, ?_, h3, ?_⟩
        · rcases List.mem_cons.1 hm with rfl | hm
          · exact ha
          · exact h1 m hm
        · show (a :: (A ++ mm :: B)).findIdx _ = _
          rw [List.findIdx_cons, ha, h2]
          rfl
        · show a :: ((A ++ mm :: B).eraseIdx A.length ++ [mm]) = _
          rw [h4]
          rfl
/-- the round, the law's own counts -/
structure Fi (n : Nat) (me : Int) (rd : Int → Bool) (l : List Mem) (T : Int → Int) (st : Int → Bool) (q : Nat) (mine : Bool) : Prop where
  len : l.length = n
  nd : (l.map Mem.id).Nodup
  lo : ∀ x ∈ l.map Mem.id, 0 ≤ x ∧ x < (n : Int)
  all : ∀ x : Int, 0 ≤ x → x < (n : Int) → x ∈ l.map Mem.id
  rdy : ∀ m ∈ l, m.rd = rd m.id
  rme : rd me = true
  pos : ∃ A mm B, l = A ++ mm :: B ∧ mm.id = me ∧ q + A.length + 1 ≤ n ∧ (mine = true → (∀ x ∈ A.map Mem.id, T x = 0) ∧ ∀ x ∈ B.map Mem.id, T x = 1)
  tb : ∀ x : Int, 0 ≤ x → x < (n : Int) → 0 ≤ T x ∧ T x ≤ (q : Int)
  ste : ∀ x : Int, 0 ≤ x → x < (n : Int) → st x = true → rd x = true
variable {n q : Nat} {me : Int} {rd rd' : Int → Bool} {l : List Mem} {T : Int → Int} {st : Int → Bool} {mine : Bool}
theorem ids_allR (n : Nat) : (allR n).map Mem.id = (List.range n).map (fun (j : Nat) => (j : Int)) := by
  unfold allR
  rw [List.map_map]
  rfl
theorem Fi.start {n me : Nat} {rd : Int → Bool} (h : me < n) (hr : ∀ x, rd x = true) : Fi n (me : Int) rd (allR n) (fun _ => 0) (fun _ => true) 0 false := by
  refine ⟨allR_len n, ?_, ?_, ?_, ?_, hr _, ?_, fun x _ _ => ⟨Int.le_refl _, Int.le_refl _⟩, fun x _ _ _ => hr x⟩
  · rw [ids_allR]
    refine List.Pairwise.map _ (fun a b hab => ?_) List.nodup_range
    omega
  · intro x hx
    rw [ids_allR] at hx
    obtain ⟨j, hj, rfl⟩ := List.mem_map.1 hx
    have := List.mem_range.1 hj
    omega
  · intro x h0 h1
    rw [ids_allR]
    exact List.mem_map.2 ⟨x.toNat, List.mem_range.2 (by omega), by omega⟩
  · intro m hm
    obtain ⟨j, hj, rfl⟩ := List.mem_map.1 hm
    rw [hr]
  · have hx : (allR n)[me]? = some ⟨(me : Int), true⟩ := by
      unfold allR
      rw [List.getElem?_map, List.getElem?_range h]
      rfl
    obtain ⟨hl, he⟩ := List.getElem?_eq_some_iff.1 hx
    refine ⟨(allR n).take me, ⟨(me : Int), true⟩, (allR n).drop (me + 1), ?_, rfl, ?_, fun h => by cases h⟩
    · rw [← he, ← List.drop_eq_getElem_cons hl, List.take_append_drop]
    · rw [List.length_take, allR_len]
      omega
theorem perm_turn {p : Nat} {x : Mem} (h : l[p]? = some x) : (l.eraseIdx p ++ [x]).Perm l := by
  obtain ⟨hp, rfl⟩ := List.getElem?_eq_some_iff.1 h
  have e : l = l.take p ++ l[p] :: l.drop (p + 1) := by rw [← List.drop_eq_getElem_cons hp, List.take_append_drop]
  rw [List.eraseIdx_eq_take_drop_succ]
  refine (List.perm_append_singleton _ _).trans ?_
  have h2 := (List.perm_middle (a := l[p]) (l₁ := l.take p) (l₂ := l.drop (p + 1))).symm
  rw [← e] at h2
  exact h2
/-- a turn that is another's -/
theorem Fi.turn (h : Fi n me rd l T st q mine) : ∃ p x, l.findIdx (fun m => m.rd) = p ∧ l[p]? = some x ∧ 0 ≤ x.id ∧ x.id < (n : Int) ∧
    ((x.id ≠ me ∧ q + 1 < n ∧ (q : Int) + 1 < (n : Int) ∧ Fi n me rd (l.eraseIdx p ++ [x]) (fun y => if y = x.id then T x.id + 1 else T y) st (q + 1) mine) ∨
     (x.id = me ∧ (∀ y : Int, 0 ≤ y → y < (n : Int) → y ≠ me → mine = true → st y = true → T y = 1) ∧ (l.eraseIdx p ++ [x]).map Mem.id = (l.eraseIdx p).map Mem.id ++ [me] ∧ ∀ T' st', (∀ y : Int, 0 ≤ y → y < (n : Int) → T' y = 0) → (∀ y : Int, 0 ≤ y → y < (n : Int) → st' y = rd y) → Fi n me rd (l.eraseIdx p ++ [x]) T' st' 0 true)) := by
  obtain ⟨A, mm, B, hl, hme, hq, hT⟩ := h.pos
  have hmr : mm.rd = true := by
    rw [h.rdy mm (by rw [hl]; simp), hme]
    exact h.rme
  have hlen := h.len
  rw [hl, List.length_append, List.length_cons] at hlen
  rcases split_turn (B := B) hmr A with ⟨A1, x, A2, h1, h2, h3, h4⟩ | ⟨h1, h2, h3, h4⟩
  · rw [← hl] at h2 h3 h4
    have hp := perm_turn h3
    have hxl : x ∈ l := List.mem_of_getElem? h3
    have hxi := h.lo x.id (List.mem_map_of_mem hxl)
    have hnd := h.nd
    rw [hl, h1] at hnd
    simp only [List.map_append, List.map_cons] at hnd
    have hAl : A.length = A1.length + (A2.length + 1) := by rw [h1]; simp
    have hne : x.id ≠ me := by
      rw [List.append_assoc] at hnd
      have := (List.nodup_append.1 hnd).2.1
      simp only [List.cons_append, List.nodup_cons, List.mem_append, List.mem_cons] at this
      intro e
      exact this.1 (Or.inr (Or.inl (e.trans hme.symm)))
    refine ⟨A1.length, x, h2, h3, hxi.1, hxi.2, Or.inl ⟨hne, by omega, by omega, ?_⟩⟩
    refine ⟨by rw [hp.length_eq, h.len], (hp.map Mem.id).nodup_iff.2 h.nd, fun y hy => h.lo y ((hp.map Mem.id).mem_iff.1 hy), fun y h0 h1 => (hp.map Mem.id).mem_iff.2 (h.all y h0 h1), fun m hm => h.rdy m (hp.mem_iff.1 hm), h.rme, ⟨A1 ++ A2, mm, B ++ [x], h4, hme, by rw [List.length_append]; omega, fun hm => ?_⟩, fun y h0 h1 => ?_, h.ste⟩
    · have ⟨t1, t2⟩ := hT hm
      -- the numbers of the others are not x's
      have hxA : ∀ y, y ∈ A1.map Mem.id ∨ y ∈ A2.map Mem.id → y ≠ x.id := fun y hy e => by
        subst e
        rw [List.append_assoc] at hnd
        rcases hy with hy | hy
        · have := (List.nodup_append.1 hnd).2.2 _ hy x.id (by simp)
          exact this rfl
        · have := (List.nodup_append.1 hnd).2.1
          simp only [List.cons_append, List.nodup_cons, List.mem_append, List.mem_cons] at this
          exact this.1 (Or.inl hy)
      have hxB : x.id ∉ B.map Mem.id := fun hy => by
        rw [List.append_assoc] at hnd
        have := (List.nodup_append.1 hnd).2.1
        simp only [List.cons_append, List.nodup_cons, List.mem_append, List.mem_cons] at this
        exact this.1 (Or.inr (Or.inr hy))
      refine ⟨fun y hy => ?_, fun y hy => ?_⟩
      · rw [List.map_append, List.mem_append] at hy
        rw [if_neg (hxA y hy)]
        refine t1 y ?_
        rw [h1, List.map_append, List.map_cons, List.mem_append, List.mem_cons]
        rcases hy with hy | hy
        · exact Or.inl hy
        · exact Or.inr (Or.inr hy)
      · rw [List.map_append, List.mem_append] at hy
        rcases hy with hy | hy
        · rw [if_neg (fun e : y = x.id => hxB (e ▸ hy))]
          exact t2 y hy
        · simp at hy
          rw [if_pos hy, t1 x.id (by rw [h1]; simp)]
          rfl
    · have := h.tb y h0 h1
      by_cases e : y = x.id
      · rw [if_pos e, ← e]
        omega
      · rw [if_neg e]
        omega
  · rw [← hl] at h2 h3 h4
    have hp := perm_turn h3
    refine ⟨A.length, mm, h2, h3, ?_, ?_, Or.inr ⟨hme, fun y h0 h9 hy hm hs => ?_, by rw [List.map_append, List.map_cons, hme]; rfl, fun T' st' ht hst => ?_⟩⟩
    · exact (h.lo mm.id (List.mem_map_of_mem (List.mem_of_getElem? h3))).1
    · exact (h.lo mm.id (List.mem_map_of_mem (List.mem_of_getElem? h3))).2
    · have hr := h.ste y h0 h9 hs
      have hin := h.all y h0 h9
      rw [hl, List.map_append, List.map_cons, List.mem_append, List.mem_cons] at hin
      rcases hin with hin | hin | hin
      · obtain ⟨m, hmA, rfl⟩ := List.mem_map.1 hin
        have e1 := h1 m hmA
        have e2 := h.rdy m (by rw [hl]; simp [hmA])
        rw [e1, hr] at e2
        cases e2
      · exact absurd (hin.trans hme) hy
      · exact (hT hm).2 y hin
    · refine ⟨by rw [hp.length_eq, h.len], (hp.map Mem.id).nodup_iff.2 h.nd, fun y hy => h.lo y ((hp.map Mem.id).mem_iff.1 hy), fun y h0 h1 => (hp.map Mem.id).mem_iff.2 (h.all y h0 h1), fun m hm => h.rdy m (hp.mem_iff.1 hm), h.rme, ⟨A ++ B, mm, [], h4, hme, by rw [List.length_append]; omega, fun hm => ⟨fun y hy => ?_, fun y hy => by cases hy⟩⟩, fun y h0 h1 => ?_, fun y h0 h1 hs => by rw [hst y h0 h1] at hs; exact hs⟩
      · have hin : y ∈ l.map Mem.id := by
          rw [hl, List.map_append, List.map_cons, List.mem_append, List.mem_cons]
          rw [List.map_append, List.mem_append] at hy
          rcases hy with hy | hy
          · exact Or.inl hy
          · exact Or.inr (Or.inr hy)
        have := h.lo y hin
        exact ht y this.1 this.2
      · rw [ht y h0 h1]
        omega
/-- one is made ready, or not -/
theorem Fi.set {k : Nat} {id : Int} {b : Bool} (h : Fi n me rd l T st q mine) (hid : id ≠ me) (hr : rd' id = b) (hr2 : ∀ x, x ≠ id → rd' x = rd x) :
    ∃ l', ((⟨l, offs k⟩ : Sd).ready id b) = ⟨l', offs k⟩ ∧ Fi n me rd' l' T (fun y => if y = id then (st id && b) else st y) q mine := by
  have hst : ∀ x : Int, 0 ≤ x → x < (n : Int) → (if x = id then (st id && b) else st x) = true → rd' x = true := fun x h0 h1 hx => by
    by_cases e : x = id
    · rw [if_pos e] at hx
      rw [e, hr]
      cases b
      · simp at hx
      · rfl
    · rw [if_neg e] at hx
      rw [hr2 x e]
      exact h.ste x h0 h1 hx
  by_cases hat : (⟨l, offs k⟩ : Sd).at id < l.length
  · have e1 : (⟨l, offs k⟩ : Sd).remE id = 0 := if_pos hat
    obtain ⟨x, hx, hxi⟩ := find_at (l := l) (id := id) hat
    have hx : l[(⟨l, offs k⟩ : Sd).at id]? = some x := hx
    refine ⟨l.set ((⟨l, offs k⟩ : Sd).at id) ⟨id, b⟩, if_pos e1, ?_⟩
    generalize (⟨l, offs k⟩ : Sd).at id = p at *
    clear e1
    have hids : (l.set p ⟨id, b⟩).map Mem.id = l.map Mem.id := by
      rw [List.map_set]
      refine List.ext_getElem? fun j => ?_
      rw [List.getElem?_set]
      by_cases e : p = j
      · subst e
        rw [if_pos rfl, if_pos (by simpa using hat), List.getElem?_map, hx]
        simp [hxi]
      · rw [if_neg e]
    refine ⟨by rw [List.length_set, h.len], by rw [hids]; exact h.nd, by rw [hids]; exact h.lo, by rw [hids]; exact h.all, fun m hm => ?_, by rw [hr2 me (fun e => hid e.symm)]; exact h.rme, ?_, h.tb, hst⟩
    · obtain ⟨j, hj⟩ := List.mem_iff_getElem?.1 hm
      rw [List.getElem?_set] at hj
      by_cases e : p = j
      · subst e
        rw [if_pos rfl, if_pos hat] at hj
        injection hj with hj
        subst hj
        exact hr.symm
      · rw [if_neg e] at hj
        have hne : m.id ≠ id := fun e2 => by
          have hnd := h.nd
          obtain ⟨j1, e3⟩ := List.getElem?_eq_some_iff.1 hj
          have h5 := List.pairwise_iff_getElem.1 hnd
          rcases Nat.lt_or_gt_of_ne e with e4 | e4
          · refine h5 p j (by simpa using hat) (by simpa using j1) e4 ?_
            rw [List.getElem_map, List.getElem_map, e3, e2]
            have := (List.getElem?_eq_some_iff.1 hx).2
            rw [this, hxi]
          · refine h5 j p (by simpa using j1) (by simpa using hat) e4 ?_
            rw [List.getElem_map, List.getElem_map, e3, e2]
            have := (List.getElem?_eq_some_iff.1 hx).2
            rw [this, hxi]
        rw [hr2 _ hne]
        exact h.rdy m (List.mem_of_getElem? hj)
    · obtain ⟨A, mm, B, hl, hme, hq, hT⟩ := h.pos
      by_cases hpA : p < A.length
      · refine ⟨A.set p ⟨id, b⟩, mm, B, by rw [hl, List.set_append_left _ _ hpA], hme, by rw [List.length_set]; exact hq, fun hm => ?_⟩
        have hidA : (A.set p ⟨id, b⟩).map Mem.id = A.map Mem.id := by
          have e9 := congrArg (List.take A.length) hids
          rw [hl, List.set_append_left _ _ hpA, List.map_append, List.map_append] at e9
          rw [List.take_left' (by simp), List.take_left' (by simp)] at e9
          exact e9
        rw [hidA]
        exact hT hm
      · have hpx : p ≠ A.length := fun e => by
          subst e
          rw [hl, List.getElem?_append_right (Nat.le_refl _), Nat.sub_self] at hx
          injection hx with hx
          subst hx
          exact hid (hxi.symm.trans hme)
        obtain ⟨r, hr⟩ : ∃ r, p - A.length = r + 1 := ⟨p - A.length - 1, by omega⟩
        refine ⟨A, mm, B.set r ⟨id, b⟩, by rw [hl, List.set_append_right _ _ (by omega), hr]; rfl, hme, hq, fun hm => ?_⟩
        have hidB : (B.set r ⟨id, b⟩).map Mem.id = B.map Mem.id := by
          have e9 := congrArg (List.drop (A.length + 1)) hids
          rw [hl, List.set_append_right _ _ (by omega), hr, List.set_cons_succ, List.map_append, List.map_append, List.map_cons, List.map_cons] at e9
          rw [List.drop_append, List.drop_append] at e9
          simpa using e9
        rw [hidB]
        exact hT hm
  · have e1 : (⟨l, offs k⟩ : Sd).remE id ≠ 0 := by
      unfold Sd.remE
      rw [if_neg hat]
      decide
    refine ⟨l, if_neg e1, h.len, h.nd, h.lo, h.all, fun m hm => ?_, by rw [hr2 me (fun e => hid e.symm)]; exact h.rme, h.pos, h.tb, hst⟩
    have hne : m.id ≠ id := fun e2 => hat (by
      unfold Sd.at
      show l.findIdx _ < _
      rw [List.findIdx_lt_length]
      exact ⟨m, hm, by simp [e2]⟩)
    rw [hr2 _ hne]
    exact h.rdy m hm
theorem Fi.same (h : Fi n me rd l T st q mine) (e : ∀ x, rd' x = rd x) : Fi n me rd' l T st q mine :=
  ⟨h.len, h.nd, h.lo, h.all, fun m hm => by rw [e]; exact h.rdy m hm, by rw [e]; exact h.rme, h.pos, h.tb, fun x h0 h1 hx => by rw [e]; exact h.ste x h0 h1 hx⟩
end Go.Proofs.Ytakciepfckdpfaa
