/- Sched: a sched beside two arrays. -/
import Derived.Test.YtakciepfckdpfaaScR
namespace Go.Proofs.Ytakciepfckdpfaa
open Go.RowKit
set_option linter.unusedVariables false
set_option linter.unusedSimpArgs false
variable {w w' W : World} {K : Nat → Prop} {sb tb yb k n q : Nat} {me : Int} {rd rd' : Int → Bool} {l : List Mem} {T : Int → Int} {st : Int → Bool} {mine : Bool}
theorem setI (T : Int → Int) (x : Int) (j i : Nat) : (if j = i then Value.int .i64 x else .int .i64 (T (j : Int))) = .int .i64 (if (j : Int) = (i : Int) then x else T (j : Int)) := by
  by_cases e : j = i
  · rw [if_pos e, if_pos (by omega)]
  · rw [if_neg e, if_neg (by omega)]
theorem setB (T : Int → Bool) (x : Bool) (j i : Nat) : (if j = i then Value.bool x else .bool (T (j : Int))) = .bool (if (j : Int) = (i : Int) then x else T (j : Int)) := by
  by_cases e : j = i
  · rw [if_pos e, if_pos (by omega)]
  · rw [if_neg e, if_neg (by omega)]
/-- a sched and two arrays of the law's own -/
structure Fa (W : World) (K : Nat → Prop) (sb tb yb k : Nat) (l : List Mem) (T : Int → Int) (st : Int → Bool) (w : World) : Prop where
  sx : Sx W K sb ⟨l, offs k⟩ w
  kt : K tb ∧ W.heap.size ≤ tb
  ky : K yb ∧ W.heap.size ≤ yb
  ne : tb ≠ yb
  ta : Av w tb 37 12 (fun j => .int .i64 (T (j : Int)))
  ya : Av w yb 38 12 (fun j => .bool (st (j : Int)))
theorem Fa.more (h : Fa W K sb tb yb k l T st w) (u : Up w w') : Fa W K sb tb yb k l T st w' := ⟨h.sx.more u, h.kt, h.ky, h.ne, h.ta.up u, h.ya.up u⟩
theorem Fa.next {l' : List Mem} (h : Fa W K sb tb yb k l T st w) (h2 : Sx W K sb ⟨l', offs k⟩ w') (f : FK K w w') : Fa W K sb tb yb k l' T st w' :=
  ⟨h2, h.kt, h.ky, h.ne, h.ta.of_block (f.block _ h.ta.lt h.kt.1), h.ya.of_block (f.block _ h.ya.lt h.ky.1)⟩
theorem Fa.setT (h : Fa W K sb tb yb k l T st w) (i : Nat) (x : Int) : Fa W K sb tb yb k l (fun y => if y = (i : Int) then x else T y) st (w.setCell ⟨tb, i, none⟩ (.int .i64 x)) :=
  ⟨h.sx.fr ((Fr.refl tb w).setCell) h.kt.1 h.kt.2, h.kt, h.ky, h.ne, (h.ta.set i (.int .i64 x)).congr (fun j hj => setI T x j i), h.ya.of_block (((Fr.refl tb w).setCell).block yb h.ya.lt (fun e => h.ne e.symm))⟩
theorem Fa.setY (h : Fa W K sb tb yb k l T st w) (i : Nat) (x : Bool) : Fa W K sb tb yb k l T (fun y => if y = (i : Int) then x else st y) (w.setCell ⟨yb, i, none⟩ (.bool x)) :=
  ⟨h.sx.fr ((Fr.refl yb w).setCell) h.ky.1 h.ky.2, h.kt, h.ky, h.ne, h.ta.of_block (((Fr.refl yb w).setCell).block tb h.ta.lt h.ne), (h.ya.set i (.bool x)).congr (fun j hj => setB st x j i)⟩
theorem Fa.cellT (h : Fa W K sb tb yb k l T st w) {j : Nat} (hj : j < 12) : w.cell? ⟨tb, j, none⟩ = some (.int .i64 (T (j : Int))) ∧ w.frozen? ⟨tb, j, none⟩ = false := ⟨h.ta.cell hj, h.ta.fz j⟩
theorem Fa.cellY (h : Fa W K sb tb yb k l T st w) {j : Nat} (hj : j < 12) : w.cell? ⟨yb, j, none⟩ = some (.bool (st (j : Int))) ∧ w.frozen? ⟨yb, j, none⟩ = false := ⟨h.ya.cell hj, h.ya.fz j⟩
/-- .. between two acts -/
structure Fc (W : World) (K : Nat → Prop) (sb tb yb k n : Nat) (me : Int) (rd : Int → Bool) (q : Nat) (mine : Bool) (l : List Mem) (T : Int → Int) (st : Int → Bool) (w : World) : Prop where
  fa : Fa W K sb tb yb k l T st w
  inv : Fi n me rd l T st q mine
/-- fewer blocks are kept -/
theorem SdAt.less {K' : Nat → Prop} {S : Sd} (h : SdAt K' w sb S) (hk : ∀ b, K b → K' b) : SdAt K w sb S := by
  obtain ⟨sg, sc, rv, h⟩ := h
  exact ⟨sg, sc, rv, fun b hb => h.kn b (hk b hb), fun b hb => h.kb b (hk b hb), h.blk, h.slo, h.row, h.a1, h.a2, h.a3, h.len⟩
theorem Fa.less {K' : Nat → Prop} (h : Fa W K' sb tb yb k l T st w) (hk : ∀ b, K b → K' b) (ho : ∀ b, b < W.heap.size → K b) (ht : K tb) (hy : K yb) : Fa W K sb tb yb k l T st w :=
  ⟨⟨h.sx.st.less hk, h.sx.up, ho⟩, ⟨ht, h.kt.2⟩, ⟨hy, h.ky.2⟩, h.ne, h.ta, h.ya⟩
/-- .. in the midst of one's own turn -/
structure Fm (W : World) (K : Nat → Prop) (sb tb yb k n : Nat) (me : Int) (rd : Int → Bool) (T : Int → Int) (st : Int → Bool) (w : World) : Prop where
  at' : ∃ l I, Fa W K sb tb yb k l T st w ∧ l.map Mem.id = I ++ [me] ∧ I.length + 1 = n ∧ ∀ T' st', (∀ y : Int, 0 ≤ y → y < (n : Int) → T' y = 0) → (∀ y : Int, 0 ≤ y → y < (n : Int) → st' y = rd y) → Fi n me rd l T' st' 0 true
theorem Fm.up (h : Fm W K sb tb yb k n me rd T st w) : Up W w := by
  obtain ⟨l, I, h1, _⟩ := h.at'
  exact h1.sx.up
theorem Fm.ne (h : Fm W K sb tb yb k n me rd T st w) : tb ≠ yb := by
  obtain ⟨l, I, h1, _⟩ := h.at'
  exact h1.ne
theorem Fm.setT (h : Fm W K sb tb yb k n me rd T st w) (i : Nat) (x : Int) : Fm W K sb tb yb k n me rd (fun y => if y = (i : Int) then x else T y) st (w.setCell ⟨tb, i, none⟩ (.int .i64 x)) := by
  obtain ⟨l, I, h1, h2⟩ := h.at'
  exact ⟨l, I, h1.setT i x, h2⟩
theorem Fm.setY (h : Fm W K sb tb yb k n me rd T st w) (i : Nat) (x : Bool) : Fm W K sb tb yb k n me rd T (fun y => if y = (i : Int) then x else st y) (w.setCell ⟨yb, i, none⟩ (.bool x)) := by
  obtain ⟨l, I, h1, h2⟩ := h.at'
  exact ⟨l, I, h1.setY i x, h2⟩
theorem Fm.cellT (h : Fm W K sb tb yb k n me rd T st w) {j : Nat} (hj : j < 12) : w.cell? ⟨tb, j, none⟩ = some (.int .i64 (T (j : Int))) ∧ w.frozen? ⟨tb, j, none⟩ = false := by
  obtain ⟨l, I, h1, h2⟩ := h.at'
  exact h1.cellT hj
theorem Fm.cellY (h : Fm W K sb tb yb k n me rd T st w) {j : Nat} (hj : j < 12) : w.cell? ⟨yb, j, none⟩ = some (.bool (st (j : Int))) ∧ w.frozen? ⟨yb, j, none⟩ = false := by
  obtain ⟨l, I, h1, h2⟩ := h.at'
  exact h1.cellY hj
theorem Fm.round (h : Fm W K sb tb yb k n me rd T st w) : Calls Try.prog 14 #[.pointer (some ⟨sb, 0, none⟩)] w fun e w' => ∃ g c m, n = m + 1 ∧ e = .returned (.slice (some ⟨g, 0, none⟩) n c) ∧ n ≤ c ∧ c ≤ 9223372036854775807 ∧ w'.cell? ⟨g, m, none⟩ = some (.int .i64 me) ∧ Fm W K sb tb yb k n me rd T st w' := by
  obtain ⟨l, I, h1, h2, h3, h4⟩ := h.at'
  refine (h1.sx.round).mono fun e w' ⟨v, q1, q2, q3⟩ => ?_
  have ho := q2.own
  have hl : ((⟨l, offs k⟩ : Sd).rnd.map Mem.id) = I ++ [me] := h2
  rw [hl] at ho
  have hL : (I ++ [me]).length = n := by rw [List.length_append]; exact h3
  rw [hL] at ho
  rcases own_cases ho with ⟨rfl, hn, _⟩ | ⟨g, cap, rfl, c1, c2, _⟩
  · omega
  · refine ⟨g, cap, I.length, h3.symm, q1, c1, by unfold maxLen at c2; omega, ?_, l, I, h1.more q2.up, h2, h3, h4⟩
    have := own_cell ho I.length (by omega)
    rw [Nat.zero_add] at this
    rw [this]
    refine nums_at ?_
    rw [List.getElem?_append_right (Nat.le_refl _), Nat.sub_self]
    rfl
theorem Fm.fin (h : Fm W K sb tb yb k n me rd T st w) (h1 : ∀ y : Int, 0 ≤ y → y < (n : Int) → T y = 0) (h2 : ∀ y : Int, 0 ≤ y → y < (n : Int) → st y = rd y) : ∃ l, Fc W K sb tb yb k n me rd 0 true l T st w := by
  obtain ⟨l, I, a1, a2, a3, a4⟩ := h.at'
  exact ⟨l, a1, a4 T st h1 h2⟩
theorem Fc.ready {id : Nat} {b : Bool} (h : Fc W K sb tb yb k n me rd q mine l T st w) (hid : (id : Int) ≠ me) (hr : rd' (id : Int) = b) (hr2 : ∀ x, x ≠ (id : Int) → rd' x = rd x) :
    Calls Try.prog 13 #[.pointer (some ⟨sb, 0, none⟩), .int .i64 (id : Int), .bool b] w fun e w' => (∃ z, e = .returned (.int .i64 z)) ∧ FK K w w' ∧ ∃ l', Fa W K sb tb yb k l' T st w' ∧ Fc W K sb tb yb k n me rd' q mine l' T (fun y => if y = (id : Int) then (st (id : Int) && b) else st y) (w'.setCell ⟨yb, id, none⟩ (.bool (st (id : Int) && b))) := by
  obtain ⟨l', e1, e2⟩ := h.inv.set (k := k) (id := (id : Int)) (b := b) hid hr hr2
  refine (h.fa.sx.ready (id := (id : Int)) (b := b)).mono fun e w' ⟨q1, q2, q3⟩ => ?_
  rw [e1] at q2
  have ha := h.fa.next q2 q3
  exact ⟨⟨_, q1⟩, q3, l', ha, ha.setY id _, e2⟩
theorem Fc.turn {s : Nat} (h : Fc W K sb tb yb k n me rd q mine l T st w) (hs : s < k) :
    Calls Try.prog 11 #[.pointer (some ⟨sb, 0, none⟩), .int .i64 (s : Int)] w fun e w1 => ∃ x : Nat, e = .returned (.tuple #[.int .i64 (x : Int), .int .i64 0]) ∧ x < n ∧ ∀ w2, w2 = w1 →
      Calls Try.prog 12 #[.pointer (some ⟨sb, 0, none⟩), .int .i64 (s : Int)] w2 fun e w3 => (∃ z, e = .returned (.tuple #[.int .i64 z, .int .i64 0])) ∧ (∃ l', Fa W K sb tb yb k l' T st w3) ∧ 0 ≤ T (x : Int) ∧ T (x : Int) ≤ (q : Int) ∧
        (((x : Int) ≠ me ∧ q + 1 < n ∧ ∃ l', Fc W K sb tb yb k n me rd (q + 1) mine l' (fun y => if y = (x : Int) then T (x : Int) + 1 else T y) st (w3.setCell ⟨tb, x, none⟩ (.int .i64 (T (x : Int) + 1)))) ∨
         ((x : Int) = me ∧ (∀ y : Int, 0 ≤ y → y < (n : Int) → y ≠ me → mine = true → st y = true → T y = 1) ∧ Fm W K sb tb yb k n me rd T st w3)) := by
  obtain ⟨p, x, e1, e2, x0, x1, e3⟩ := h.inv.turn
  have t := Sd.turn (k := k) hs e1 e2
  obtain ⟨xn, hx⟩ : ∃ xn : Nat, x.id = (xn : Int) := ⟨x.id.toNat, by omega⟩
  rw [hx] at t e3 x1
  refine (h.fa.sx.begin (s := (s : Int))).mono fun e w1 ⟨q1, q2, q3⟩ => ?_
  rw [t.1, t.2.1] at q1
  rw [t.2.2.1] at q2
  refine ⟨xn, q1, by omega, fun w2 e4 => ?_⟩
  subst e4
  refine (q2.done (s := (s : Int))).mono fun e w3 ⟨r1, r2, r3⟩ => ?_
  rw [t.2.2.2.1, t.2.2.2.2.1] at r1
  rw [t.2.2.2.2.2] at r2
  have ha := h.fa.next r2 (q3.trans r3)
  have htb := h.inv.tb (xn : Int) (by omega) x1
  refine ⟨⟨_, r1⟩, ⟨_, ha⟩, htb.1, htb.2, ?_⟩
  rcases e3 with ⟨c1, c2, c3, c4⟩ | ⟨c1, c2, c3, c4⟩
  · exact Or.inl ⟨c1, c2, _, ha.setT xn _, c4⟩
  · refine Or.inr ⟨c1, c2, _, _, ha, c3, ?_, c4⟩
    have hpl := (List.getElem?_eq_some_iff.1 e2).1
    rw [List.length_map, List.length_eraseIdx_of_lt hpl]
    have := h.inv.len
    omega
end Go.Proofs.Ytakciepfckdpfaa
