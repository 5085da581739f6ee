/- Proto: what ProtoReplies keeps. -/
import Derived.Test.YtnengokobkehfaaPrX
import Derived.Test.YtnengokobkehfaaPrY
namespace Go.Proofs.Ytnengokobkehfaa
open Go.RowKit
set_option linter.unusedVariables false
variable {w w' W : World}
/-- replies as they come in -/
structure Reps (W : World) (aa : Option Addr) (ab ao len cap : Nat) (ms : List (C × Value)) : Prop where
  leq : ms.length = len
  lc : len ≤ cap
  cm : cap ≤ maxLen
  ad : 0 < len → aa = some ⟨ab, ao, none⟩
  at_ : ∀ k x, ms[k]? = some x → W.rangeAt ab (ao + k * 4) (rC x.1 x.2) ∧ Bs 0 W x.2 x.1.data.bs
def endsV (bs : List (List Int)) : List Value := (List.range bs.length).map fun i => .int .i64 (((bs.take (i + 1)).flatten.length : Nat) : Int)
theorem endsV_snoc (bs : List (List Int)) (b : List Int) : endsV (bs ++ [b]) = endsV bs ++ [.int .i64 (((bs.flatten ++ b).length : Nat) : Int)] := by
  unfold endsV
  rw [List.length_append, List.length_singleton, List.range_succ, List.map_append]
  congr 1
  · refine List.map_congr_left fun i hi => ?_
    have hi' := List.mem_range.1 hi
    rw [List.take_append_of_le_length (by omega)]
  · have e1 : (bs ++ [b]).take (bs.length + 1) = bs ++ [b] := List.take_of_length_le (by simp)
    simp only [List.map_cons, List.map_nil, e1]
    rw [show (bs ++ [b]).flatten = bs.flatten ++ b by simp]
theorem endsV_len (bs : List (List Int)) : (endsV bs).length = bs.length := by unfold endsV; simp
/-- the replies that were written so far, their bytes, and where each ends -/
structure RpSt (W1 : World) (ms : List (C × Value)) (k : Nat) (wv av ev : Value) (sel : List (C × Value)) (bs : List (List Int)) (w : World) : Prop where
  ok : sel.map (fun x => encF repT (toR x.1)) = bs.map Except.ok
  src : ∀ x ∈ sel, x ∈ ms
  wown : w.ownsRow W1.heap.size 44 4 wv sel.length (rrC sel)
  aown : w.ownsRow W1.heap.size 5 1 av bs.flatten.length (u8s bs.flatten)
  eown : w.ownsRow W1.heap.size 3 1 ev bs.length (endsV bs)
  up : Up W1 w
  cnt : sel.length ≤ k
  len : bs.flatten.length ≤ sel.length * 262404
  u8 : L8 bs.flatten
theorem RpSt.push {W1 w8 w9 w10 w11 : World} {o2 : Obj} {ms sel : List (C × Value)} {k : Nat} {wv av ev wv' av' ev' : Value} {bs : List (List Int)} {c : C} {d : Value} {b : List Int} (h : RpSt W1 ms k wv av ev sel bs w) (hx : (c, d) ∈ ms) (he : encF repT (toR c) = .ok b) (hbl : b.length ≤ 262404) (hb8 : L8 b) (u : Up w w8)
    (ho : w9.ownsRow W1.heap.size 44 4 wv' (sel.length + 1) (rrC sel ++ rC c d)) (hg : w8.grownBy w9 wv.ownBlock)
    (ho2 : w10.ownsRow W1.heap.size 5 1 av' (bs.flatten ++ b).length (u8s (bs.flatten ++ b))) (hg2 : w9.grownBy w10 av.ownBlock)
    (ho3 : w11.ownsRow W1.heap.size 3 1 ev' (bs.length + 1) (endsV bs ++ [.int .i64 (((bs.flatten ++ b).length : Nat) : Int)])) (hg3 : (w10.alloc o2).grownBy w11 ev.ownBlock) : RpSt W1 ms (k + 1) wv' av' ev' (sel ++ [(c, d)]) (bs ++ [b]) w11 := by
  have a8 := ownsRow_up h.aown u
  have m8 := ownsRow_up h.wown u
  have e8 := ownsRow_up h.eown u
  have a9 : w9.ownsRow W1.heap.size 5 1 av bs.flatten.length (u8s bs.flatten) := ownsRow_block a8 fun g hg' => hg.block g (a8.lt g hg').2 (fun e => own_ty a8 m8 (by decide) hg' e.symm)
  have e9 : w9.ownsRow W1.heap.size 3 1 ev bs.length (endsV bs) := ownsRow_block e8 fun g hg' => hg.block g (e8.lt g hg').2 (fun e => own_ty e8 m8 (by decide) hg' e.symm)
  have e10 : w10.ownsRow W1.heap.size 3 1 ev bs.length (endsV bs) := ownsRow_block e9 fun g hg' => hg2.block g (e9.lt g hg').2 (fun e => own_ty e9 a9 (by decide) hg' e.symm)
  have e10' := ownsRow_up e10 ((Up.refl w10).alloc o2)
  have m10 : w10.ownsRow W1.heap.size 44 4 wv' (sel.length + 1) (rrC sel ++ rC c d) := ownsRow_block ho fun g hg' => hg2.block g (ho.lt g hg').2 (fun e => own_ty ho a9 (by decide) hg' e.symm)
  have m10' := ownsRow_up m10 ((Up.refl w10).alloc o2)
  have a10' := ownsRow_up ho2 ((Up.refl w10).alloc o2)
  have u9 := up_grownW (h.up.trans u) m8 hg
  have u10 := up_grownW u9 a9 hg2
  have u11 := up_grownW (u10.alloc o2) e10' hg3
  have ef : (bs ++ [b]).flatten = bs.flatten ++ b := by simp
  refine ⟨by rw [List.map_append, List.map_append, h.ok]; simp [he], fun x hx' => ?_, ?_, ?_, by rw [endsV_snoc, List.length_append]; exact ho3, u11, by have := h.cnt; simp; omega, by rw [ef, List.length_append, List.length_append]; have := h.len; show _ ≤ (sel.length + 1) * 262404; omega, by rw [ef]; exact h.u8.append hb8⟩
  · rcases List.mem_append.1 hx' with h' | h'
    · exact h.src x h'
    · have e : x = (c, d) := by simpa using h'
      rw [e]; exact hx
  · rw [rrC_snoc, List.length_append]
    exact ownsRow_block m10' fun g hg' => hg3.block g (m10'.lt g hg').2 (fun e => own_ty m10' e10' (by decide) hg' e.symm)
  · rw [ef]
    exact ownsRow_block a10' fun g hg' => hg3.block g (a10'.lt g hg').2 (fun e => own_ty a10' e10' (by decide) hg' e.symm)
theorem enc_leT {T : Tab} (ht : tabOk T = true) {c : C} (hc : c.cl) {b : List Int} (h : encF T c = .ok b) : 5 ≤ b.length ∧ b.length ≤ 262404 ∧ L8 b := by
  have h1 := parse_enc ht hc h (f := fn b) (o := 0) (by rw [bl_fn b 0 b.length (by omega)]; simp)
  obtain ⟨n, e1, e2, e3, _⟩ := h1
  refine ⟨by omega, by omega, ?_⟩
  unfold encF at h
  cases hl : look T c.kind with
  | none => rw [hl] at h; cases h
  | some ps =>
    rw [hl] at h
    simp only at h
    have hps := (tab_ok ht hl).2.2
    simp only [psOk, Bool.and_eq_true, decide_eq_true_eq] at hps
    cases hE : encPs ps c with
    | error q => rw [hE] at h; cases h
    | ok l' =>
      rw [hE] at h
      injection h with h
      rw [← h]
      exact (dg_u8 _ _).append ((dg_u8 _ _).append (enc_len ps c l' hps.1.1 hc hE).2)
theorem busy_enc : encF repT (toR ⟨2, V0, V0, V0, V0, V0⟩) = .ok [0, 0, 0, 1, 2] := by first | rfl | with_unfolding_all rfl | kernel_rfl
/-- what a cut leaves: the first that end at or before it -/
theorem rep_dec {A : List Int} : ∀ (cs : List C) (bs : List (List Int)) (a n : Nat), (∀ x ∈ cs, x.cl) → cs.map (encF repT) = bs.map Except.ok → bl (fn A) a bs.flatten.length = bs.flatten → a ≤ n → n ≤ a + bs.flatten.length →
    ∃ m, m ≤ bs.length ∧ Dec repT (fn A) n a (cs.take m) (a + (bs.take m).flatten.length) 0 ∧ a + (bs.take m).flatten.length ≤ n ∧ ∀ j, m ≤ j → j < bs.length → n < a + (bs.take (j + 1)).flatten.length
  | [], bs, a, n, _, h, _, h1, h2 => by
    have e : bs = [] := by cases bs with | nil => rfl | cons _ _ => simp at h
    subst e
    simp at h2
    exact ⟨0, Nat.le_refl _, by simpa using Dec.none h2, by simpa using h1, fun j _ hj => by simp at hj⟩
  | c :: cs, [], a, n, _, h, _, _, _ => by simp at h
  | c :: cs, b :: bs, a, n, hcl, h, hb, h1, h2 => by
    simp only [List.map_cons, List.cons.injEq] at h
    have hf : (b :: bs).flatten = b ++ bs.flatten := by simp
    rw [hf, List.length_append] at hb h2
    rw [bl_add] at hb
    have hlb : (bl (fn A) a b.length).length = b.length := bl_len _ _ _
    obtain ⟨e1, e2⟩ := List.append_inj hb hlb
    have hc := hcl c (by simp)
    by_cases hn : n < a + b.length
    · refine ⟨0, Nat.zero_le _, by simpa using Dec.part rep_ok hc h.1 e1 hn, by simpa using h1, fun j _ hj => ?_⟩
      simp only [List.take_succ_cons, List.flatten_cons, List.length_append]
      omega
    · obtain ⟨m, m1, m2, m3, m4⟩ := rep_dec cs bs (a + b.length) n (fun x hx => hcl x (by simp [hx])) h.2 e2 (by omega) (by omega)
      refine ⟨m + 1, by simp; omega, ?_, ?_, fun j hj hj2 => ?_⟩
      · simp only [List.take_succ_cons, List.flatten_cons, List.length_append]
        have hc1 : ∀ x ∈ [c], x.cl := fun x hx => by
          have ex : x = c := by simpa using hx
          rw [ex]
          exact hc
        have := Dec.encs (f := fn A) (n := n) (l := cs.take m) (r := a + (b.length + (bs.take m).flatten.length)) (e := 0) rep_ok [c] [b] a hc1 (by simp [h.1]) (by simpa using e1) (by simp; omega) (by rw [show [b].flatten = b by simp, ← Nat.add_assoc]; exact m2)
        simpa using this
      · simp only [List.take_succ_cons, List.flatten_cons, List.length_append]
        omega
      · obtain ⟨j, rfl⟩ : ∃ i, j = i + 1 := ⟨j - 1, by omega⟩
        simp only [List.take_succ_cons, List.flatten_cons, List.length_append]
        have := m4 j (by omega) (by simp at hj2; omega)
        omega
theorem RowsR.at {P : Nat → Prop} {base : Nat} {v : Value} {rs : List (C × Value)} (h : RowsR P base w v rs) : ∃ a g c, v = .slice a rs.length c ∧ rs.length ≤ c ∧ c ≤ maxLen ∧ (0 < rs.length → a = some ⟨g, 0, none⟩) ∧ ∀ k x, rs[k]? = some x → w.rangeAt g (k * 4) (rC x.1 x.2) ∧ Bs 0 w x.2 x.1.data.bs := by
  rcases own_cases h.own with ⟨h1, h2, _⟩ | ⟨g, cap, h1, h2, h3, _⟩
  · have e : rs = [] := List.length_eq_zero_iff.1 h2
    subst e
    exact ⟨none, 0, 0, h1, Nat.le_refl _, Nat.zero_le _, fun h => absurd h (by simp), fun k x hk => by simp at hk⟩
  · refine ⟨some ⟨g, 0, none⟩, g, cap, h1, h2, h3, fun _ => rfl, fun k x hk => ⟨fun j u hj => ?_, (h.dat x (List.mem_of_getElem? hk)).bs⟩⟩
    have ho := h.own
    rw [h1] at ho
    have hkl := (List.getElem?_eq_some_iff.1 hk).1
    have hj4 : j < 4 := (List.getElem?_eq_some_iff.1 hj).1
    have hh := own_cell ho (k * 4 + j) (by omega)
    rw [Nat.zero_add] at hh
    rw [hh]
    clear hh ho h h1
    induction rs generalizing k with
    | nil => simp at hk
    | cons y r ih =>
      have e0 : rrC (y :: r) = rC y.1 y.2 ++ rrC r := by simp [rrC]
      rw [e0]
      cases k with
      | zero =>
        have e : y = x := by simpa using hk
        subst e
        rw [Nat.zero_mul, Nat.zero_add, List.getElem?_append_left (by simp [rC]; exact hj4)]
        exact hj
      | succ k =>
        rw [List.getElem?_append_right (by simp [rC]; omega)]
        have e1 : (k + 1) * 4 + j - (rC y.1 y.2).length = k * 4 + j := by simp [rC]; omega
        rw [e1]
        simp only [List.length_cons] at hkl h2
        exact ih (by omega) k (by simpa using hk) (by omega)
theorem rep_want {base : Nat} {wv : Value} {sel : List (C × Value)} {wr : World} (ho : wr.ownsRow base 44 4 wv sel.length (rrC sel)) (hb : ∀ x ∈ sel, Bs 0 W x.2 x.1.data.bs) (u : Up wr w) (uW : Up W w) : RowsR (fun _ => True) base w wv sel :=
  ⟨ownsRow_up ho u, fun x hx => ((hb x hx).up uW).bsp fun _ _ _ => trivial⟩
theorem ends_at {base : Nat} {ev : Value} {bs : List (List Int)} (ho : w.ownsRow base 3 1 ev bs.length (endsV bs)) : ∃ a g c, ev = .slice a bs.length c ∧ bs.length ≤ c ∧ c ≤ maxLen ∧ (0 < bs.length → a = some ⟨g, 0, none⟩) ∧ ∀ k, k < bs.length → w.cell? ⟨g, k, none⟩ = some (.int .i64 (((bs.take (k + 1)).flatten.length : Nat) : Int)) := by
  rcases own_cases ho with ⟨h1, h2, _⟩ | ⟨g, cap, h1, h2, h3, _⟩
  · exact ⟨none, 0, 0, by rw [h1, h2], by omega, Nat.zero_le _, fun h => by omega, fun k hk => by omega⟩
  · refine ⟨some ⟨g, 0, none⟩, g, cap, h1, h2, h3, fun _ => rfl, fun k hk => ?_⟩
    rw [h1] at ho
    have hh := own_cell ho k (by omega)
    rw [Nat.zero_add] at hh
    rw [hh]
    unfold endsV
    simp [hk]
theorem flat_mono {bs : List (List Int)} {i j : Nat} (h : i ≤ j) : (bs.take i).flatten.length ≤ (bs.take j).flatten.length := by
  have := flat_le (bs := bs.take j) i
  rwa [List.take_take, Nat.min_eq_left h] at this
end Go.Proofs.Ytnengokobkehfaa
