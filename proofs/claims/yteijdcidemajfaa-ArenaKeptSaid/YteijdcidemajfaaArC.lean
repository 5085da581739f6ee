/- Arena: one more in the midst of a list of numbers. -/
import Derived.Test.YteijdcidemajfaaArB
namespace Go.Proofs.Yteijdcidemajfaa
open Go.RowKit
set_option linter.unusedVariables false
/-- cells put into a row, one behind the other -/
def putL (cs : Array Value) : Nat → List Value → Array Value
  | _, [] => cs
  | o, v :: r => putL (cs.setIfInBounds o v) (o + 1) r
theorem putL_size : ∀ (vs : List Value) (o : Nat) (cs : Array Value), (putL cs o vs).size = cs.size
  | [], _, _ => rfl
  | v :: r, o, cs => by
    show (putL (cs.setIfInBounds o v) (o + 1) r).size = _
    rw [putL_size r]
    simp
theorem putL_at : ∀ (vs : List Value) (o : Nat) (cs : Array Value) (k : Nat), o + vs.length ≤ cs.size → (putL cs o vs)[k]? = if o ≤ k ∧ k < o + vs.length then vs[k - o]? else cs[k]?
  | [], o, cs, k, h => by
    rw [if_neg (by simp)]
    rfl
  | v :: r, o, cs, k, h => by
    simp only [List.length_cons] at h
    show (putL (cs.setIfInBounds o v) (o + 1) r)[k]? = _
    rw [putL_at r (o + 1) _ k (by simp; omega), Array.getElem?_setIfInBounds]
    simp only [List.length_cons]
    by_cases e : k = o
    · subst e
      rw [if_neg (by omega), if_pos rfl, if_pos (by omega), if_pos (by omega), Nat.sub_self]
      rfl
    · by_cases e2 : o ≤ k ∧ k < o + (r.length + 1)
      · rw [if_pos (by omega), if_pos e2]
        obtain ⟨j, hj⟩ : ∃ j, k - o = j + 1 := ⟨k - o - 1, by omega⟩
        rw [hj, show k - (o + 1) = j by omega]
        rfl
      · rw [if_neg (by omega), if_neg (fun e' => e e'.symm), if_neg e2]
theorem heap_setCells_same (b : Nat) (ty : TypeId) : ∀ (vs : List Value) (o : Nat) (cs : Array Value) (w : World), w.heap[b]? = some (.cells cs ty (0, 0)) → (w.setCells b o vs).heap[b]? = some (.cells (putL cs o vs) ty (0, 0))
  | [], _, _, _, h => h
  | v :: r, o, cs, w, h => by
    show ((w.setCell ⟨b, o, none⟩ v).setCells b (o + 1) r).heap[b]? = some (.cells (putL (cs.setIfInBounds o v) (o + 1) r) ty (0, 0))
    exact heap_setCells_same b ty r (o + 1) _ _ (heap_setCell_same w b o _ _ v h)
theorem fr_setCells (b : Nat) : ∀ (vs : List Value) (o : Nat) (w : World), Fr b w (w.setCells b o vs)
  | [], _, w => Fr.refl b w
  | v :: r, o, w => ((Fr.refl b w).setCell).trans (fr_setCells b r (o + 1) _)
/-- a row of one's own, its cells behind it too -/
theorem own_open {w : World} {base n size g cap : Nat} {e : TypeId} {xs : List Value} (h : w.ownsRow base e size (.slice (some ⟨g, 0, none⟩) n cap) n xs) : ∃ cur, w.heap[g]? = some (.cells cur e (0, 0)) ∧ base ≤ g ∧ n ≤ cap ∧ cap ≤ maxLen ∧ cur.size = cap * size ∧ cur.toList.take (n * size) = xs ∧ xs.length = n * size := by
  rcases h.2 with ⟨hv, hn⟩ | ⟨g', cap', cur, hv, hb, hg, hc, hm, hs, ht⟩
  · cases hv
  · injection hv with h1 _ h3
    injection h1 with h1
    injection h1 with h1 _
    subst h1 h3
    exact ⟨cur, hg, hb, hc, hm, hs, ht, h.1⟩
theorem own_at {n size : Nat} {cur : Array Value} {xs : List Value} (h : cur.toList.take (n * size) = xs) (k : Nat) (hk : k < n * size) : cur[k]? = xs[k]? := by
  rw [← h, List.getElem?_take, if_pos hk, Array.getElem?_toList]
theorem own_of {w : World} {base n size g cap : Nat} {e : TypeId} {xs : List Value} {cur : Array Value} (hg : w.heap[g]? = some (.cells cur e (0, 0))) (hb : base ≤ g) (hc : n ≤ cap) (hm : cap ≤ maxLen) (hs : cur.size = cap * size) (hl : xs.length = n * size) (ht : ∀ k, k < n * size → cur[k]? = xs[k]?) : w.ownsRow base e size (.slice (some ⟨g, 0, none⟩) n cap) n xs := by
  refine ⟨hl, Or.inr ⟨g, cap, cur, rfl, hb, hg, hc, hm, hs, ?_⟩⟩
  refine List.ext_getElem? fun k => ?_
  rw [List.getElem?_take]
  by_cases hk : k < n * size
  · rw [if_pos hk, Array.getElem?_toList, ht k hk]
  · rw [if_neg hk]
    exact (List.getElem?_eq_none_iff.2 (by omega)).symm
set_option maxRecDepth 100000 in
set_option maxHeartbeats 2000000 in
theorem insI_mid {W : World} {g n cap i vb : Nat} {xs : List Value} {x : Value} (own : W.ownsRow 0 3 1 (.slice (some ⟨g, 0, none⟩) n cap) n xs) (hi : i < n) (hroom : n + 1 ≤ cap) (hv : W.heap[vb]? = some (.cells #[x] 3 (0, 0))) (hvb : vb ≠ g) (h1 : x.oneCell' = true) (h1s : ∀ u ∈ xs, u.oneCell' = true) :
    Calls Try.prog 63 #[.slice (some ⟨g, 0, none⟩) n cap, .int .i64 i, .slice (some ⟨vb, 0, none⟩) 1 1] W fun e w' => e = .returned (.slice (some ⟨g, 0, none⟩) (n + 1) cap) ∧ w'.ownsRow 0 3 1 (.slice (some ⟨g, 0, none⟩) (n + 1) cap) (n + 1) (xs.take i ++ x :: xs.drop i) ∧ Fr g W w' := by
  obtain ⟨cur, hg, hb, hc, hm, hs, ht, hl⟩ := own_open own
  rw [Nat.mul_one] at hs hl ht
  have hm2 : cap ≤ 9223372036854775807 := by unfold maxLen at hm; omega
  have hsz : (Try.prog.info? 3).map (·.size) = some 1 := by kernel_rfl
  have hcur : ∀ k, k < n → cur[k]? = xs[k]? := fun k hk => own_at (size := 1) (by rw [Nat.mul_one]; exact ht) k (by omega)
  have hcs : ∀ j, j < cap → (W.cell? ⟨g, 0 + j, none⟩).isSome = true := fun j hj => by
    rw [cell_of_row _ _ _ _ _ _ hg, Nat.zero_add]
    rw [Array.getElem?_eq_getElem (by omega)]; rfl
  have hfz : ∀ k, W.frozen? ⟨g, k, none⟩ = false := fun k => by simp [World.frozen?, hg]
  have hfv : ∀ k, W.frozen? ⟨vb, k, none⟩ = false := fun k => by simp [World.frozen?, hv]
  have hov : Hid (∀ lb cb, (callFunc 85 #[.slice (some ⟨vb, 0, none⟩) 1 1, .slice (some ⟨g, i + 1, none⟩) lb cb]).run Try.prog W = .ok (.value (.bool false)) W) := fun lb cb => by
    rw [run_callFunc_extern Try.func85 (by kernel_rfl) (by kernel_rfl) (by kernel_rfl) (e := Extern.SlicesOverlaps.overlaps #[22, 22] #[4]) (by kernel_rfl),
      Lib.run_overlaps_apart W 22 4 3 Try.underlying22 1 Try.sizeOf3 ⟨vb, 0, none⟩ ⟨g, i + 1, none⟩ 1 1 lb cb hvb 3 3 1 cap (by simp [World.shape?, hv]) (by simp [World.shape?, hg, hs]) (by omega) (hfv 0) (hfv 1)]
    rfl
  have hdl : (xs.drop i).length = n - i := by rw [List.length_drop, hl]
  have hcp1 : ∀ ty dc sc, (Builtin.copy_ #[92, 92] ty #[.slice (some ⟨g, i + 1, none⟩) (n - i) dc, .slice (some ⟨g, i, none⟩) (n + 1 - i) sc]).run Try.prog W.drew = .ok (goInt (xs.drop i).length) (W.drew.setCells g (i + 1) (xs.drop i)) := fun ty dc sc =>
    run_copy_cells W.drew _ _ ty 3 g (i + 1) (n - i) dc ⟨g, i, none⟩ (n + 1 - i) sc (xs.drop i) Try.underlying92 hsz (by rw [hdl]; simp only [Nat.min_def]; split <;> omega)
      (fun j v hj => by
        have hj2 : j < n - i := by have := (List.getElem?_eq_some_iff.1 hj).1; omega
        rw [Addr.add_lit]
        show W.cell? _ = _
        rw [cell_of_row _ _ _ _ _ _ hg, hcur _ (by omega)]
        rwa [List.getElem?_drop] at hj)
      (fun j hj => by show (W.cell? _).isSome = true; have := hcs (i + 1 + j) (by omega); rwa [Nat.zero_add] at this) (fun j hj => hfz _) (fun v hv => h1s v (List.mem_of_mem_drop hv))
  obtain ⟨W1, hW1⟩ : ∃ W1, W1 = W.drew.setCells g (i + 1) (xs.drop i) := ⟨_, rfl⟩
  have k1 : W1.heap[g]? = some (.cells (putL cur (i + 1) (xs.drop i)) 3 (0, 0)) := by
    rw [hW1]
    exact heap_setCells_same g _ _ _ _ W.drew hg
  have kv : W1.heap[vb]? = some (.cells #[x] 3 (0, 0)) := by
    rw [hW1, (fr_setCells g (xs.drop i) (i + 1) W.drew).block vb (Array.getElem?_eq_some_iff.1 hv).1 hvb]
    exact hv
  have hcp2 : Hid (∀ (w : World), (∀ x, w.cell? x = W1.cell? x) → (∀ x, w.frozen? x = W1.frozen? x) → ∀ ty dc, (Builtin.copy_ #[92, 22] ty #[.slice (some ⟨g, i, none⟩) (n + 1 - i) dc, .slice (some ⟨vb, 0, none⟩) 1 1]).run Try.prog w = .ok (goInt [x].length) (w.setCells g i [x])) := fun w hWc hWf ty dc =>
    run_copy_cells w _ _ ty 3 g i (n + 1 - i) dc ⟨vb, 0, none⟩ 1 1 [x] Try.underlying92 hsz (by simp only [List.length_cons, List.length_nil, Nat.min_def]; split <;> omega)
      (fun j v hj => by
        match j, hj with
        | 0, hj =>
          rw [Addr.add_lit, hWc, cell_of_row _ _ _ _ _ _ kv]
          simpa using hj
        | j + 1, hj => simp at hj)
      (fun j hj => by
        rw [hWc, cell_of_row _ _ _ _ _ _ k1]
        rw [Array.getElem?_eq_getElem (by rw [putL_size]; simp at hj; omega)]; rfl) (fun j hj => by rw [hWf]; simp [World.frozen?, k1]) (fun v hv => by simp at hv; subst hv; exact h1)
  rw [← hW1] at hcp1
  have HE : Hid (∀ w : World, w.heap = W1.heap → w.os = W1.os → w.output = W1.output → (w.setCells g i [x]).ownsRow 0 3 1 (.slice (some ⟨g, 0, none⟩) (n + 1) cap) (n + 1) (xs.take i ++ x :: xs.drop i) ∧ Fr g W (w.setCells g i [x])) := fun w hw ho hp => by
    have kw : w.heap[g]? = _ := (congrArg (·[g]?) hw).trans k1
    refine ⟨own_of (cur := putL (putL cur (i + 1) (xs.drop i)) i [x]) ?_ hb hroom hm (by rw [putL_size, putL_size, hs, Nat.mul_one]) (by simp; omega) (fun k hk => ?_), ?_⟩
    · exact heap_setCells_same g _ _ _ _ w kw
    · rw [Nat.mul_one] at hk
      rw [putL_at _ _ _ _ (by rw [putL_size]; simp; omega), putL_at _ _ _ _ (by omega)]
      simp only [List.length_cons, List.length_nil]
      by_cases e : k = i
      · subst e
        rw [if_pos (by omega), Nat.sub_self, List.getElem?_append_right (by rw [List.length_take]; omega), List.length_take, Nat.min_eq_left (by omega), Nat.sub_self]
        rfl
      · rw [if_neg (by omega)]
        by_cases e2 : k < i
        · rw [if_neg (by omega), hcur k (by omega), List.getElem?_append_left (by rw [List.length_take]; omega), List.getElem?_take, if_pos e2]
        · rw [if_pos (by omega), List.getElem?_append_right (by rw [List.length_take]; omega), List.length_take, Nat.min_eq_left (by omega)]
          obtain ⟨j, hj⟩ : ∃ j, k - i = j + 1 := ⟨k - i - 1, by omega⟩
          rw [hj, show k - (i + 1) = j by omega]
          rfl
    · have f1 := fr_setCells g (xs.drop i) (i + 1) W.drew
      rw [← hW1] at f1
      have f2 := fr_setCells g [x] i w
      have f3 : Fr g W w := ⟨ho.trans f1.os, hp.trans f1.output, by rw [hw]; exact f1.size, fun k hk hb => (congrArg (·[k]?) hw).trans (f1.block k hk hb)⟩
      exact f3.trans f2
  have hb1 : (i : Int) < (n : Int) := by omega
  have hz2 : ¬ ((i : Int) = (n : Int)) := by omega
  have hb2 : ¬ (cap = i + 1) := by omega
  have hb3 : (i : Int) ≤ (n : Int) + 1 := by omega
  have hb4 : ¬ (cap = i) := by omega
  have hb5 : (n : Int) + 1 ≤ (cap : Int) := by omega
  have hin : i ≤ n := by omega
  have htn : ((i : Int) + 1).toNat = i + 1 := by omega
  have htm : ((n : Int) + 1).toNat = n + 1 := by omega
  have hwr : IntKind.i64.wrap ((i : Int) + 1) = (i : Int) + 1 := by simp [IntKind.wrap, IntKind.bits, IntKind.signed]; omega
  have hb6 : (i : Int) + 1 ≤ (n : Int) + 1 := by omega
  have hb7 : 0 ≤ (i : Int) + 1 := by omega
  have mixed : Try.prog.follows Departure.mixedOrders = true := by kernel_rfl
  clear own hg hb hs ht hl hcur hcs hfz hfv hdl k1 kv hW1 hv h1 h1s hm hvb
  go_enter Try.func63, Try.ntmps63
  go_wp2_with (simp only [hov.out])
  go_region_law_o (refine step_copy_runI rfl _ _ 92 92 rfl _ _ (by simp [Act.eval, Act.put]) (by simp [Act.eval, Act.put]) (hcp1 _ _ _) ?_)
  go_wp2_with (refine wpList_copy_runI _ rfl _ _ 92 22 rfl _ _ rfl rfl (hcp2.out _ (fun _ => rfl) (fun _ => rfl) _ _) ?_)
  go_ret

  exact ⟨rfl, HE.out _ rfl rfl rfl⟩
end Go.Proofs.Yteijdcidemajfaa
