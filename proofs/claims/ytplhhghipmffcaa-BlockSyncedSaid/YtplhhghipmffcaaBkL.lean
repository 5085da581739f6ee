/- Block: what comes of the picks. -/
import Derived.Test.YtplhhghipmffcaaWTo
namespace Go.Proofs.Ytplhhghipmffcaa
open Go.RowKit
set_option linter.unusedVariables false
variable {w w' W : World} {g n m o : Nat} {f f' : Nat → Int} {K K' : Nat → Prop} {sb : Nat} {A : Ad} {S : Sto}
theorem syncN_app (l : List PW) (x : PW) (f : Nat → Int) : ∀ i, i ≤ l.length → syncN (l ++ [x]) f i = syncN l f i
  | 0, _ => rfl
  | i + 1, h => by
    have h1 : l[i]? = some (l[i]'(by omega)) := List.getElem?_eq_getElem (by omega)
    have h2 : (l ++ [x])[i]? = some (l[i]'(by omega)) := by rw [List.getElem?_append_left (by omega)]; exact h1
    rw [syncN_succ h1, syncN_succ h2, syncN_app l x f i (by omega)]
/-- what is read is what was safe and all that is pending -/
def Good (S : Sto) : Prop := S.now = syncN S.pend S.safe S.pend.length
theorem Good.fresh (n : Nat) (f : Nat → Int) : Good (Sto.fresh n f) := rfl
theorem Good.wrote (h : Good S) (i : Nat) (fd : Nat → Int) : Good (S.wrote i fd) := by
  show putF S.now (512 * i) 512 fd = syncN (S.pend ++ [(i, fd)]) S.safe (S.pend ++ [(i, fd)]).length
  have h1 : (S.pend ++ [(i, fd)])[S.pend.length]? = some (i, fd) := by rw [List.getElem?_append_right (Nat.le_refl _), Nat.sub_self]; rfl
  rw [List.length_append, show [(i, fd)].length = 1 from rfl, syncN_succ h1, syncN_app _ _ _ _ (Nat.le_refl _), ← h]
theorem Good.synced (h : Good S) : Good S.synced := by
  show S.now = syncN S.pend S.safe S.pend.length
  exact h
theorem Good.many (h : Good S) (hs : Nat → Int) : ∀ i, Good (S.many hs i)
  | 0 => h
  | i + 1 => (Good.many h hs i).wrote _ _
theorem Good.made (n sl : Nat) (hs : Nat → Int) (pl : Nat) (hp : Nat → Int) : Good (Sto.made n sl hs pl hp) := (((Good.fresh n _).many hs sl).synced).many hp pl
theorem Sto.made_len (n sl : Nat) (hs : Nat → Int) (pl : Nat) (hp : Nat → Int) : (Sto.made n sl hs pl hp).pend.length = pl := by
  unfold Sto.made
  rw [Sto.many_len]
  show 0 + pl = pl
  omega
theorem Sto.made_left (n sl : Nat) (hs : Nat → Int) (pl : Nat) (hp : Nat → Int) : (Sto.made n sl hs pl hp).left = -1 := by
  unfold Sto.made
  exact Sto.many_left (((Sto.fresh n (fun _ => 0)).many hs sl).synced) hp (Sto.many_left (Sto.fresh n (fun _ => 0)) hs rfl sl) pl
/-- what is safe is what a store without pending writes reads -/
theorem Sto.made_safe (n sl : Nat) (hs : Nat → Int) (pl : Nat) (hp hp' : Nat → Int) : (Sto.made n sl hs pl hp).safe = (Sto.made n sl hs 0 hp').now := by
  unfold Sto.made
  rw [Sto.many_safe]
  exact (Good.many (Good.fresh n _) hs sl).symm
theorem putF_whole (f x : Nat → Int) (o : Nat) : putF f (o + 0) 512 (fun j => x (0 + j)) = putF f o 512 x := by
  funext k
  rw [Nat.add_zero]
  exact putF_congr rfl (fun j _ => by rw [Nat.zero_add])
theorem putF_none (f h : Nat → Int) (o : Nat) : putF f o 0 h = f := by
  funext k
  rw [putF_out _ _ (by omega)]
theorem crash_whole {pk : Nat → Int} {l : List PW} (f : Nat → Int) : ∀ i, (∀ j, j < i → spFrom (pk j) = 0 ∧ spLen (pk j) = 512) → crashN pk l f i = syncN l f i
  | 0, _ => rfl
  | i + 1, h => by
    have ih := crash_whole (l := l) f i (fun j hj => h j (by omega))
    obtain ⟨h1, h2⟩ := h i (by omega)
    cases hl : l[i]? with
    | none =>
      show (match l[i]? with | some x => tear (crashN pk l f i) x (pk i) | none => crashN pk l f i) = (match l[i]? with | some x => putF (syncN l f i) (512 * x.1) 512 x.2 | none => syncN l f i)
      rw [hl]
      exact ih
    | some x =>
      rw [crashN_succ hl, syncN_succ hl, ih]
      unfold tear
      rw [h1, h2]
      exact putF_whole _ _ _
theorem crash_none {pk : Nat → Int} {l : List PW} (f : Nat → Int) : ∀ i, (∀ j, j < i → spLen (pk j) = 0) → crashN pk l f i = f
  | 0, _ => rfl
  | i + 1, h => by
    have ih := crash_none (l := l) f i (fun j hj => h j (by omega))
    have h2 := h i (by omega)
    cases hl : l[i]? with
    | none =>
      show (match l[i]? with | some x => tear (crashN pk l f i) x (pk i) | none => crashN pk l f i) = f
      rw [hl]
      exact ih
    | some x =>
      rw [crashN_succ hl, ih]
      unfold tear
      rw [h2]
      exact putF_none _ _ _
theorem sp512 : spFrom 512 = 0 ∧ spLen 512 = 512 := by decide
theorem sp1025 : spFrom 1025 = 0 ∧ spLen 1025 = 512 := by decide
theorem sp0 : spLen 0 = 0 := by decide
/-- two rows of numbers of one's own, side by side -/
structure Tw (W : World) (x y : Int) (i : Nat) (v1 v2 : Value) (w : World) : Prop where
  o1 : w.ownsRow W.heap.size 3 1 v1 i (List.replicate i (.int .i64 x))
  o2 : w.ownsRow W.heap.size 3 1 v2 i (List.replicate i (.int .i64 y))
  up : Up W w
  ne : ∀ b, v1.ownBlock = some b → v2.ownBlock ≠ some b
theorem own_ge {base size n : Nat} {ty : TypeId} {v : Value} {xs : List Value} {b : Nat} (h : w.ownsRow base ty size v n xs) (e : v.ownBlock = some b) : base ≤ b ∧ b < w.heap.size := by
  rcases h.2 with ⟨rfl, _⟩ | ⟨g, cap, cur, rfl, hb, hg, _⟩
  · cases e
  · have e : g = b := Option.some.inj (show some g = some b from e)
    subst e
    exact ⟨hb, heap_at hg⟩
theorem rep_succ (i : Nat) (v : Value) : List.replicate i v ++ [v] = List.replicate (i + 1) v := by
  rw [List.replicate_succ']
/-- the first one has grown -/
theorem Tw.left {x y : Int} {i : Nat} {v1 v2 v' : Value} {o : Obj} (h : w.ownsRow W.heap.size 3 1 v2 i (List.replicate i (.int .i64 y))) (hu : Up W w) (ne : ∀ b, v1.ownBlock = some b → v2.ownBlock ≠ some b) (h1 : ∀ b, v1.ownBlock = some b → W.heap.size ≤ b) (gr : (w.alloc o).grownBy w' v1.ownBlock) (at' : v'.ownBlock = v1.ownBlock ∨ v'.ownBlock = some (w.alloc o).heap.size) : w'.ownsRow W.heap.size 3 1 v2 i (List.replicate i (.int .i64 y)) ∧ Up W w' ∧ (∀ b, v'.ownBlock = some b → v2.ownBlock ≠ some b) := by
  have ua : Up w (w.alloc o) := (Up.refl w).alloc o
  refine ⟨ownsRow_block h (fun b hb => ?_), ⟨gr.os.trans hu.os, gr.output.trans hu.output, Nat.le_trans hu.size (Nat.le_trans ua.size gr.size), fun b hb => ?_⟩, fun b hb hc => ?_⟩
  · have hbl := (own_ge h hb).2
    exact (gr.block b (Nat.lt_of_lt_of_le hbl ua.size) (fun e => ne b e.symm hb)).trans (ua.block b hbl)
  · have hbl := Nat.lt_of_lt_of_le hb hu.size
    refine (gr.block b (Nat.lt_of_lt_of_le hbl ua.size) (fun e => ?_)).trans ((ua.block b hbl).trans (hu.block b hb))
    have := h1 b e.symm
    omega
  · rcases at' with e | e
    · exact ne b (e ▸ hb) hc
    · rw [e] at hb
      have := Option.some.inj hb
      have := (own_ge h hc).2
      have := ua.size
      omega
/-- such a row as a list of numbers -/
theorem own_ints {base i : Nat} {v : Value} {x : Int} (h : w.ownsRow base 3 1 v i (List.replicate i (.int .i64 x))) (hx : I64 x) : ∃ aa ab c, v = .slice aa i c ∧ Ints w aa ab 0 i c (fun _ => x) := by
  rcases own_cases h with ⟨rfl, hn, _⟩ | ⟨g, cap, rfl, h1, h2, _⟩
  · subst hn
    exact ⟨none, 0, 0, rfl, Ints.none w _ (fun _ => hx)⟩
  · refine ⟨_, g, cap, rfl, h1, h2, fun _ => rfl, fun _ => hx, fun k hk => ?_⟩
    rw [own_cell h k (by omega), List.getElem?_replicate, if_pos hk]
end Go.Proofs.Ytplhhghipmffcaa
