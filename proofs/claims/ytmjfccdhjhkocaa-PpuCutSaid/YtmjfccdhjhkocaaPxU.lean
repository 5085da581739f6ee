/- The frame, told. -/
import Derived.Test.YtmjfccdhjhkocaaPxT
namespace Go.Proofs.Ytmjfccdhjhkocaa
open Go.RowKit
set_option linter.unusedVariables false
variable {b : Nat} {p : Pic}
def Pic.shots (p : Pic) : List Value := (List.range' 0 23040).map fun k => .int .u8 (p.sh k)
theorem Pic.shots_len (p : Pic) : p.shots.length = 23040 := by unfold Pic.shots; rw [List.length_map, List.length_range']
theorem Pic.shots_one (p : Pic) : ∀ v ∈ p.shots, v.oneCell' = true := by
  intro v hv
  unfold Pic.shots at hv
  obtain ⟨k, _, rfl⟩ := List.mem_map.1 hv
  rfl
theorem Pic.shots_at (p : Pic) (k : Nat) (hk : k < 23040) : p.shots[k]? = some (.int .u8 (p.sh k)) := by
  unfold Pic.shots
  rw [List.getElem?_map, List.getElem?_range' hk]
  simp
theorem PxAt.shots {W : World} (h : PxAt W b p) : W.rangeAt b 31407 p.shots := by
  intro k v hv
  have hk : k < 23040 := by
    have := (List.getElem?_eq_some_iff.1 hv).1
    rw [Pic.shots_len] at this
    exact this
  rw [p.shots_at k hk] at hv
  rw [h.cell _ (by omega), Pic.cell_sh _ (by omega), Nat.add_sub_cancel_left]
  exact hv
/-- a whole block is set -/
theorem NmAt.filled {W : World} {g : Nat} {cs : Array Value} {ty : TypeId} (h : W.heap[g]? = some (.cells cs ty (0, 0))) (hs : cs.size = 23040) (D : List Value) (f : Nat → Int) (hD : D.length = 23040) (hf : ∀ k, k < 23040 → D[k]? = some (.int .u8 (f k))) : NmAt (W.setCells g 0 D) g 23040 f := by
  have key : ∀ (n : Nat) (m : Nat) (w : World) (cs : Array Value), m + n = 23040 → w.heap[g]? = some (.cells cs ty (0, 0)) → cs.size = 23040 → (∀ k, k < m → cs[k]? = some (.int .u8 (f k))) → NmAt (w.setCells g m (D.drop m)) g 23040 f := by
    intro n
    induction n with
    | zero =>
      intro m w cs hm h1 h2 h3
      have : D.drop m = [] := List.drop_eq_nil_of_le (by omega)
      rw [this]
      exact ⟨cs, ty, h1, h2, fun k hk => h3 k (by omega)⟩
    | succ n ih =>
      intro m w cs hm h1 h2 h3
      have e : D.drop m = (.int .u8 (f m)) :: D.drop (m + 1) := by
        have hm2 : m < D.length := by omega
        rw [List.drop_eq_getElem_cons hm2]
        congr 1
        have := hf m (by omega)
        rw [List.getElem?_eq_getElem hm2] at this
        exact Option.some.inj this
      rw [e]
      show NmAt ((w.setCell ⟨g, m, none⟩ (.int .u8 (f m))).setCells g (m + 1) (D.drop (m + 1))) g 23040 f
      refine ih (m + 1) _ (cs.setIfInBounds m (.int .u8 (f m))) (by omega) (heap_setCell_same w g m _ _ _ h1) (by simp [h2]) (fun k hk => ?_)
      rw [Array.getElem?_setIfInBounds]
      by_cases e2 : m = k
      · subst e2
        rw [if_pos rfl, if_pos (by omega)]
      · rw [if_neg e2]
        exact h3 k (by omega)
  have := key 23040 0 W cs (by omega) h hs (fun k hk => absurd hk (by omega))
  rw [List.drop_zero] at this
  exact this
theorem up_setCells {W w : World} {g : Nat} (hg : W.heap.size ≤ g) (u : Up W w) : ∀ (vs : List Value) (o : Nat), Up W (w.setCells g o vs) := by
  intro vs
  induction vs generalizing w with
  | nil => intro o; exact u
  | cons v vs ih => intro o; exact ih (u.setCell (p := ⟨g, o, none⟩) hg v) (o + 1)
theorem z60_size : Try.zeroCells72.size = 23040 := by kernel_rfl
set_option maxRecDepth 100000 in
set_option maxHeartbeats 1000000 in
theorem frame_any (W : World) (h : PxAt W b p) : Calls Try.prog 33 #[.pointer (some ⟨b, 0, none⟩)] W fun e w' => e = .returned (.slice (some ⟨W.heap.size, 0, none⟩) 23040 23040) ∧ NmAt w' W.heap.size 23040 p.sh ∧ Up W w' := by
  obtain ⟨D, hD⟩ : ∃ D, D = p.shots := ⟨_, rfl⟩
  have HI : Hid ((Try.prog.info? 72).map (·.size) = some D.length) := by show _ = _; rw [hD, Pic.shots_len]; kernel_rfl
  have hz := z60_size
  have HR : Hid (W.rangeAt b 31407 D) := by show World.rangeAt _ _ _ _; rw [hD]; exact h.shots
  have hb : (W.alloc (Obj.cells Try.zeroCells72 72)).heap[W.heap.size]? = some (.cells Try.zeroCells72 72 (0, 0)) := heap_alloc_new W _
  have HT : Hid ((W.alloc (Obj.cells Try.zeroCells72 72)).there W.heap.size 0 D.toArray.size) := by
    intro j hj
    have hj2 : j < 23040 := by rw [← Pic.shots_len p, ← hD]; simpa using hj
    refine ⟨?_, by unfold World.frozen?; rw [show (W.alloc (Obj.cells Try.zeroCells72 72)).heap[(⟨W.heap.size, 0 + j, none⟩ : Addr).block]? = _ from hb]; simp⟩
    rw [cell_of_row _ _ _ _ _ _ hb, Nat.zero_add, Array.getElem?_eq_getElem (by omega)]
    rfl
  have HO : Hid (D.toArray.all (·.oneCell') = true) := all_oneCell_toArray (by rw [hD]; exact p.shots_one)
  have HC : Hid (∀ w', w' = (W.alloc (Obj.cells Try.zeroCells72 72)).setCells W.heap.size 0 D → NmAt w' W.heap.size 23040 p.sh ∧ Up W w') := fun w' e => by
    rw [e]
    exact ⟨NmAt.filled hb hz D p.sh (by rw [hD, Pic.shots_len]) (fun k hk => by rw [hD]; exact p.shots_at k hk), up_setCells (Nat.le_refl _) ((Up.refl W).alloc _) _ _⟩
  clear hD hz hb h
  go_enter Try.func33, Try.ntmps33
  go_wp2_with (first
        | (refine wpList_load_mid rfl 72 _ rfl b 31407 rfl D _ HR.out Try.underlying72 rfl HI.out ?_)
        | (refine wpList_store_mid rfl 72 _ _ rfl W.heap.size 0 D.toArray rfl rfl HT.out (by exact HI.out) HO.out ?_; have h3 := HC.out _ rfl; generalize World.setCells _ _ _ _ = w3 at h3 ⊢; have H3 : Hid _ := h3; clear h3))
  go_ret
  exact ⟨rfl, H3.out⟩
end Go.Proofs.Ytmjfccdhjhkocaa
