/- Block: roles of blocks; what every store of the script keeps to. -/
import Derived.Test.YtekffilokdmfgaaBcJ
import Derived.Test.YtekffilokdmfgaaBcE
import Derived.Test.YtekffilokdmfgaaBcF
import Derived.Test.YtekffilokdmfgaaBcG
import Derived.Test.YtekffilokdmfgaaBcI
import Derived.Test.YtekffilokdmfgaaBbD
import Derived.Test.YtekffilokdmfgaaBkJ
namespace Go.Proofs.Ytekffilokdmfgaa
open Go.RowKit
set_option linter.unusedVariables false
set_option linter.unusedSimpArgs false
variable {w w' w1 W : World} {ρ ρ' ρ1 : Nat → Nat} {r r' sb : Nat} {S : Sto} {R R' : Nat → Prop}
/-- blocks that are not of a role -/
def Kr (ρ : Nat → Nat) (r : Nat) (w : World) : Nat → Prop := fun b => b < w.heap.size ∧ ρ b ≠ r
/-- new blocks are of the role r -/
def ext (ρ : Nat → Nat) (n r : Nat) : Nat → Nat := fun b => if b < n then ρ b else r
theorem ext_lt {n b : Nat} (h : b < n) : ext ρ n r b = ρ b := if_pos h
theorem ext_ge {n b : Nat} (h : n ≤ b) : ext ρ n r b = r := if_neg (by omega)
/-- blocks of the roles R are as they were, and keep their roles -/
structure Mv (R : Nat → Prop) (ρ ρ' : Nat → Nat) (w w' : World) : Prop where
  os : w'.os = w.os
  output : w'.output = w.output
  size : w.heap.size ≤ w'.heap.size
  bl : ∀ b, b < w.heap.size → R (ρ b) → ρ' b = ρ b ∧ w'.heap[b]? = w.heap[b]?
theorem Mv.refl (ρ : Nat → Nat) (w : World) : Mv R ρ ρ w w := ⟨rfl, rfl, Nat.le_refl _, fun _ _ _ => ⟨rfl, rfl⟩⟩
theorem Mv.trans (h : Mv R ρ ρ1 w w1) (k : Mv R ρ1 ρ' w1 w') : Mv R ρ ρ' w w' :=
  ⟨k.os.trans h.os, k.output.trans h.output, Nat.le_trans h.size k.size, fun b hb hr => by
    obtain ⟨a1, a2⟩ := h.bl b hb hr
    obtain ⟨b1, b2⟩ := k.bl b (Nat.lt_of_lt_of_le hb h.size) (by rw [a1]; exact hr)
    exact ⟨b1.trans a1, b2.trans a2⟩⟩
theorem Mv.mono (h : Mv R ρ ρ' w w') (hr : ∀ r, R' r → R r) : Mv R' ρ ρ' w w' := ⟨h.os, h.output, h.size, fun b hb k => h.bl b hb (hr _ k)⟩
theorem Mv.ofUp (ρ : Nat → Nat) (u : Up w w') (r : Nat) : Mv R ρ (ext ρ w.heap.size r) w w' := ⟨u.os, u.output, u.size, fun b hb _ => ⟨ext_lt hb, u.block b hb⟩⟩
theorem Mv.ofFK (f : FK (Kr ρ r w) w w') : Mv (fun x => x ≠ r) ρ (ext ρ w.heap.size r) w w' := ⟨f.os, f.output, f.size, fun b hb hr => ⟨ext_lt hb, f.block b hb ⟨hb, hr⟩⟩⟩
theorem Mv.ofFr {b : Nat} (f : Fr b w w') (hb : ρ b = r) (r' : Nat) : Mv (fun x => x ≠ r) ρ (ext ρ w.heap.size r') w w' := ⟨f.os, f.output, f.size, fun c hc hr => ⟨ext_lt hc, f.block c hc (fun e => hr (e ▸ hb))⟩⟩
theorem Mv.up (m : Mv R ρ ρ' w w') (u : Up W w) (h0 : ∀ b, b < W.heap.size → ρ b = 0) (hR : R 0) : Up W w' :=
  ⟨m.os.trans u.os, m.output.trans u.output, Nat.le_trans u.size m.size, fun b hb => ((m.bl b (Nat.lt_of_lt_of_le hb u.size) (by rw [h0 b hb]; exact hR)).2).trans (u.block b hb)⟩
theorem Mv.cell {b k : Nat} {v : Value} (m : Mv R ρ ρ' w w') (hr : R (ρ b)) (hc : w.cell? ⟨b, k, none⟩ = some v) : w'.cell? ⟨b, k, none⟩ = some v := by
  rw [← hc]
  unfold World.cell?
  rw [(m.bl b (World.block_lt_of_cell? _ _ hc) hr).2]
theorem StAt.mv (h : StAt (Kr ρ r w) w sb S) (m : Mv R ρ ρ' w w') (hr : R r) : StAt (Kr ρ' r w') w' sb S := by
  obtain ⟨A, h⟩ := h
  have own : ∀ b, Ours sb A b → b < w.heap.size ∧ ρ b = r := fun b hb => ⟨h.lt hb, Classical.byContradiction fun e => h.kn b ⟨h.lt hb, e⟩ hb⟩
  refine ⟨A, h.keep (fun b hb ho => ?_) (fun b hb => hb.1) (fun b hb => (m.bl b (own b hb).1 (by rw [(own b hb).2]; exact hr)).2)⟩
  have q := own b ho
  exact hb.2 ((m.bl b q.1 (by rw [q.2]; exact hr)).1.trans q.2)
theorem RfAt.mv (h : RfAt (Kr ρ r w) w sb S) (m : Mv R ρ ρ' w w') (hr : R r) : RfAt (Kr ρ' r w') w' sb S := by
  obtain ⟨A, h⟩ := h
  have own : ∀ b, OurR sb A b → b < w.heap.size ∧ ρ b = r := fun b hb => ⟨h.lt hb, Classical.byContradiction fun e => h.kn b ⟨h.lt hb, e⟩ hb⟩
  refine ⟨A, h.keep (fun b hb ho => ?_) (fun b hb => hb.1) (fun b hb => (m.bl b (own b hb).1 (by rw [(own b hb).2]; exact hr)).2)⟩
  have q := own b ho
  exact hb.2 ((m.bl b q.1 (by rw [q.2]; exact hr)).1.trans q.2)
theorem StAt.less {K K' : Nat → Prop} (h : StAt K' w sb S) (hk : ∀ b, K b → K' b) : StAt K w sb S := by
  obtain ⟨A, h⟩ := h
  exact ⟨A, h.keep (fun b hb => h.kn b (hk b hb)) (fun b hb => h.kb b (hk b hb)) (fun _ _ => rfl)⟩
theorem RfAt.less {K K' : Nat → Prop} (h : RfAt K' w sb S) (hk : ∀ b, K b → K' b) : RfAt K w sb S := by
  obtain ⟨A, h⟩ := h
  exact ⟨A, h.keep (fun b hb => h.kn b (hk b hb)) (fun b hb => h.kb b (hk b hb)) (fun _ _ => rfl)⟩
theorem kr_self {b : Nat} (hb : Kr (ext ρ w.heap.size r) r w' b) : Kr ρ r w b := by
  by_cases hlt : b < w.heap.size
  · exact ⟨hlt, fun e => hb.2 (by rw [ext_lt hlt]; exact e)⟩
  · exact absurd (ext_ge (by omega)) hb.2
theorem kr_new {b : Nat} (hb : Kr (ext ρ w.heap.size r) r w' b) : b < w.heap.size := (kr_self hb).1
/-- the bytes of a store -/
structure Sto.Gd (S : Sto) : Prop where
  ok : S.now = syncN S.pend S.safe S.pend.length
  s8 : ∀ k, 0 ≤ S.safe k ∧ S.safe k ≤ 255
  p8 : ∀ x ∈ S.pend, ∀ k, 0 ≤ x.2 k ∧ x.2 k ≤ 255
theorem syncN_app (l : List PW) (x : PW) (f : Nat → Int) : ∀ i, i ≤ l.length → syncN (l ++ [x]) f i = syncN l f i
  | 0, _ => rfl
  | i + 1, h => by
    have h1 : l[i]? = some (l[i]'(by omega)) := List.getElem?_eq_getElem (by omega)
    have h2 : (l ++ [x])[i]? = some (l[i]'(by omega)) := by rw [List.getElem?_append_left (by omega)]; exact h1
    rw [syncN_succ h1, syncN_succ h2, syncN_app l x f i (by omega)]
theorem putF_b {f h : Nat → Int} {o m : Nat} (h1 : ∀ k, 0 ≤ f k ∧ f k ≤ 255) (h2 : ∀ k, 0 ≤ h k ∧ h k ≤ 255) (k : Nat) : 0 ≤ putF f o m h k ∧ putF f o m h k ≤ 255 := by
  unfold putF
  split
  · exact h2 _
  · exact h1 _
theorem syncN_b {l : List PW} {f : Nat → Int} (h1 : ∀ k, 0 ≤ f k ∧ f k ≤ 255) (h2 : ∀ x ∈ l, ∀ k, 0 ≤ x.2 k ∧ x.2 k ≤ 255) : ∀ i k, 0 ≤ syncN l f i k ∧ syncN l f i k ≤ 255
  | 0, k => h1 k
  | i + 1, k => by
    rcases e : l[i]? with _ | x
    · show 0 ≤ (match l[i]? with | some x => putF (syncN l f i) (512 * x.1) 512 x.2 | none => syncN l f i) k ∧ (match l[i]? with | some x => putF (syncN l f i) (512 * x.1) 512 x.2 | none => syncN l f i) k ≤ 255
      rw [e]
      exact syncN_b h1 h2 i k
    · rw [syncN_succ e]
      exact putF_b (syncN_b h1 h2 i) (h2 x (List.mem_of_getElem? e)) k
theorem crashN_b {pk : Nat → Int} {l : List PW} {f : Nat → Int} (h1 : ∀ k, 0 ≤ f k ∧ f k ≤ 255) (h2 : ∀ x ∈ l, ∀ k, 0 ≤ x.2 k ∧ x.2 k ≤ 255) : ∀ i k, 0 ≤ crashN pk l f i k ∧ crashN pk l f i k ≤ 255
  | 0, k => h1 k
  | i + 1, k => by
    rcases e : l[i]? with _ | x
    · show 0 ≤ (match l[i]? with | some x => tear (crashN pk l f i) x (pk i) | none => crashN pk l f i) k ∧ (match l[i]? with | some x => tear (crashN pk l f i) x (pk i) | none => crashN pk l f i) k ≤ 255
      rw [e]
      exact crashN_b h1 h2 i k
    · rw [crashN_succ e]
      exact putF_b (crashN_b h1 h2 i) (fun j => h2 x (List.mem_of_getElem? e) _) k
theorem Sto.Gd.n8 (h : S.Gd) (k : Nat) : 0 ≤ S.now k ∧ S.now k ≤ 255 := by rw [h.ok]; exact syncN_b h.s8 h.p8 _ k
theorem Sto.Gd.fresh {n : Nat} {f : Nat → Int} (h : ∀ k, 0 ≤ f k ∧ f k ≤ 255) : (Sto.fresh n f).Gd := ⟨rfl, h, fun _ hx => by cases hx⟩
theorem Sto.Gd.wrote (h : S.Gd) (i : Nat) {fd : Nat → Int} (hf : ∀ k, 0 ≤ fd k ∧ fd k ≤ 255) : (S.wrote i fd).Gd := by
  refine ⟨?_, h.s8, fun x hx => ?_⟩
  · show putF S.now (512 * i) 512 fd = syncN (S.pend ++ [(i, fd)]) S.safe (S.pend ++ [(i, fd)]).length
    have h1 : (S.pend ++ [(i, fd)])[S.pend.length]? = some (i, fd) := by rw [List.getElem?_append_right (Nat.le_refl _), Nat.sub_self]; rfl
    rw [List.length_append, show [(i, fd)].length = 1 from rfl, syncN_succ h1, syncN_app _ _ _ _ (Nat.le_refl _), ← h.ok]
  · rcases List.mem_append.1 (show x ∈ S.pend ++ [(i, fd)] from hx) with q | q
    · exact h.p8 x q
    · rw [List.mem_singleton.1 q]; exact hf
theorem Sto.Gd.synced (h : S.Gd) : S.synced.Gd := ⟨h.ok, fun k => syncN_b h.s8 h.p8 _ k, fun _ hx => by cases hx⟩
theorem Sto.Gd.limit (h : S.Gd) (x : Int) : (S.limit x).Gd := ⟨h.ok, h.s8, h.p8⟩
theorem fillF_b (v : Int) (k : Nat) : 0 ≤ fillF v k ∧ fillF v k ≤ 255 := by unfold fillF; omega
end Go.Proofs.Ytekffilokdmfgaa
