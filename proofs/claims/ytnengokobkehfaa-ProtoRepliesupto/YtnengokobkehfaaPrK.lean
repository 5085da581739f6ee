/- Proto: messages and replies out of what a frame tells. -/
import Derived.Test.YtnengokobkehfaaPrJ
namespace Go.Proofs.Ytnengokobkehfaa
open Go.RowKit
set_option linter.unusedVariables false
variable {w w' W : World}
/-- a list of bytes as it lies in memory, in a block that P lets -/
structure BsP (P : Nat → Prop) (w : World) (v : Value) (l : List Int) : Prop where
  ex : ∃ a g o c, v = .slice a l.length c ∧ l.length ≤ c ∧ c ≤ maxLen ∧ (0 < l.length → a = some ⟨g, o, none⟩ ∧ P g) ∧ ∀ k x, l[k]? = some x → w.cell? ⟨g, o + k, none⟩ = some (.int .u8 x)
  u8 : L8 l
theorem Bs.bsp {P : Nat → Prop} {lo : Nat} {v : Value} {l : List Int} (h : Bs lo w v l) (hp : ∀ b, lo ≤ b → b < w.heap.size → P b) : BsP P w v l := by
  obtain ⟨a, g, o, c, h1, h2, h3, h4, h5⟩ := h.ex
  refine ⟨⟨a, g, o, c, h1, h2, h3, fun h0 => ⟨(h4 h0).1, hp g (h4 h0).2 ?_⟩, h5⟩, h.u8⟩
  exact World.block_lt_of_cell? _ _ (h5 0 _ (List.getElem?_eq_getElem h0))
theorem BsP.keep {P P' : Nat → Prop} {v : Value} {l : List Int} (h : BsP P w v l) (u : ∀ b, P b → b < w.heap.size → w'.heap[b]? = w.heap[b]? ∧ P' b) : BsP P' w' v l := by
  obtain ⟨a, g, o, c, h1, h2, h3, h4, h5⟩ := h.ex
  have hl : ∀ k x, l[k]? = some x → 0 < l.length ∧ g < w.heap.size := fun k x hk => ⟨by have := (List.getElem?_eq_some_iff.1 hk).1; omega, World.block_lt_of_cell? _ _ (h5 k x hk)⟩
  refine ⟨⟨a, g, o, c, h1, h2, h3, fun h0 => ?_, fun k x hk => ?_⟩, h.u8⟩
  · have := hl 0 _ (List.getElem?_eq_getElem h0)
    exact ⟨(h4 h0).1, (u g (h4 h0).2 this.2).2⟩
  · have h0 := hl k x hk
    have := (u g (h4 h0.1).2 h0.2).1
    rw [← h5 k x hk]
    unfold World.cell?
    rw [show (w'.heap[(⟨g, o + k, none⟩ : Addr).block]?) = w.heap[(⟨g, o + k, none⟩ : Addr).block]? from this]
theorem BsP.up {P : Nat → Prop} {v : Value} {l : List Int} (h : BsP P w v l) (u : Up w w') : BsP P w' v l := h.keep fun b hp hb => ⟨u.block b hb, hp⟩
theorem BsP.bs {P : Nat → Prop} {v : Value} {l : List Int} (h : BsP P w v l) : Bs 0 w v l := by
  obtain ⟨a, g, o, c, h1, h2, h3, h4, h5⟩ := h.ex
  exact ⟨⟨a, g, o, c, h1, h2, h3, fun h0 => ⟨(h4 h0).1, Nat.zero_le _⟩, h5⟩, h.u8⟩
theorem BsP.one {P : Nat → Prop} {v : Value} {l : List Int} (h : BsP P w v l) : v.oneCell' = true := h.bs.one
theorem Dt.le {g O N N' : Nat} {f : Nat → Int} (h : Dt w g O N f) (hN : N' ≤ N) : Dt w g O N' f := ⟨fun k hk => h.cell k (by omega), h.u8⟩
/-- a message, a reply, as they lie in memory -/
def mC (c : C) (d : Value) : List Value := [.int .i64 c.kind, .int .i64 c.tenant.num, .string (strOfNums c.name.bs), .int .i64 c.n.num, d]
def rC (c : C) (d : Value) : List Value := [.int .i64 c.kind, .int .i64 c.n.num, .int .i64 c.m.num, d]
set_option maxRecDepth 100000 in
set_option maxHeartbeats 600000 in
theorem messageOf_any {c : C} {u : Fld → Value} {lo : Nat} (w : World) (h : BsC lo w u c) :
    Calls Try.prog 20 #[.agg (cCells c u)] w fun e w' => e = .returned (.agg (mC c (u .data)).toArray) ∧ Up w w' := by
  have HH : Hid (BsC lo w u c) := h
  obtain ⟨na, ng, no, nc, hn, _⟩ := (h .name).ex
  obtain ⟨da, dg, do_, dc, hd, _⟩ := (h .data).ex
  clear h
  have HN : Hid (u .name = .slice na (c.get .name).bs.length nc) := hn
  unfold cCells mC
  have HC : Hid (∀ w', Up w w' → (convert 22 9 (u .name)).run Try.prog w' = .ok (.string (strOfNums c.name.bs)) w') := fun w' u' => (HH.out.up u' .name).conv
  obtain ⟨s, hs⟩ : ∃ s, s = strOfNums c.name.bs := ⟨_, rfl⟩
  rw [← hs] at HC ⊢
  rw [hd, hn]
  rw [hn] at HC
  generalize (c.get .name).bs.length = nl at *
  generalize (c.get .data).bs.length = dl at *
  have HD : Hid _ := hd
  clear hn hd hs HN
  have hcv := fun o => HC.out (w.alloc o) ((Up.refl w).alloc o)
  have hcv2 := fun o o' => HC.out ((w.alloc o).alloc o') (((Up.refl w).alloc o).alloc o')
  go_enter Try.func20, Try.ntmps20
  go_wp2
  exact bodyPost_ret (results_row rfl _ _ (w.heap.size + 1) 35 #[.int .i64 c.kind, .int .i64 c.tenant.num, .string s, .int .i64 c.n.num, .slice da dl dc] (0, 0) _ rfl (heap_new1 _ _ (by simp)) Try.underlying35 (by kernel_rfl) (by kernel_rfl)) rfl ⟨rfl, ((Up.refl w).alloc _).alloc _⟩
set_option maxRecDepth 100000 in
set_option maxHeartbeats 600000 in
theorem replyOf_any {c : C} {u : Fld → Value} {lo : Nat} (w : World) (h : BsC lo w u c) :
    Calls Try.prog 27 #[.agg (cCells c u)] w fun e w' => e = .returned (.agg (rC c (u .data)).toArray) ∧ Up w w' := by
  obtain ⟨da, dg, do_, dc, hd, _⟩ := (h .data).ex
  clear h
  unfold cCells rC
  rw [hd]
  generalize (c.get .data).bs.length = dl at *
  have HD : Hid _ := hd
  clear hd
  go_enter Try.func27, Try.ntmps27
  go_wp2
  exact bodyPost_ret (results_row rfl _ _ (w.heap.size + 1) 44 #[.int .i64 c.kind, .int .i64 c.n.num, .int .i64 c.m.num, .slice da dl dc] (0, 0) _ rfl (heap_new1 _ _ (by simp)) Try.underlying44 (by kernel_rfl) (by kernel_rfl)) rfl ⟨rfl, ((Up.refl w).alloc _).alloc _⟩
end Go.Proofs.Ytnengokobkehfaa
