/- Arena: one act on its way. -/
import Derived.Test.YteijdcidemajfaaAtA
namespace Go.Proofs.Yteijdcidemajfaa
open Go.RowKit
set_option linter.unusedVariables false
variable {K K' O : Nat → Prop} {w w' W : World} {pb : Nat} {P P' : Pl} {lv bv : Value} {ll bl : List Loan}
/-- what stays the same throughout an act -/
structure Cx where
  W : World
  w0 : World
  K0 : Nat → Prop
  O0 : Nat → Prop
  pb : Nat
  i : Nat
  hb : Nat
  ab : Nat
  rb : Nat
  av : Array Value
/-- blocks of the act's own -/
def Cx.own (C : Cx) (b : Nat) : Prop := b = C.hb ∨ b = C.ab ∨ b = C.rb
structure Ax (C : Cx) (P : Pl) (lv bv : Value) (ll bl : List Loan) (w : World) : Prop where
  at' : ∃ K O, Pb C.W K C.pb P w ∧ Ht O w lv bv ll bl ∧ (∀ b, O b → K b ∧ C.W.heap.size ≤ b) ∧ (∀ b, C.own b → K b ∧ ¬ O b) ∧ (∀ b, O b → C.O0 b ∨ C.w0.heap.size ≤ b) ∧ (∀ b, C.K0 b → K b)
  bh : w.heap[C.hb]? = some (.cells #[.int .i64 (C.i : Int), lv, bv] 56 (0, 0))
  ba : w.heap[C.ab]? = some (.cells C.av 60 (0, 0))
  br : w.heap[C.rb]? = some (.cells #[.int .i64 0, .slice none 0 0, .slice none 0 0] 56 (0, 0))
  fk : FK (fun b => C.K0 b ∧ ¬ C.O0 b) C.w0 w
  z : ∀ b, C.own b → C.w0.heap.size ≤ b
  zw : C.W.heap.size ≤ C.w0.heap.size
  k0 : ∀ b, C.K0 b → b < C.w0.heap.size
  d1 : C.hb ≠ C.ab
  d2 : C.hb ≠ C.rb
  d3 : C.ab ≠ C.rb
variable {C : Cx}
theorem Ax.up (h : Ax C P lv bv ll bl w) : Up C.W w := by
  obtain ⟨K, O, h1, _⟩ := h.at'
  exact h1.up
theorem Ax.more (h : Ax C P lv bv ll bl w) (u : Up w w') : Ax C P lv bv ll bl w' := by
  obtain ⟨K, O, h1, h2, h3⟩ := h.at'
  exact ⟨⟨K, O, h1.more u, h2.same (fun b hb _ => u.block b hb), h3⟩, (u.block _ (heap_at h.bh)).trans h.bh, (u.block _ (heap_at h.ba)).trans h.ba, (u.block _ (heap_at h.br)).trans h.br, h.fk.trans (FK.ofUp u), h.z, h.zw, h.k0, h.d1, h.d2, h.d3⟩
/-- a call on the pool -/
theorem Ax.pool {f : Nat} {args : Array Value} {Q : Ending → Prop} (h : Ax C P lv bv ll bl w) (c : ∀ K, Pb C.W K C.pb P w → Calls Try.prog f args w fun e w' => Q e ∧ (∃ P', P' = P' ∧ Pb C.W K C.pb P' w') ∧ FK K w w') :
    Calls Try.prog f args w fun e w' => Q e ∧ ∃ P', Ax C P' lv bv ll bl w' := by
  obtain ⟨K, O, h1, h2, h3, h4, h5, h6⟩ := h.at'
  refine (c K h1).mono fun e w' ⟨q1, ⟨P', _, q2⟩, q3⟩ => ⟨q1, P', ⟨K, O, q2, h2.same (fun b hb ho => q3.block b hb (h3 b ho).1), h3, h4, h5, h6⟩, ?_, ?_, ?_, ?_, h.z, h.zw, h.k0, h.d1, h.d2, h.d3⟩
  · exact (q3.block _ (heap_at h.bh) (h4 _ (Or.inl rfl)).1).trans h.bh
  · exact (q3.block _ (heap_at h.ba) (h4 _ (Or.inr (Or.inl rfl))).1).trans h.ba
  · exact (q3.block _ (heap_at h.br) (h4 _ (Or.inr (Or.inr rfl))).1).trans h.br
  · exact h.fk.trans (q3.mono (fun b _ hb => h6 b hb.1))
/-- .. whose new state is known -/
theorem Ax.poolP {f : Nat} {args : Array Value} {Q : Ending → Pl → Prop} (h : Ax C P lv bv ll bl w) (c : ∀ K, Pb C.W K C.pb P w → Calls Try.prog f args w fun e w' => (∃ P', Q e P' ∧ Pb C.W K C.pb P' w') ∧ FK K w w') :
    Calls Try.prog f args w fun e w' => ∃ P', Q e P' ∧ Ax C P' lv bv ll bl w' := by
  obtain ⟨K, O, h1, h2, h3, h4, h5, h6⟩ := h.at'
  refine (c K h1).mono fun e w' ⟨⟨P', q1, q2⟩, q3⟩ => ⟨P', q1, ⟨K, O, q2, h2.same (fun b hb ho => q3.block b hb (h3 b ho).1), h3, h4, h5, h6⟩, ?_, ?_, ?_, ?_, h.z, h.zw, h.k0, h.d1, h.d2, h.d3⟩
  · exact (q3.block _ (heap_at h.bh) (h4 _ (Or.inl rfl)).1).trans h.bh
  · exact (q3.block _ (heap_at h.ba) (h4 _ (Or.inr (Or.inl rfl))).1).trans h.ba
  · exact (q3.block _ (heap_at h.br) (h4 _ (Or.inr (Or.inr rfl))).1).trans h.br
  · exact h.fk.trans (q3.mono (fun b _ hb => h6 b hb.1))
/-- a change of what is the law's own: c is the one older block that may change besides the box -/
theorem Ax.change {lv' bv' : Value} {ll' bl' : List Loan} {oc : Option Nat} (h : Ax C P lv bv ll bl w) (sz : w.heap.size ≤ w'.heap.size) (os : w'.os = w.os) (op : w'.output = w.output)
    (gr : ∀ b, b < w.heap.size → oc ≠ some b → b ≠ C.hb → w'.heap[b]? = w.heap[b]?) (bh : w'.heap[C.hb]? = some (.cells #[.int .i64 (C.i : Int), lv', bv'] 56 (0, 0)))
    (ho : ∀ O, Ht O w lv bv ll bl → Ht (fun b => O b ∨ (w.heap.size ≤ b ∧ b < w'.heap.size)) w' lv' bv' ll' bl') (hc : ∀ O, Ht O w lv bv ll bl → ∀ b, oc = some b → O b) : Ax C P lv' bv' ll' bl' w' := by
  obtain ⟨K, O, h1, h2, h3, h4, h5, h6⟩ := h.at'
  have hbK := h4 C.hb (Or.inl rfl)
  have hwb : C.w0.heap.size ≤ w.heap.size := h.fk.size
  have hlt : ∀ b, C.own b → b < w.heap.size := fun b hb => by
    rcases hb with rfl | rfl | rfl
    · exact heap_at h.bh
    · exact heap_at h.ba
    · exact heap_at h.br
  have hupW : Up C.W w' := ⟨os.trans h1.up.os, op.trans h1.up.output, Nat.le_trans h1.up.size sz, fun b hb => (gr b (Nat.lt_of_lt_of_le hb h1.up.size) (fun e => by have := (h3 b (hc O h2 b e)).2; omega) (fun e => by have := h.z C.hb (Or.inl rfl); have := h.zw; omega)).trans (h1.up.block b hb)⟩
  refine ⟨⟨fun b => K b ∨ (w.heap.size ≤ b ∧ b < w'.heap.size), fun b => O b ∨ (w.heap.size ≤ b ∧ b < w'.heap.size), ⟨?_, h1.ok, hupW, fun b hb => Or.inl (h1.ko b hb)⟩, ho O h2, fun b hb => ?_, fun b hb => ⟨Or.inl (h4 b hb).1, fun e => ?_⟩, fun b hb => ?_, fun b hb => Or.inl (h6 b hb)⟩, bh, ?_, ?_, ?_, h.z, h.zw, h.k0, h.d1, h.d2, h.d3⟩
  · obtain ⟨R, A, hp⟩ := h1.at'
    refine ⟨R, A, hp.same sz (fun b r hr => gr b (hp.lt b r hr) (fun e => ?_) (fun e => ?_)) (fun b hb => ?_) (fun b hb => ?_)⟩
    · have := hp.kn b (h3 b (hc O h2 b e)).1
      rw [this] at hr
      cases hr
    · have := hp.kn b (e ▸ hbK.1)
      rw [this] at hr
      cases hr
    · rcases hb with e | e
      · exact hp.kn b e
      · cases hr : R b with
        | none => rfl
        | some r => have := hp.lt b r hr; omega
    · rcases hb with e | e
      · exact Nat.lt_of_lt_of_le (hp.kb b e) sz
      · exact e.2
  · rcases hb with e | e
    · exact ⟨Or.inl (h3 b e).1, (h3 b e).2⟩
    · exact ⟨Or.inr e, Nat.le_trans h1.up.size e.1⟩
  · rcases e with e | e
    · exact (h4 b hb).2 e
    · have := hlt b hb
      omega
  · rcases hb with e | e
    · exact h5 b e
    · exact Or.inr (by omega)
  · exact (gr _ (heap_at h.ba) (fun e => (h4 C.ab (Or.inr (Or.inl rfl))).2 (hc O h2 _ e)) (fun e => h.d1 e.symm)).trans h.ba
  · exact (gr _ (heap_at h.br) (fun e => (h4 C.rb (Or.inr (Or.inr rfl))).2 (hc O h2 _ e)) (fun e => h.d2 e.symm)).trans h.br
  · refine h.fk.trans ⟨os, op, sz, fun b hb hk => ?_⟩
    by_cases hbw : b < C.w0.heap.size
    · refine gr b hb (fun e => ?_) (fun e => by have := h.z C.hb (Or.inl rfl); omega)
      rcases h5 b (hc O h2 b e) with e2 | e2
      · exact hk.2 e2
      · omega
    · have := h.k0 b hk.1
      omega
end Go.Proofs.Yteijdcidemajfaa
