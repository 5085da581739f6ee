/- Arena: where a loan stands among the others; a call of the pool with a list of one's own. -/
import Derived.Test.YteijdcidemajfaaAtH
namespace Go.Proofs.Yteijdcidemajfaa
open Go.RowKit
set_option linter.unusedVariables false
variable {K K' O : Nat → Prop} {w w' W : World} {pb n : Nat} {P P' : Pl} {lv bv : Value} {ll bl hl L : List Loan} {C : Cx} {q : Int}
theorem lent_sub {ars : List (Option Arn)} {i c : Nat} {a : Option Arn} (h : ars[i]? = some a) : (lentOf c a).Sublist (lent ars c) := by
  unfold lent
  induction ars generalizing i with
  | nil => simp at h
  | cons x r ih =>
    rw [List.flatMap_cons]
    cases i with
    | zero =>
      simp at h
      subst h
      exact List.sublist_append_left _ _
    | succ i =>
      exact (ih (i := i) (by simpa using h)).trans (List.sublist_append_right _ _)
theorem buf_range {i k : Nat} {a : Arn} {m : Loan} (ok : Ok P) (ha : P.ars[i]? = some (some a)) (hk : a.loans[k]? = some m) {x : Cls} (hx : P.cls[m.cls]? = some x) : x.start ≤ m.buf ∧ m.buf < x.start + x.many := by
  have hmem : m.buf ∈ lent P.ars m.cls := (lent_sub ha).subset (by
    unfold lentOf
    exact List.mem_map.2 ⟨m, List.mem_filter.2 ⟨List.mem_of_getElem? hk, by simp⟩, rfl⟩)
  have := (ok.pm _ x hx).subset (List.mem_append_right _ hmem)
  rw [List.mem_range'_1] at this
  exact this
theorem place_at {i k : Nat} {a : Arn} {m : Loan} (ok : Ok P) (hc : Cs n P) (ha : P.ars[i]? = some (some a)) (hk : a.loans[k]? = some m) : a.place (m.buf : Int) = k := by
  unfold Arn.place
  refine findIdx_hit hk (by simp) fun j y hj hy => ?_
  refine beq_eq_false_iff_ne.2 fun e => ?_
  have e : y.buf = m.buf := by omega
  obtain ⟨xm, hxm, _⟩ := ok.ln i a m ha (List.mem_of_getElem? hk)
  obtain ⟨xy, hxy, _⟩ := ok.ln i a y ha (List.mem_of_getElem? hy)
  have rm := buf_range ok ha hk hxm
  have ry := buf_range ok ha hy hxy
  have hcl : m.cls = y.cls := by
    obtain ⟨F0, F1, ec⟩ := hc
    rw [ec] at hxm hxy
    have b1 : m.cls < 2 := by have := (List.getElem?_eq_some_iff.1 hxm).1; simpa using this
    have b2 : y.cls < 2 := by have := (List.getElem?_eq_some_iff.1 hxy).1; simpa using this
    have h1 : m.cls = 0 ∨ m.cls = 1 := by omega
    have h2 : y.cls = 0 ∨ y.cls = 1 := by omega
    rcases h1 with h1 | h1 <;> rcases h2 with h2 | h2 <;> rw [h1] at hxm <;> rw [h2] at hxy <;> simp at hxm hxy <;> subst hxm hxy <;> (try omega)
    all_goals (simp only at rm ry; omega)
  have hnd : (lentOf m.cls (some a)).Nodup := by
    have h1 : (List.range' xm.start xm.many).Nodup := List.nodup_range'
    have h2 := (ok.pm _ xm hxm).nodup_iff.2 h1
    exact (lent_sub ha).nodup (List.nodup_append.1 h2).2.1
  unfold lentOf at hnd
  unfold List.Nodup at hnd
  rw [List.pairwise_map, List.pairwise_filter] at hnd
  have hkl := (List.getElem?_eq_some_iff.1 hk)
  have hjl := (List.getElem?_eq_some_iff.1 hy)
  obtain ⟨k1, k2⟩ := hkl
  obtain ⟨j1, j2⟩ := hjl
  have := (List.pairwise_iff_getElem.1 hnd) j k j1 k1 hj
  rw [k2, j2] at this
  exact this (by simp [hcl]) (by simp) e
/-- a call on the pool with lists that were made just now -/
theorem Ax.poolL {f : Nat} {args : Array Value} {Q : Ending → Pl → Prop} {w1 : World} (h : Ax C P lv bv ll bl w1) (u : Up w1 w) (c : ∀ K : Nat → Prop, (∀ b, w1.heap.size ≤ b → b < w.heap.size → K b) → Pb C.W K C.pb P w → Calls Try.prog f args w fun e w' => (∃ P', Q e P' ∧ Pb C.W K C.pb P' w') ∧ FK K w w') :
    Calls Try.prog f args w fun e w' => ∃ P', Q e P' ∧ Ax C P' lv bv ll bl w' := by
  obtain ⟨K, O, h1, h2, h3, h4, h5, h6⟩ := h.at'
  have A2 := h.more u
  have p2 : Pb C.W (fun b => K b ∨ (w1.heap.size ≤ b ∧ b < w.heap.size)) C.pb P w := h1.moreK u (fun b hb => hb) (fun b hb => Or.inl (h1.ko b hb))
  have h22 := h2.same (w' := w) (fun b hb _ => u.block b hb)
  refine (c _ (fun b h1 h2 => Or.inr ⟨h1, h2⟩) p2).mono fun e w' ⟨⟨P', q1, q2⟩, q3⟩ => ⟨P', q1, ⟨⟨_, O, q2, h22.same (fun b hb ho => q3.block b hb (Or.inl (h3 b ho).1)), fun b hb => ⟨Or.inl (h3 b hb).1, (h3 b hb).2⟩, fun b hb => ⟨Or.inl (h4 b hb).1, (h4 b hb).2⟩, h5, fun b hb => Or.inl (h6 b hb)⟩, ?_, ?_, ?_, ?_, h.z, h.zw, h.k0, h.d1, h.d2, h.d3⟩⟩
  · exact (q3.block _ (heap_at A2.bh) (Or.inl (h4 _ (Or.inl rfl)).1)).trans A2.bh
  · exact (q3.block _ (heap_at A2.ba) (Or.inl (h4 _ (Or.inr (Or.inl rfl))).1)).trans A2.ba
  · exact (q3.block _ (heap_at A2.br) (Or.inl (h4 _ (Or.inr (Or.inr rfl))).1)).trans A2.br
  · exact A2.fk.trans (q3.mono (fun b _ hb => Or.inl (h6 b hb.1)))
/-- the k-th of what is held, as it stands -/
theorem Ax.kth {va ua : Option Addr} {vn vc un uc k : Nat} {l : Loan} (h : Ax C P (.slice va vn vc) (.slice ua un uc) hl hl w) (hk : hl[k]? = some l) : ∃ lg ug, va = some ⟨lg, 0, none⟩ ∧ ua = some ⟨ug, 0, none⟩ ∧ w.cell? ⟨lg, k * 3, none⟩ = some (.int .i64 (l.buf : Int)) ∧ w.cell? ⟨lg, k * 3 + 1, none⟩ = some (.int .i64 (l.cls : Int)) ∧ w.cell? ⟨lg, k * 3 + 2, none⟩ = some (.int .i64 (l.size : Int)) ∧ w.cell? ⟨ug, k, none⟩ = some (.slice (some ⟨l.blk, 0, none⟩) l.size l.size) ∧ NmAt w l.blk l.size l.f := by
  obtain ⟨K, O, _, h2, _⟩ := h.at'
  have hkl := (List.getElem?_eq_some_iff.1 hk).1
  obtain ⟨lg, c1, e1, _⟩ : ∃ g cap, (Value.slice va vn vc) = .slice (some ⟨g, 0, none⟩) hl.length cap ∧ hl.length ≤ cap := by
    rcases own_cases h2.lo with ⟨hv, hn0, _⟩ | ⟨g, cap, hv, hc, _⟩
    · omega
    · exact ⟨g, cap, hv, hc⟩
  obtain ⟨ug, c2, e2, _⟩ : ∃ g cap, (Value.slice ua un uc) = .slice (some ⟨g, 0, none⟩) hl.length cap ∧ hl.length ≤ cap := by
    rcases own_cases h2.bo with ⟨hv, hn0, _⟩ | ⟨g, cap, hv, hc, _⟩
    · omega
    · exact ⟨g, cap, hv, hc⟩
  have lo := h2.lo
  have bo := h2.bo
  rw [e1] at lo
  rw [e2] at bo
  injection e1 with e1 _ _
  injection e2 with e2 _ _
  have lc : ∀ r, r < 3 → w.cell? ⟨lg, k * 3 + r, none⟩ = l.lease[r]? := fun r hr => by
    have := own_cell lo (k * 3 + r) (by omega)
    rw [Nat.zero_add] at this
    rw [this]
    exact leaseCells_at hl k r l hk hr
  refine ⟨lg, ug, e1, e2, lc 0 (by decide), lc 1 (by decide), lc 2 (by decide), ?_, h2.by' l (List.mem_of_getElem? hk)⟩
  have := own_cell bo k (by omega)
  rw [Nat.zero_add] at this
  rw [this]
  exact byteCells_at hk
end Go.Proofs.Yteijdcidemajfaa
