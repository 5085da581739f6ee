/- Proto: a decoder that is fed in pieces. -/
import Derived.Test.YtnengokobkehfaaPrS
namespace Go.Proofs.Ytnengokobkehfaa
open Go.RowKit
set_option linter.unusedVariables false
variable {w w' W : World}
theorem bl_drop (f : Nat → Int) (o n r : Nat) (h : r ≤ n) : (bl f o n).drop r = bl f (o + r) (n - r) := by
  have e : bl f o n = bl f o r ++ bl f (o + r) (n - r) := by rw [← bl_add]; congr 1; omega
  rw [e, List.drop_append_of_le_length (by rw [bl_len]; exact Nat.le_refl _), List.drop_of_length_le (by rw [bl_len]; exact Nat.le_refl _), List.nil_append]
theorem fn_bl (f : Nat → Int) (o n k : Nat) (h : k < n) : fn (bl f o n) k = f (o + k) := fn_at (bl_at h)
theorem map_append' (a b : List (C × Value)) : (a ++ b).map (·.1) = a.map (·.1) ++ b.map (·.1) := by simp
/-- one that is fed in pieces: so far at bytes of f, ry of them read -/
structure CutSt (W6 : World) (dy : Nat) (f : Nat → Int) (at_ ry : Nat) (fe : Int) (kv vy : Value) (rs : List (C × Value)) (w : World) : Prop where
  dec : Dec msgT f at_ 0 (rs.map (·.1)) ry fe
  st : (fe = 0 → Dcr w dy vy (bl f ry (at_ - ry)) false) ∧ (fe ≠ 0 → Dcr w dy vy [] true)
  rows : RowsM (fun b => W6.heap.size ≤ b ∧ kv.ownBlock ≠ some b ∧ vy.ownBlock ≠ some b) W6.heap.size w kv rs
  apart : ∀ b, kv.ownBlock = some b → vy.ownBlock ≠ some b
  new : ∀ b, vy.ownBlock = some b → W6.heap.size ≤ b ∧ b < w.heap.size
  os : w.os = W6.os
  output : w.output = W6.output
  size : W6.heap.size ≤ w.heap.size
  block : ∀ b, b < W6.heap.size → b ≠ dy → w.heap[b]? = W6.heap[b]?
  lt : dy < W6.heap.size
theorem CutSt.up {W6 : World} {dy : Nat} {f : Nat → Int} {at_ ry : Nat} {fe : Int} {kv vy : Value} {rs : List (C × Value)} (h : CutSt W6 dy f at_ ry fe kv vy rs w) (u : Up w w') : CutSt W6 dy f at_ ry fe kv vy rs w' :=
  ⟨h.dec, ⟨fun e => (h.st.1 e).up u, fun e => (h.st.2 e).up u⟩, h.rows.up u, h.apart, fun b hb => ⟨(h.new b hb).1, by have := (h.new b hb).2; have := u.size; omega⟩, u.os.trans h.os, u.output.trans h.output, Nat.le_trans h.size u.size, fun b hb hn => (u.block b (Nat.lt_of_lt_of_le hb h.size)).trans (h.block b hb hn), h.lt⟩
/-- what a Feed makes of it, ahead of the list's growing -/
structure CutMid (W6 : World) (dy : Nat) (f : Nat → Int) (at_ ry : Nat) (fe : Int) (kv vy lv : Value) (rs rs2 : List (C × Value)) (w : World) : Prop where
  dec : Dec msgT f at_ 0 ((rs ++ rs2).map (·.1)) ry fe
  st : (fe = 0 → Dcr w dy vy (bl f ry (at_ - ry)) false) ∧ (fe ≠ 0 → Dcr w dy vy [] true)
  rows : RowsM (fun b => W6.heap.size ≤ b ∧ kv.ownBlock ≠ some b ∧ vy.ownBlock ≠ some b) W6.heap.size w kv rs
  rows2 : RowsM (fun b => W6.heap.size ≤ b ∧ kv.ownBlock ≠ some b ∧ vy.ownBlock ≠ some b) W6.heap.size w lv rs2
  apart : ∀ b, kv.ownBlock = some b → vy.ownBlock ≠ some b
  new : ∀ b, vy.ownBlock = some b → W6.heap.size ≤ b ∧ b < w.heap.size
  os : w.os = W6.os
  output : w.output = W6.output
  size : W6.heap.size ≤ w.heap.size
  block : ∀ b, b < W6.heap.size → b ≠ dy → w.heap[b]? = W6.heap[b]?
  lt : dy < W6.heap.size
theorem RowsM.more {P P' : Nat → Prop} {base : Nat} {v : Value} {rs : List (C × Value)} (h : RowsM P base w v rs) (u : ∀ b, P b → b < w.heap.size → w'.heap[b]? = w.heap[b]? ∧ P' b) (uo : ∀ b, v.ownBlock = some b → w'.heap[b]? = w.heap[b]?) : RowsM P' base w' v rs :=
  ⟨ownsRow_block h.own uo, fun x hx => (h.dat x hx).keep u⟩
theorem Dcr.ofOwn {d : Nat} {v : Value} {l : List Int} {p : Bool} (h : Dcr w d v l p) (b : Nat) (hb : v.ownBlock = some b) : d + 1 ≤ b ∧ b < w.heap.size := h.own.lt b hb
theorem CutSt.fed {W6 : World} {dy : Nat} {f : Nat → Int} {at_ ry p r : Nat} {e : Int} {kv vy lv v' : Value} {rs rs2 : List (C × Value)} (h : CutSt W6 dy f at_ ry 0 kv vy rs w) (hF : Fed w dy vy (bl f ry (at_ - ry)) (bl f at_ p) lv e v' rs2 r w') : CutMid W6 dy f (at_ + p) (ry + r) e kv v' lv rs rs2 w' := by
  have hry : ry ≤ at_ := h.dec.le.2 (Nat.zero_le _)
  have e1 : bl f ry (at_ - ry) ++ bl f at_ p = bl f ry (at_ + p - ry) := by
    rw [show at_ + p - ry = (at_ - ry) + p by omega, bl_add, show ry + (at_ - ry) = at_ by omega]
  have hd := hF.dec
  rw [e1, bl_len] at hd
  have hr : r ≤ at_ + p - ry := hd.le.2 (Nat.zero_le _)
  have hd2 : Dec msgT f (at_ + p) ry (rs2.map (·.1)) (ry + r) e := by
    have := (hd.congr (g := fun k => f (ry + k)) (fun k hk => fn_bl f ry _ k hk)).shift
    rw [show ry + (at_ + p - ry) = at_ + p by omega, Nat.add_zero] at this
    exact this
  have hD := h.st.1 rfl
  have hvl : ∀ b, vy.ownBlock = some b → b < w.heap.size := fun b hb => (h.new b hb).2
  have hlt := h.lt
  have hsz := h.size
  have hv' : ∀ b, v'.ownBlock = some b → b < w.heap.size → vy.ownBlock = some b := fun b hb hb2 => by
    rcases hF.old b hb with e | e
    · exact e
    · omega
  have hkl : ∀ b, kv.ownBlock = some b → W6.heap.size ≤ b ∧ b < w.heap.size := fun b hb => h.rows.own.lt b hb
  refine ⟨by rw [map_append']; exact h.dec.join rfl (by omega) hd2, ⟨fun e0 => ?_, hF.st.2⟩, ?_, ?_, fun b hb hb' => ?_, fun b hb => ?_, hF.os.trans h.os, hF.output.trans h.output, Nat.le_trans h.size hF.size, fun b hb hn => ?_, h.lt⟩
  · have := hF.st.1 e0
    rw [e1, bl_drop _ _ _ _ hr, show at_ + p - ry - r = at_ + p - (ry + r) by omega] at this
    exact this
  · refine h.rows.more (fun b hb hb2 => ⟨hF.block b hb2 (by omega) hb.2.2, hb.1, hb.2.1, fun e' => hb.2.2 (hv' b e' hb2)⟩) (fun b hb => ?_)
    have := hkl b hb
    exact hF.block b this.2 (by omega) (h.apart b hb)
  · refine ⟨own_base hF.rows.own h.size, fun x hx => (hF.rows.dat x hx).keep fun b hb hb2 => ⟨rfl, by omega, fun e' => ?_, hb.2.2⟩⟩
    have := hkl b e'
    omega
  · have := hkl b hb
    exact h.apart b hb (hv' b hb' this.2)
  · rcases hF.old b hb with e' | e'
    · have := h.new b e'
      have := hF.size
      omega
    · refine ⟨by omega, ?_⟩
      by_cases e0 : e = 0
      · exact ((hF.st.1 e0).ofOwn b hb).2
      · exact ((hF.st.2 e0).ofOwn b hb).2
  · exact (hF.block b (by omega) hn (fun e' => by have := h.new b e'; omega)).trans (h.block b hb hn)
theorem CutMid.grown {W6 : World} {dy : Nat} {f : Nat → Int} {at_ ry : Nat} {fe : Int} {kv vy lv kv' : Value} {rs rs2 : List (C × Value)} (h : CutMid W6 dy f at_ ry fe kv vy lv rs rs2 w) (ho : w'.ownsRow W6.heap.size 35 5 kv' (rs.length + rs2.length) (mrC rs ++ mrC rs2)) (hg : w.grownBy w' kv.ownBlock) (hw : kv'.ownBlock = kv.ownBlock ∨ kv'.ownBlock = some w.heap.size) : CutSt W6 dy f at_ ry fe kv' vy (rs ++ rs2) w' := by
  have hkl : ∀ b, kv.ownBlock = some b → W6.heap.size ≤ b ∧ b < w.heap.size := fun b hb => h.rows.own.lt b hb
  have hlt := h.lt
  have hsz := h.size
  have hk' : ∀ b, b < w.heap.size → kv'.ownBlock = some b → kv.ownBlock = some b := fun b hb e => by
    rcases hw with e' | e'
    · rw [← e']; exact e
    · rw [e'] at e; injection e with e; omega
  have hkeep : ∀ b, (W6.heap.size ≤ b ∧ kv.ownBlock ≠ some b ∧ vy.ownBlock ≠ some b) → b < w.heap.size → w'.heap[b]? = w.heap[b]? ∧ (W6.heap.size ≤ b ∧ kv'.ownBlock ≠ some b ∧ vy.ownBlock ≠ some b) := fun b hb hb2 => ⟨hg.block b hb2 (fun e => hb.2.1 e.symm), hb.1, fun e => hb.2.1 (hk' b hb2 e), hb.2.2⟩
  have hdc : ∀ {l : List Int} {p : Bool}, Dcr w dy vy l p → Dcr w' dy vy l p := fun hD => ⟨(hg.block dy (by omega) (fun e => by have := hkl dy e.symm; omega)).trans hD.row, ownsRow_block hD.own (fun g hg' => hg.block g (hD.own.lt g hg').2 (fun e => h.apart g e.symm hg')), hD.u8⟩
  refine ⟨h.dec, ⟨fun e => hdc (h.st.1 e), fun e => hdc (h.st.2 e)⟩, ⟨?_, fun x hx => ?_⟩, fun b hb hb' => ?_, fun b hb => ?_, hg.os.trans h.os, hg.output.trans h.output, Nat.le_trans h.size hg.size, fun b hb hn => ?_, h.lt⟩
  · rw [List.length_append, show mrC (rs ++ rs2) = mrC rs ++ mrC rs2 by simp [mrC]]
    exact ho
  · rcases List.mem_append.1 hx with hx | hx
    · exact (h.rows.dat x hx).keep hkeep
    · exact (h.rows2.dat x hx).keep hkeep
  · have h1 := h.new b hb'
    exact h.apart b (hk' b h1.2 hb) hb'
  · have := h.new b hb
    have := hg.size
    omega
  · refine (hg.block b (by omega) (fun e => ?_)).trans (h.block b hb hn)
    have := hkl b e.symm
    omega
/-- a list of messages more -/
theorem wpList_append_msgs {w : World} {ops : Array Oper} {rest : List Oper} {o : Oper} {a : Act} {Q : Exit → Act → World → Prop} (hgd : o.guard = none) (s x : Operand)
    (ho : o.op = .call { callee := .builtin .append, args := #[s, x], argTypes := #[27, 27] })
    (base : Nat) (v : Value) (rs : List (C × Value)) (hs : a.eval s = v) (hown : w.ownsRow base 35 5 v rs.length (mrC rs)) (P : Nat → Prop) (b2 : Nat) (vx : Value) (rs2 : List (C × Value)) (hx : a.eval x = vx) (hox : RowsM P b2 w vx rs2)
    (h63 : rs.length + rs2.length ≤ 1099511627776) (hbase : base ≤ w.heap.size)
    (h : ∀ v' w', w'.ownsRow base 35 5 v' (rs.length + rs2.length) (mrC rs ++ mrC rs2) → w.grownBy w' v.ownBlock → (v'.ownBlock = v.ownBlock ∨ v'.ownBlock = some w.heap.size) → wpList Try.prog ops Q rest (a.put o.dst v') w') :
    wpList Try.prog ops Q (o :: rest) a w := by
  have hone : ∀ u ∈ mrC rs2, u.oneCell' = true := by
    intro u hu
    unfold mrC at hu
    obtain ⟨y, hy, hu⟩ := List.mem_flatMap.1 hu
    exact one_mC y.1 (hox.dat y hy).one u hu
  rcases own_cases hox.own with ⟨hv, hm, hn⟩ | ⟨g, cap, hv, hc, hm, hg, hgo⟩
  · have e : rs2 = [] := List.length_eq_zero_iff.1 hm
    subst e hv
    refine wpList_append_own_none hgd s x 27 ho base 35 Try.t35 5 Try.underlying27 (by kernel_rfl) v rs.length (mrC rs) hs hown hx (h v w ?_ ⟨rfl, rfl, rfl, Nat.le_refl _, fun _ _ _ => rfl⟩ (Or.inl rfl))
    rw [show mrC [] = [] from rfl, List.append_nil]
    exact hown
  · subst hv
    have ho2 := hox.own
    refine wpList_append_own_at2 w hgd s x 27 27 ho base 35 Try.t35 _ 5 64 Try.underlying27 Try.underlying27 (by kernel_rfl) rfl rfl rfl rfl (by decide) v rs.length (mrC rs) hs hown ⟨g, 0, none⟩ rs2.length cap (mrC rs2) hx (mrC_len rs2) (fun j u hj => ho2.cells (g := g) rfl j u hj) hone (by unfold maxLen; omega) (by omega) hbase h
end Go.Proofs.Ytnengokobkehfaa
