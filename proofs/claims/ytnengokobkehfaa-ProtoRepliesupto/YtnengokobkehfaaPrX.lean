/- Proto: what ProtoBack keeps. -/
import Derived.Test.YtnengokobkehfaaWSm
namespace Go.Proofs.Ytnengokobkehfaa
open Go.RowKit
set_option linter.unusedVariables false
variable {w w' W : World}
/-- rows of two types are two blocks -/
theorem own_ty {b1 b2 n1 n2 s1 s2 : Nat} {t1 t2 : TypeId} {x y : Value} {xs ys : List Value} (hx : w.ownsRow b1 t1 s1 x n1 xs) (hy : w.ownsRow b2 t2 s2 y n2 ys) (ne : t1 ≠ t2) {b : Nat} (hb : x.ownBlock = some b) : y.ownBlock ≠ some b := by
  intro hb'
  rcases hx.2 with ⟨h1, _⟩ | ⟨g, cap, cur, h1, _, h2, _⟩
  · rw [h1] at hb; cases hb
  · rcases hy.2 with ⟨k1, _⟩ | ⟨g', cap', cur', k1, _, k2, _⟩
    · rw [k1] at hb'; cases hb'
    · rw [h1] at hb
      rw [k1] at hb'
      have e1 : g = b := Option.some.inj hb
      have e2 : g' = b := Option.some.inj hb'
      subst e1
      rw [e2] at k2
      rw [h2] at k2
      injection k2 with k2
      injection k2 with _ k2 _
      exact ne k2
/-- messages as they come in -/
structure Msgs (W : World) (aa : Option Addr) (ab ao len cap : Nat) (ms : List (C × Value)) : Prop where
  leq : ms.length = len
  lc : len ≤ cap
  cm : cap ≤ maxLen
  ad : 0 < len → aa = some ⟨ab, ao, none⟩
  at_ : ∀ k x, ms[k]? = some x → W.rangeAt ab (ao + k * 5) (mC x.1 x.2) ∧ Bs 0 W x.2 x.1.data.bs ∧ L8 x.1.name.bs ∧ x.1.name.bs.length ≤ 1048576
/-- the messages that were written so far, and their bytes -/
structure BkSt (W1 : World) (ms : List (C × Value)) (k : Nat) (wv av : Value) (sel : List (C × Value)) (bs : List (List Int)) (w : World) : Prop where
  ok : sel.map (fun x => encF msgT (toM x.1)) = bs.map Except.ok
  src : ∀ x ∈ sel, x ∈ ms
  wown : w.ownsRow W1.heap.size 35 5 wv sel.length (mrC sel)
  aown : w.ownsRow W1.heap.size 5 1 av bs.flatten.length (u8s bs.flatten)
  up : Up W1 w
  cnt : sel.length ≤ k
  len : bs.flatten.length ≤ sel.length * 262404
  u8 : L8 bs.flatten
theorem up_grownW {W1 w8 w9 : World} {v : Value} {ty : TypeId} {sz n : Nat} {xs : List Value} (u : Up W1 w8) (ho : w8.ownsRow W1.heap.size ty sz v n xs) (hg : w8.grownBy w9 v.ownBlock) : Up W1 w9 :=
  ⟨hg.os.trans u.os, hg.output.trans u.output, Nat.le_trans u.size hg.size, fun b hb => (hg.block b (Nat.lt_of_lt_of_le hb u.size) (fun e => by have := ho.lt b e.symm; omega)).trans (u.block b hb)⟩
theorem BkSt.push {W1 w8 w9 w10 : World} {ms sel : List (C × Value)} {k : Nat} {wv av wv' av' : Value} {bs : List (List Int)} {c : C} {d : Value} {b : List Int} (h : BkSt W1 ms k wv av sel bs w) (hx : (c, d) ∈ ms) (he : encF msgT (toM c) = .ok b) (hbl : b.length ≤ 262404) (hb8 : L8 b) (u : Up w w8)
    (ho : w9.ownsRow W1.heap.size 35 5 wv' (sel.length + 1) (mrC sel ++ mC c d)) (hg : w8.grownBy w9 wv.ownBlock)
    (ho2 : w10.ownsRow W1.heap.size 5 1 av' (bs.flatten ++ b).length (u8s (bs.flatten ++ b))) (hg2 : w9.grownBy w10 av.ownBlock) : BkSt W1 ms (k + 1) wv' av' (sel ++ [(c, d)]) (bs ++ [b]) w10 := by
  have a8 := ownsRow_up h.aown u
  have m8 := ownsRow_up h.wown u
  have a9 : w9.ownsRow W1.heap.size 5 1 av bs.flatten.length (u8s bs.flatten) := ownsRow_block a8 fun g hg' => hg.block g (a8.lt g hg').2 (fun e => own_ty a8 m8 (by decide) hg' e.symm)
  have u9 := up_grownW (h.up.trans u) m8 hg
  have u10 := up_grownW u9 a9 hg2
  have ef : (bs ++ [b]).flatten = bs.flatten ++ b := by simp
  refine ⟨by rw [List.map_append, List.map_append, h.ok]; simp [he], fun x hx' => ?_, ?_, by rw [ef]; exact ho2, u10, by have := h.cnt; simp; omega, by rw [ef, List.length_append, List.length_append]; have := h.len; show _ ≤ (sel.length + 1) * 262404; omega, by rw [ef]; exact h.u8.append hb8⟩
  · rcases List.mem_append.1 hx' with h' | h'
    · exact h.src x h'
    · have e : x = (c, d) := by simpa using h'
      rw [e]; exact hx
  · rw [mrC_snoc, List.length_append]
    exact ownsRow_block ho fun g hg' => hg2.block g (ho.lt g hg').2 (fun e => own_ty ho a9 (by decide) hg' e.symm)
theorem enc_le {c : C} (hc : c.cl) {b : List Int} (h : encF msgT c = .ok b) : 5 ≤ b.length ∧ b.length ≤ 262404 ∧ L8 b := by
  have h1 := parse_enc msg_ok hc h (f := fn b) (o := 0) (by rw [bl_fn b 0 b.length (by omega)]; simp)
  obtain ⟨n, e1, e2, e3, _⟩ := h1
  refine ⟨by omega, by omega, ?_⟩
  unfold encF at h
  cases hl : look msgT c.kind with
  | none => rw [hl] at h; cases h
  | some ps =>
    rw [hl] at h
    simp only at h
    have hps := (tab_ok msg_ok hl).2.2
    simp only [psOk, Bool.and_eq_true, decide_eq_true_eq] at hps
    cases hE : encPs ps c with
    | error q => rw [hE] at h; cases h
    | ok l' =>
      rw [hE] at h
      injection h with h
      rw [← h]
      exact (dg_u8 _ _).append ((dg_u8 _ _).append (enc_len ps c l' hps.1.1 hc hE).2)
/-- what both Feeds are told: all but the last, and the last -/
theorem back_dec {cs : List C} {bs : List (List Int)} {c : C} {b A : List Int} (hcl : ∀ x ∈ cs ++ [c], x.cl) (h : (cs ++ [c]).map (encF msgT) = (bs ++ [b]).map Except.ok) (hA : A = (bs ++ [b]).flatten) (n : Nat) (h1 : 1 ≤ n) (h2 : n < b.length) :
    A.length = bs.flatten.length + b.length ∧ Dec msgT (fn A) (A.length - n) 0 cs bs.flatten.length 0 ∧ Dec msgT (fn A) A.length bs.flatten.length [c] A.length 0 := by
  have ef : A = bs.flatten ++ b := by rw [hA]; simp
  have hl : A.length = bs.flatten.length + b.length := by rw [ef, List.length_append]
  rw [List.map_append, List.map_append] at h
  have hlen : (cs.map (encF msgT)).length = (bs.map Except.ok : List (Except Int (List Int))).length := by have := congrArg List.length h; simp at this; simpa using this
  obtain ⟨e1, e2⟩ := List.append_inj h hlen
  have e3 : encF msgT c = .ok b := by simpa using e2
  have s1 : bl (fn A) 0 bs.flatten.length = bs.flatten := by rw [bl_fn A 0 _ (by omega), List.drop_zero, ef, List.take_left]
  have s2 : bl (fn A) bs.flatten.length b.length = b := by rw [bl_fn A _ _ (by omega), ef, List.drop_left, List.take_length]
  refine ⟨hl, ?_, ?_⟩
  · have := Dec.encs (f := fn A) (n := A.length - n) (l := []) (r := bs.flatten.length) (e := 0) msg_ok cs bs 0 (fun x hx => hcl x (List.mem_append_left _ hx)) e1 s1 (by omega) (by
      rw [Nat.zero_add]
      exact Dec.part msg_ok (hcl c (by simp)) e3 s2 (by omega))
    rw [List.append_nil] at this
    exact this
  · have hc1 : ∀ x ∈ [c], x.cl := fun x hx => by
      have ex : x = c := by simpa using hx
      rw [ex]
      exact hcl c (by simp)
    have fb : [b].flatten = b := by simp
    have := Dec.encs (f := fn A) (n := A.length) (l := []) (r := A.length) (e := 0) msg_ok [c] [b] bs.flatten.length hc1 (by simp [e3]) (by rw [fb]; exact s2) (by rw [fb]; omega) (by
      have e : bs.flatten.length + [b].flatten.length = A.length := by rw [fb]; omega
      rw [e]
      exact Dec.none (Nat.le_refl _))
    rw [List.append_nil] at this
    exact this
theorem src_h {base n c h : Nat} {aa : Option Addr} {l : List Int} (ho : w.ownsRow base 5 1 (.slice aa n c) l.length (u8s l)) (hh : h ≤ l.length) (u : Up w w') : Src w' (.slice aa h c) (bl (fn l) 0 h) := by
  have ho' := ownsRow_up ho u
  rcases own_cases ho' with ⟨e1, e2, _⟩ | ⟨g, cap, e1, _⟩
  · injection e1 with e1 _ e3
    subst e1 e3
    have e : h = 0 := by omega
    subst e
    exact Or.inr ⟨rfl, rfl⟩
  · injection e1 with e1 e2 e3
    subst e1 e2 e3
    refine Or.inl ⟨⟨g, 0, none⟩, c, by rw [bl_len], fun k x hk => ?_⟩
    have hkn : k < h := by have := (List.getElem?_eq_some_iff.1 hk).1; rwa [bl_len] at this
    rw [bl_at hkn, Nat.zero_add] at hk
    injection hk with hk
    rw [addr_add, own_cell ho' k (by omega), u8s_at (List.getElem?_eq_getElem (by omega : k < l.length)), ← hk, fn_at (List.getElem?_eq_getElem (by omega : k < l.length))]
theorem src_l1 {base n c : Nat} {aa : Option Addr} {l : List Int} (ho : w.ownsRow base 5 1 (.slice aa n c) l.length (u8s l)) (hc : c = l.length) : Src w' (.slice aa 0 0) (bl (fn l) l.length 0) := by
  cases aa with
  | none => exact Or.inr ⟨rfl, rfl⟩
  | some ad => exact Or.inl ⟨ad, 0, rfl, fun k x hk => by simp [bl] at hk⟩
theorem src_l2 {base n c h : Nat} {aa : Option Addr} {l : List Int} (ho : w.ownsRow base 5 1 (.slice aa n c) l.length (u8s l)) (hh : h ≤ l.length) (hc : ¬ c = h) (u : Up w w') : Src w' (.slice (aa.map (·.add h)) (l.length - h) (c - h)) (bl (fn l) h (l.length - h)) := by
  have ho' := ownsRow_up ho u
  rcases own_cases ho' with ⟨e1, e2, _⟩ | ⟨g, cap, e1, _⟩
  · injection e1 with e1 _ e3
    omega
  · injection e1 with e1 e2 e3
    subst e1 e2 e3
    refine Or.inl ⟨(⟨g, 0, none⟩ : Addr).add h, c - h, by rw [bl_len]; rfl, fun k x hk => ?_⟩
    have hkn : k < l.length - h := by have := (List.getElem?_eq_some_iff.1 hk).1; rwa [bl_len] at this
    rw [bl_at hkn] at hk
    injection hk with hk
    have hc' := own_cell ho' (h + k) (by omega)
    rw [addr_add, addr_add, Nat.add_assoc, hc', u8s_at (List.getElem?_eq_getElem (by omega : h + k < l.length)), ← hk, fn_at (List.getElem?_eq_getElem (by omega : h + k < l.length))]
/-- what the two Feeds make -/
theorem fed1 {d r : Nat} {e : Int} {lv v v' : Value} {rs : List (C × Value)} {f : Nat → Int} {M R1 : Nat} {cs : List C} (F : Fed W d v [] (bl f 0 M) lv e v' rs r w') (hD : Dec msgT f M 0 cs R1 0) : e = 0 ∧ rs.map (·.1) = cs ∧ r = R1 ∧ Dcr w' d v' (bl f R1 (M - R1)) false := by
  have hd := F.dec
  rw [List.nil_append, bl_len] at hd
  obtain ⟨e1, e2, e3⟩ := (hd.congr (g := f) fun k hk => by rw [fn_bl f 0 M k hk, Nat.zero_add]).det hD
  subst e2 e3
  have hs := F.st.1 rfl
  rw [List.nil_append, bl_drop _ _ _ _ (hD.le.2 (Nat.zero_le _)), Nat.zero_add] at hs
  exact ⟨rfl, e1, rfl, hs⟩
theorem fed2 {d r : Nat} {e : Int} {lv v v' : Value} {rs : List (C × Value)} {f : Nat → Int} {M N R1 : Nat} {cs : List C} (hR : R1 ≤ M) (F : Fed W d v (bl f R1 (M - R1)) (bl f M N) lv e v' rs r w') (hD : Dec msgT f (M + N) R1 cs (M + N) 0) : e = 0 ∧ rs.map (·.1) = cs ∧ Dcr w' d v' [] false := by
  have e1 : bl f R1 (M - R1) ++ bl f M N = bl f R1 (M + N - R1) := by rw [show M + N - R1 = (M - R1) + N by omega, bl_add, show R1 + (M - R1) = M by omega]
  have hd := F.dec
  rw [e1, bl_len] at hd
  have hd2 := (hd.congr (g := fun k => f (R1 + k)) (fun k hk => fn_bl f R1 _ k hk)).shift
  rw [show R1 + (M + N - R1) = M + N by omega, Nat.add_zero] at hd2
  obtain ⟨e2, e3, e4⟩ := hd2.det hD
  subst e4
  have hs := F.st.1 rfl
  rw [e1, bl_drop _ _ _ _ (by omega), show M + N - R1 - r = 0 by omega] at hs
  exact ⟨rfl, e2, hs⟩
theorem own_emptyM (w : World) (ty : TypeId) : (w.alloc (.cells #[] ty)).ownsRow w.heap.size ty 5 (.slice (some ⟨w.heap.size, 0, none⟩) 0 0) ([] : List (C × Value)).length (mrC []) :=
  own_of (heap_alloc_new w _) (Nat.le_refl _) (Nat.le_refl _) (Nat.zero_le _) rfl rfl (fun k hk => by omega)
/-- the list that both lists make -/
theorem back_end {o : Obj} {b1 b2 : Nat} {P1 P2 : Nat → Prop} {w9 w10 w11 : World} {l1 l2 v10 v11 : Value} {rs1 rs2 : List (C × Value)} (h1 : RowsM P1 b1 w9 l1 rs1) (h2 : RowsM P2 b2 w9 l2 rs2)
    (hg1 : (w9.alloc o).grownBy w10 (some w9.heap.size)) (ho1 : w10.ownsRow w9.heap.size 35 5 v10 rs1.length (mrC rs1))
    (ho2 : w11.ownsRow w9.heap.size 35 5 v11 (rs1.length + rs2.length) (mrC rs1 ++ mrC rs2)) (hg2 : w10.grownBy w11 v10.ownBlock) : RowsM (fun _ => True) w9.heap.size w11 v11 (rs1 ++ rs2) ∧ Up w9 w11 := by
  have u1 : Up w9 w10 := grown_up2 hg1
  have u2 : Up w9 w11 := up_grownW u1 ho1 hg2
  refine ⟨⟨?_, fun x hx => ?_⟩, u2⟩
  · rw [List.length_append, show mrC (rs1 ++ rs2) = mrC rs1 ++ mrC rs2 by simp [mrC]]
    exact ho2
  · rcases List.mem_append.1 hx with hx | hx
    · exact (h1.dat x hx).keep fun b _ hb => ⟨u2.block b hb, trivial⟩
    · exact (h2.dat x hx).keep fun b _ hb => ⟨u2.block b hb, trivial⟩
theorem back_want {base : Nat} {wv : Value} {sel : List (C × Value)} {wr : World} (ho : wr.ownsRow base 35 5 wv sel.length (mrC sel)) (hb : ∀ x ∈ sel, L8 x.1.name.bs ∧ Bs 0 W x.2 x.1.data.bs) (u : Up wr w) (uW : Up W w) : RowsM (fun _ => True) base w wv sel :=
  ⟨ownsRow_up ho u, fun x hx => ((hb x hx).2.up uW).bsp fun _ _ _ => trivial⟩
end Go.Proofs.Ytnengokobkehfaa
