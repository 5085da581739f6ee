/- Block: the law's world: its stores, its book, what was told last. -/
import Derived.Test.YtekffilokdmfgaaBeA
namespace Go.Proofs.Ytekffilokdmfgaa
open Go.RowKit
set_option linter.unusedVariables false
set_option linter.unusedSimpArgs false
def ptrs : List (Nat × Nat) → List Value
  | [] => []
  | p :: l => .pointer (some ⟨p.1, 0, none⟩) :: .pointer (some ⟨p.2, 0, none⟩) :: ptrs l
theorem ptrs_len : ∀ l, (ptrs l).length = l.length * 2
  | [] => rfl
  | p :: l => by show (ptrs l).length + 2 = _; rw [ptrs_len l, List.length_cons]; omega
theorem ptrs_app : ∀ l m, ptrs (l ++ m) = ptrs l ++ ptrs m
  | [], m => rfl
  | p :: l, m => by show _ :: _ :: ptrs (l ++ m) = _; rw [ptrs_app l m]; rfl
theorem ptrs_at : ∀ (l : List (Nat × Nat)) (j : Nat) (p : Nat × Nat), l[j]? = some p → (ptrs l)[j * 2]? = some (.pointer (some ⟨p.1, 0, none⟩)) ∧ (ptrs l)[j * 2 + 1]? = some (.pointer (some ⟨p.2, 0, none⟩))
  | [], j, p, h => by simp at h
  | q :: l, 0, p, h => by simp at h; subst h; exact ⟨rfl, rfl⟩
  | q :: l, j + 1, p, h => by
    have := ptrs_at l j p (by simpa using h)
    rw [show (j + 1) * 2 = j * 2 + 1 + 1 by omega]
    exact this
theorem ptrs_one : ∀ l, ∀ v ∈ ptrs l, v.oneCell' = true
  | [], v, h => by cases h
  | p :: l, v, h => by
    rcases List.mem_cons.1 h with rfl | h
    · rfl
    · rcases List.mem_cons.1 h with rfl | h
      · rfl
      · exact ptrs_one l v h
theorem Byts.keep {w w' : World} {a : Option Addr} {b o n c : Nat} {f : Nat → Int} (h : Byts w a b o n c f) (hk : 0 < n → w'.heap[b]? = w.heap[b]?) : Byts w' a b o n c f := by
  refine ⟨h.lc, h.cm, h.ad, h.u8, fun k q => ?_⟩
  unfold World.cell?
  rw [show (w'.heap[(⟨b, o + k, none⟩ : Addr).block]?) = w.heap[(⟨b, o + k, none⟩ : Addr).block]? from hk (by omega)]
  exact h.cell k q
/-- the world: roles 0 (of others), 1 (the book), 2 (the world's own block), 3 (what was told last), 4 (the row of pairs), 10 and on (stores) -/
structure Wd (W0 : World) (pb : Nat) (ρ : Nat → Nat) (ps : List (Nat × Nat)) (Sx Sy : List Sto) (S : Nat → Prop) (L : Bd) (H : Nat) (hf : Nat → Int) (w : World) : Prop where
  up : Up W0 w
  wl : W0.heap.size ≤ pb
  r0 : ∀ b, b < W0.heap.size → ρ b = 0
  rp : ρ pb = 2
  bf : Bf S (pb + 1) pb w L H hf
  ra : ∀ b, Al S L b → ρ b = 1
  pr : w.ownsRow 0 47 2 L.x0 ps.length (ptrs ps)
  px : ∀ g, L.x0.ownBlock = some g → ρ g = 4
  l4 : ps.length ≤ 4
  xl : Sx.length = ps.length
  yl : Sy.length = ps.length
  la : ∃ a b o n c f, L.x1 = .slice a n c ∧ Byts w a b o n c f ∧ n ≤ 4000000 ∧ (a = none → c = 0) ∧ (0 < n → b < w.heap.size ∧ ρ b = 3)
  pX : ∀ (j : Nat) (p : Nat × Nat) (s : Sto), ps[j]? = some p → Sx[j]? = some s → StAt (Kr ρ (10 + 2 * j) w) w p.1 s ∧ s.Gd
  pY : ∀ (j : Nat) (p : Nat × Nat) (s : Sto), ps[j]? = some p → Sy[j]? = some s → RfAt (Kr ρ (11 + 2 * j) w) w p.2 s ∧ s.Gd
variable {w w' w1 W W0 : World} {ρ ρ' ρ1 : Nat → Nat} {r r' pb H n : Nat} {ps : List (Nat × Nat)} {Sx Sy Sx' Sy' : List Sto} {S : Nat → Prop} {L : Bd} {hf f : Nat → Int} {R : Nat → Prop} {v : Value}
theorem Wd.pl (h : Wd W0 pb ρ ps Sx Sy S L H hf w) : pb < w.heap.size := h.bf.bl.pl
theorem Wd.re (h : Wd W0 pb ρ ps Sx Sy S L H hf w) (m : Mv R ρ ρ' w w') (hR : R 0 ∧ R 1 ∧ R 2 ∧ R 3 ∧ R 4) (xl : Sx'.length = ps.length) (yl : Sy'.length = ps.length)
    (pX : ∀ (j : Nat) (p : Nat × Nat) (s : Sto), ps[j]? = some p → Sx'[j]? = some s → StAt (Kr ρ' (10 + 2 * j) w') w' p.1 s ∧ s.Gd)
    (pY : ∀ (j : Nat) (p : Nat × Nat) (s : Sto), ps[j]? = some p → Sy'[j]? = some s → RfAt (Kr ρ' (11 + 2 * j) w') w' p.2 s ∧ s.Gd) : Wd W0 pb ρ' ps Sx' Sy' S L H hf w' := by
  have fk : FK (fun b => R (ρ b)) w w' := ⟨m.os, m.output, m.size, fun b hb hk => (m.bl b hb hk).2⟩
  have keep : ∀ b k, b < w.heap.size → ρ b = k → R k → ρ' b = k := fun b k hb e hk => (m.bl b hb (by rw [e]; exact hk)).1.trans e
  refine ⟨m.up h.up h.r0 hR.1, h.wl, fun b hb => keep b 0 (Nat.lt_of_lt_of_le hb h.up.size) (h.r0 b hb) hR.1, keep pb 2 h.pl h.rp hR.2.2.1, h.bf.keep fk (by rw [h.rp]; exact hR.2.2.1) (fun b hb => by rw [h.ra b hb]; exact hR.2.1), fun b hb => keep b 1 (h.bf.al hb).2 (h.ra b hb) hR.2.1,
    ownsRow_block h.pr (fun g hg => (m.bl g (own_lt h.pr hg) (by rw [h.px g hg]; exact hR.2.2.2.2)).2), fun g hg => keep g 4 (own_lt h.pr hg) (h.px g hg) hR.2.2.2.2, h.l4, xl, yl, ?_, pX, pY⟩
  obtain ⟨a, b, o, n, c, f, e, hy, hn, h0, hb⟩ := h.la
  exact ⟨a, b, o, n, c, f, e, hy.keep (fun k => (m.bl b (hb k).1 (by rw [(hb k).2]; exact hR.2.2.2.1)).2), hn, h0, fun k => ⟨Nat.lt_of_lt_of_le (hb k).1 m.size, keep b 3 (hb k).1 (hb k).2 hR.2.2.2.1⟩⟩
/-- nothing of the world's own has changed -/
theorem Wd.mv (h : Wd W0 pb ρ ps Sx Sy S L H hf w) (m : Mv R ρ ρ' w w') (hR : R 0 ∧ R 1 ∧ R 2 ∧ R 3 ∧ R 4) (hr : ∀ r, 10 ≤ r → R r) : Wd W0 pb ρ' ps Sx Sy S L H hf w' :=
  h.re m hR h.xl h.yl (fun j p s hp hs => ⟨(h.pX j p s hp hs).1.mv m (hr _ (by omega)), (h.pX j p s hp hs).2⟩) (fun j p s hp hs => ⟨(h.pY j p s hp hs).1.mv m (hr _ (by omega)), (h.pY j p s hp hs).2⟩)
theorem Wd.upR (h : Wd W0 pb ρ ps Sx Sy S L H hf w) (u : Up w w') (r : Nat) : Wd W0 pb (ext ρ w.heap.size r) ps Sx Sy S L H hf w' :=
  h.mv (R := fun _ => True) (Mv.ofUp ρ u r) ⟨trivial, trivial, trivial, trivial, trivial⟩ (fun _ _ => trivial)
/-- a store's own call -/
theorem Wd.chX {j : Nat} {p : Nat × Nat} {s' : Sto} (h : Wd W0 pb ρ ps Sx Sy S L H hf w) (hp : ps[j]? = some p) (f : FK (Kr ρ (10 + 2 * j) w) w w') (s : StAt (Kr ρ (10 + 2 * j) w) w' p.1 s') (g : s'.Gd) : Wd W0 pb (ext ρ w.heap.size (10 + 2 * j)) ps (Sx.set j s') Sy S L H hf w' := by
  have m := Mv.ofFK f
  refine h.re m (by omega) (by rw [List.length_set]; exact h.xl) h.yl (fun i q T hq hT => ?_) (fun i q T hq hT => ⟨(h.pY i q T hq hT).1.mv m (by omega), (h.pY i q T hq hT).2⟩)
  rw [List.getElem?_set] at hT
  by_cases e : j = i
  · subst e
    have hj : j < Sx.length := by rw [h.xl]; exact (List.getElem?_eq_some_iff.1 hp).1
    rw [if_pos rfl, if_pos hj] at hT
    injection hT with hT
    subst hT
    rw [hp] at hq
    injection hq with hq
    subst hq
    exact ⟨s.less fun b hb => kr_self hb, g⟩
  · rw [if_neg e] at hT
    exact ⟨(h.pX i q T hq hT).1.mv m (by omega), (h.pX i q T hq hT).2⟩
theorem Wd.chY {j : Nat} {p : Nat × Nat} {s' : Sto} (h : Wd W0 pb ρ ps Sx Sy S L H hf w) (hp : ps[j]? = some p) (f : FK (Kr ρ (11 + 2 * j) w) w w') (s : RfAt (Kr ρ (11 + 2 * j) w) w' p.2 s') (g : s'.Gd) : Wd W0 pb (ext ρ w.heap.size (11 + 2 * j)) ps Sx (Sy.set j s') S L H hf w' := by
  have m := Mv.ofFK f
  refine h.re m (by omega) h.xl (by rw [List.length_set]; exact h.yl) (fun i q T hq hT => ⟨(h.pX i q T hq hT).1.mv m (by omega), (h.pX i q T hq hT).2⟩) (fun i q T hq hT => ?_)
  rw [List.getElem?_set] at hT
  by_cases e : j = i
  · subst e
    have hj : j < Sy.length := by rw [h.yl]; exact (List.getElem?_eq_some_iff.1 hp).1
    rw [if_pos rfl, if_pos hj] at hT
    injection hT with hT
    subst hT
    rw [hp] at hq
    injection hq with hq
    subst hq
    exact ⟨s.less fun b hb => kr_self hb, g⟩
  · rw [if_neg e] at hT
    exact ⟨(h.pY i q T hq hT).1.mv m (by omega), (h.pY i q T hq hT).2⟩
/-- roles behind a list that was put -/
def putR (ρ : Nat → Nat) (n : Nat) (v : Value) : Nat → Nat := fun b => if b < n then (if v.ownBlock = some b then 1 else ρ b) else 1
theorem Wd.put {q : Nat} (h : Wd W0 pb ρ ps Sx Sy S L H hf w) (hv : w.ownsRow (pb + 1) 5 1 v n (byL f n)) (h8 : ∀ k, 0 ≤ f k ∧ f k ≤ 255) (hn : n ≤ 4000000) (hq : 5 ≤ q ∧ q < 10) (hA : ∀ b, v.ownBlock = some b → ρ b = q) (hN : L.es.length ≤ 20000000) :
    Calls Try.prog 15 #[.pointer (some ⟨pb, 0, none⟩), v] w fun e w' => e = .returned (.bool true) ∧ ∃ ρ' S' L', Wd W0 pb ρ' ps Sx Sy S' L' n f w' ∧ Mv (fun r => r ≠ 1 ∧ r ≠ 2 ∧ r ≠ q) ρ ρ' w w' ∧ L'.es.length = L.es.length + 4 := by
  refine (putB_any h.bf hv h8 hn (fun b hb e => by have := hA b hb; have := h.ra b e; omega) hN).mono ?_
  rintro e w' ⟨rfl, ⟨⟨S', L', bf, ehv, en, q0, q1, qa⟩, ch⟩⟩
  have vl : ∀ b, v.ownBlock = some b → b < w.heap.size := fun b hb => (hv.lt b hb).2
  have m : Mv (fun r => r ≠ 1 ∧ r ≠ 2 ∧ r ≠ q) ρ (putR ρ w.heap.size v) w w' := ⟨ch.os, ch.output, ch.size, fun b hb hr => ⟨by
    unfold putR
    rw [if_pos hb, if_neg (fun e => hr.2.2 (hA b e))], ch.block b hb ⟨fun e => hr.1 (h.ra b e), fun e => hr.2.1 (e ▸ h.rp)⟩⟩⟩
  have keep : ∀ b k, b < w.heap.size → ρ b = k → k ≠ q → putR ρ w.heap.size v b = k := fun b k hb e hk => by
    unfold putR
    rw [if_pos hb, if_neg (fun e2 => hk (e.symm.trans (hA b e2))), e]
  refine ⟨rfl, putR ρ w.heap.size v, S', L', ⟨m.up h.up h.r0 (by omega), h.wl, fun b hb => keep b 0 (Nat.lt_of_lt_of_le hb h.up.size) (h.r0 b hb) (by omega), keep pb 2 h.pl h.rp (by omega), bf, fun b hb => ?_, ?_, ?_, h.l4, h.xl, h.yl, ?_, fun j p s hp hs => ⟨(h.pX j p s hp hs).1.mv m (by omega), (h.pX j p s hp hs).2⟩, fun j p s hp hs => ⟨(h.pY j p s hp hs).1.mv m (by omega), (h.pY j p s hp hs).2⟩⟩, m, en⟩
  · rcases qa b hb with e | e | e
    · unfold putR
      rw [if_pos (h.bf.al e).2]
      split
      · rfl
      · exact h.ra b e
    · unfold putR
      rw [if_pos (vl b e), if_pos e]
    · unfold putR
      rw [if_neg (by omega)]
  · rw [q0]
    exact ownsRow_block h.pr (fun g hg => (m.bl g (own_lt h.pr hg) (by rw [h.px g hg]; omega)).2)
  · rw [q0]
    exact fun g hg => keep g 4 (own_lt h.pr hg) (h.px g hg) (by omega)
  · obtain ⟨a, b, o, n', c, f', e, hy, hn', h0, hb⟩ := h.la
    exact ⟨a, b, o, n', c, f', by rw [q1, e], hy.keep (fun k => (m.bl b (hb k).1 (by rw [(hb k).2]; omega)).2), hn', h0, fun k => ⟨Nat.lt_of_lt_of_le (hb k).1 m.size, keep b 3 (hb k).1 (hb k).2 (by omega)⟩⟩
/-- what was told last is another list now -/
theorem Wd.last {b c : Nat} (h : Wd W0 pb ρ ps Sx Sy S L H hf w) (hy : By w b n f) (h8 : ∀ k, 0 ≤ f k ∧ f k ≤ 255) (hc : n ≤ c) (hm : c ≤ maxLen) (hn : n ≤ 4000000) (hb : ρ b = 9) :
    (∃ ρ', Wd W0 pb ρ' ps Sx Sy S { L with x1 := .slice (some ⟨b, 0, none⟩) n c } H hf (w.setCell ⟨pb, 1, none⟩ (.slice (some ⟨b, 0, none⟩) n c)) ∧ Mv (fun r => r ≠ 2 ∧ r ≠ 9) ρ ρ' w (w.setCell ⟨pb, 1, none⟩ (.slice (some ⟨b, 0, none⟩) n c))) ∧ w.cell? ⟨pb, 1, none⟩ = some L.x1 ∧ w.frozen? ⟨pb, 1, none⟩ = false := by
  have fr : Fr pb w (w.setCell ⟨pb, 1, none⟩ (.slice (some ⟨b, 0, none⟩) n c)) := (Fr.refl pb w).setCell
  have k := heap_setCell_same w pb 1 _ _ (.slice (some ⟨b, 0, none⟩) n c) h.bf.bl.blk
  have hbp : b ≠ pb := fun e => by have := h.rp; rw [← e] at this; omega
  have m : Mv (fun r => r ≠ 2 ∧ r ≠ 9) ρ (fun x => if x = b then 3 else ρ x) w (w.setCell ⟨pb, 1, none⟩ (.slice (some ⟨b, 0, none⟩) n c)) := ⟨fr.os, fr.output, fr.size, fun x hx hr => ⟨if_neg (fun e => hr.2 (by rw [e]; exact hb)), fr.block x hx (fun e => hr.1 (by rw [e]; exact h.rp))⟩⟩
  have keep : ∀ x k, ρ x = k → k ≠ 9 → (if x = b then 3 else ρ x) = k := fun x k e hk => by rw [if_neg (fun e2 => hk (by rw [← e, e2, hb])), e]
  have q : FK (fun x => x ≠ pb) w (w.setCell ⟨pb, 1, none⟩ (.slice (some ⟨b, 0, none⟩) n c)) := FK.ofFr fr (fun h => h rfl)
  refine ⟨⟨_, ⟨m.up h.up h.r0 (by omega), h.wl, fun x hx => keep x 0 (h.r0 x hx) (by omega), keep pb 2 h.rp (by omega), ⟨h.bf.bl.cells fr k rfl rfl rfl rfl, own_keep h.bf.ho fun g hg => q.block g (h.bf.ho.lt g hg).2 (by have := (h.bf.ho.lt g hg).1; omega), own_keep h.bf.wo fun g hg => q.block g (h.bf.wo.lt g hg).2 (by have := (h.bf.wo.lt g hg).1; omega), h.bf.hn, h.bf.h8, h.bf.hS, h.bf.wS⟩, fun x hx => keep x 1 (h.ra x hx) (by omega), ownsRow_block h.pr (fun g hg => (m.bl g (own_lt h.pr hg) (by rw [h.px g hg]; omega)).2), fun g hg => keep g 4 (h.px g hg) (by omega), h.l4, h.xl, h.yl, ⟨_, b, 0, n, c, f, rfl, (hy.of_block (q.block b hy.lt hbp)).byts hc hm h8, hn, (fun e => (by cases e)), fun _ => ⟨Nat.lt_of_lt_of_le hy.lt q.size, if_pos rfl⟩⟩, fun j p s hp hs => ⟨(h.pX j p s hp hs).1.mv m (by omega), (h.pX j p s hp hs).2⟩, fun j p s hp hs => ⟨(h.pY j p s hp hs).1.mv m (by omega), (h.pY j p s hp hs).2⟩⟩, m⟩, heap_cell h.bf.bl.blk rfl, heap_fz h.bf.bl.blk⟩
theorem Wd.c0 (h : Wd W0 pb ρ ps Sx Sy S L H hf w) : w.cell? ⟨pb, 0, none⟩ = some L.x0 := heap_cell h.bf.bl.blk rfl
theorem Wd.c1 (h : Wd W0 pb ρ ps Sx Sy S L H hf w) : w.cell? ⟨pb, 1, none⟩ = some L.x1 := heap_cell h.bf.bl.blk rfl
end Go.Proofs.Ytekffilokdmfgaa
