/- Block: the law's put. -/
import Derived.Test.YtekffilokdmfgaaBbB
import Derived.Laws.OwnMore

namespace Go.Proofs.Ytekffilokdmfgaa
open Go.RowKit
set_option linter.unusedVariables false
set_option linter.unusedSimpArgs false
variable {w w' W : World} {base pb n : Nat} {S K : Nat → Prop} {m : Int} {v u : Value} {L : Bd} {f hf : Nat → Int} {H : Nat}
/-- a row of one's own, as bytes to be read -/
theorem byts_own (h : w.ownsRow base 5 1 v n (byL f n)) (h8 : ∀ k, 0 ≤ f k ∧ f k ≤ 255) : ∃ a b o c, v = .slice a n c ∧ Byts w a b o n c f ∧ (0 < n → v.ownBlock = some b) := by
  rcases own_cases h with ⟨rfl, rfl, _⟩ | ⟨g, cap, rfl, h1, h2, h3, h4⟩
  · exact ⟨none, 0, 0, 0, rfl, ⟨Nat.le_refl _, Nat.zero_le _, fun h0 => absurd h0 (Nat.lt_irrefl _), h8, fun k hk => absurd hk (Nat.not_lt_zero _)⟩, fun h0 => absurd h0 (Nat.lt_irrefl _)⟩
  · refine ⟨_, g, 0, cap, rfl, ⟨h1, h2, fun _ => rfl, h8, fun k hk => ?_⟩, fun _ => h4⟩
    have := own_cell h k (by omega)
    rw [this]
    exact byL_at hk
/-- a copy of a row behind an empty list -/
theorem want_run (h : w.ownsRow base 5 1 v n (byL f n)) (hn : n ≤ 4000000) : ∃ u w', (Builtin.append_ #[25, 25] 25 #[.slice (some ⟨w.heap.size, 0, none⟩) 0 0, v]).run Try.prog (w.alloc (.cells #[] 5)) = .ok u w' ∧ w'.ownsRow w.heap.size 5 1 u n (byL f n) ∧ Up w w' := by
  have sz : (w.alloc (.cells #[] 5)).heap.size = w.heap.size + 1 := alloc_size' _ _
  have ho : (w.alloc (.cells #[] 5)).ownsRow w.heap.size 5 1 (.slice (some ⟨w.heap.size, 0, none⟩) 0 0) 0 [] := own_of (heap_alloc_new w _) (Nat.le_refl _) (Nat.le_refl _) (Nat.zero_le _) rfl rfl (fun k hk => by omega)
  have h1 := ownsRow_up h ((Up.refl w).alloc (.cells #[] 5))
  rcases own_cases h1 with ⟨rfl, rfl, _⟩ | ⟨g, cap, rfl, q1, q2, q3, q4⟩
  · exact ⟨_, _, run_append_owned_none (P := Try.prog) (w := w.alloc (.cells #[] 5)) w.heap.size 25 25 5 Try.t5 1 Try.underlying25 (by kernel_rfl) _ 0 [] ho, ho, (Up.refl w).alloc _⟩
  · obtain ⟨v', w', hr, h2, h3, _, h5⟩ := run_append_own_at (P := Try.prog) _ w.heap.size 25 25 5 Try.t5 (.int .u8 0) 1 1 Try.underlying25 (by kernel_rfl) (by kernel_rfl) (by kernel_rfl) (by kernel_rfl) rfl (by decide) _ 0 [] ho ⟨g, 0, none⟩ n cap (byL f n) (by rw [byL_len, Nat.mul_one]) (fun j u hj => by
      have hjn : j < n := by have := (List.getElem?_eq_some_iff.1 hj).1; rwa [byL_len] at this
      rw [Addr.add_lit, own_cell h1 j (by omega)]
      exact hj) (byL_one f n) (by unfold maxLen; omega) (by omega) (by omega)
    rw [Nat.zero_add, List.nil_append] at h2
    exact ⟨v', w', hr, h2, grown_upB ((Up.refl w).alloc _) ho h3⟩
/-- the book with the list that came out last -/
structure Bf (S : Nat → Prop) (base pb : Nat) (w : World) (L : Bd) (H : Nat) (hf : Nat → Int) : Prop where
  bl : Bl S base pb w L
  ho : w.ownsRow base 5 1 L.hv H (byL hf H)
  wo : w.ownsRow base 5 1 L.wv H (byL hf H)
  hn : H ≤ 4000000
  h8 : ∀ k, 0 ≤ hf k ∧ hf k ≤ 255
  hS : ∀ b, L.hv.ownBlock = some b → ¬ S b
  wS : ∀ b, L.wv.ownBlock = some b → ¬ S b
/-- all that the book holds -/
def Al (S : Nat → Prop) (L : Bd) : Nat → Prop := fun b => S b ∨ L.hv.ownBlock = some b ∨ L.wv.ownBlock = some b
theorem Bf.keep (h : Bf S base pb w L H hf) (f : FK K w w') (hp : K pb) (hK : ∀ b, Al S L b → K b) : Bf S base pb w' L H hf :=
  ⟨h.bl.keep f hp fun b hb => hK b (Or.inl hb), own_keep h.ho fun g hg => f.block g (h.ho.lt g hg).2 (hK g (Or.inr (Or.inl hg))), own_keep h.wo fun g hg => f.block g (h.wo.lt g hg).2 (hK g (Or.inr (Or.inr hg))), h.hn, h.h8, h.hS, h.wS⟩
theorem Bf.up (h : Bf S base pb w L H hf) (f : Up w w') : Bf S base pb w' L H hf := h.keep (K := fun _ => True) (FK.ofUp f) trivial (fun _ _ => trivial)
theorem Bf.al (h : Bf S base pb w L H hf) {b : Nat} (hb : Al S L b) : base ≤ b ∧ b < w.heap.size := by
  rcases hb with q | q | q
  · exact h.bl.sb b q
  · exact h.ho.lt b q
  · exact h.wo.lt b q
/-- what put leaves -/
structure Pt (S : Nat → Prop) (base pb : Nat) (W : World) (L : Bd) (v : Value) (n : Nat) (f : Nat → Int) (w : World) : Prop where
  ex : ∃ S' L', Bf S' base pb w L' n f ∧ L'.hv = v ∧ L'.es.length = L.es.length + 4 ∧ L'.x0 = L.x0 ∧ L'.x1 = L.x1 ∧ (∀ b, Al S' L' b → Al S L b ∨ v.ownBlock = some b ∨ W.heap.size ≤ b)
  ch : FK (fun b => ¬ Al S L b ∧ b ≠ pb) W w
theorem same_own {b1 b2 : Nat} (h1 : w.ownsRow b1 5 1 v n (byL f n)) (h2 : w.ownsRow b2 5 1 u n (byL f n)) (h8 : ∀ k, 0 ≤ f k ∧ f k ≤ 255) : Calls Try.prog 14 #[v, u] w fun e w' => e = .returned (.bool true) ∧ Up w w' := by
  obtain ⟨a, b, o, c, rfl, hb, _⟩ := byts_own h1 h8
  obtain ⟨a', b', o', c', rfl, hb', _⟩ := byts_own h2 h8
  exact same_yesB hb hb' (fun _ _ => rfl)
theorem Bl.cells {L2 : Bd} (h : Bl S base pb w L) (f : Fr pb w w') (hb : w'.heap[pb]? = some (.cells #[L2.x0, L2.x1, L2.lv, L2.mv, L2.hv, L2.wv] 28 (0, 0))) (h1 : L2.lv = L.lv) (h2 : L2.mv = L.mv) (h3 : L2.es = L.es) (h4 : L2.ms = L.ms) : Bl S base pb w' L2 := by
  have hp := h.bp
  have q : ∀ b, S b → w'.heap[b]? = w.heap[b]? := fun b hb => f.block b (h.sb b hb).2 (by have := (h.sb b hb).1; omega)
  refine ⟨hb, h.bp, Nat.le_trans h.bs f.size, fun b hb => ⟨(h.sb b hb).1, Nat.lt_of_lt_of_le (h.sb b hb).2 f.size⟩, by rw [h3, h4]; exact h.len, by rw [h1, h3]; exact own_keep h.lo fun g hg => q g (h.ls g hg), by rw [h2, h3, h4]; exact own_keep h.mo fun g hg => q g (h.mS g hg).1, by rw [h1]; exact h.ls, by rw [h1, h2]; exact h.mS, ?_⟩
  rw [h1, h2, h3, h4]
  intro i e m he hm
  obtain ⟨k, n, e1, e2, e3⟩ := h.en i e m he hm
  exact ⟨k, n, e1, e2.keep fun g hg => q g (e3 g hg).1, e3⟩
theorem Bf.ptOf {w2 w3 : World} (h : Bf S base pb W L H hf) (hv : W.ownsRow base 5 1 v n (byL f n)) (h8 : ∀ k, 0 ≤ f k ∧ f k ≤ 255) (hn : n ≤ 4000000) (hA : ∀ b, v.ownBlock = some b → ¬ Al S L b) (u0 : Up W w2) (hu : w2.ownsRow W.heap.size 5 1 u n (byL f n)) (hm : Mrk S base pb w2 L.hv L w3) :
    w3.ownsRow base 5 1 v n (byL f n) ∧ w3.ownsRow W.heap.size 5 1 u n (byL f n) ∧ ∀ w4, Up w3 w4 → (∃ x, w4.cell? ⟨pb, 4, none⟩ = some x) ∧ w4.frozen? ⟨pb, 4, none⟩ = false ∧ (∃ x, (w4.setCell ⟨pb, 4, none⟩ v).cell? ⟨pb, 5, none⟩ = some x) ∧ (w4.setCell ⟨pb, 4, none⟩ v).frozen? ⟨pb, 5, none⟩ = false ∧ Pt S base pb W L v n f ((w4.setCell ⟨pb, 4, none⟩ v).setCell ⟨pb, 5, none⟩ u) := by
  obtain ⟨L', b1, e1, ex0, ex1, ehv, ewv⟩ := hm.ex
  have c := hm.ch
  have hp := h.bl.bp
  have hbs := h.bl.bs
  have s2 := u0.size
  have s3 := c.size
  have hvl : ∀ b, L.hv.ownBlock = some b → b < W.heap.size := fun b hb => (h.ho.lt b hb).2
  have hSl : ∀ b, S b → b < W.heap.size := fun b hb => (h.bl.sb b hb).2
  have v3 : w3.ownsRow base 5 1 v n (byL f n) := own_keep hv fun g hg => by
    have := hv.lt g hg
    exact (c.block g (by omega) ⟨fun e => hA g hg (Or.inl e), fun e => hA g hg (Or.inr (Or.inl e)), by omega⟩).trans (u0.block g this.2)
  have u3 : w3.ownsRow W.heap.size 5 1 u n (byL f n) := own_keep hu fun g hg => by
    have := hu.lt g hg
    exact c.block g this.2 ⟨fun e => by have := hSl g e; omega, fun e => by have := hvl g e; omega, by omega⟩
  refine ⟨v3, u3, fun w4 u4 => ?_⟩
  have b4 := b1.up u4
  have k5 := heap_setCell_same w4 pb 4 _ _ v b4.blk
  have k6 := heap_setCell_same _ pb 5 _ _ u k5
  have fr : Fr pb w4 ((w4.setCell ⟨pb, 4, none⟩ v).setCell ⟨pb, 5, none⟩ u) := ((Fr.refl pb w4).setCell).setCell
  have b6 : Bl (SxB S L.hv w2 w3) base pb ((w4.setCell ⟨pb, 4, none⟩ v).setCell ⟨pb, 5, none⟩ u) { L' with hv := v, wv := u } := b4.cells fr k6 rfl rfl rfl rfl
  have s4 := u4.size
  refine ⟨⟨_, heap_cell b4.blk rfl⟩, heap_fz b4.blk, ⟨_, heap_cell k5 rfl⟩, heap_fz k5, ⟨⟨_, _, ⟨b6, ?_, ?_, hn, h8, ?_, ?_⟩, rfl, e1, ex0, ex1, ?_⟩, ?_⟩⟩
  · exact own_keep (ownsRow_up v3 u4) fun g hg => fr.block g (ownsRow_up v3 u4 |>.lt g hg).2 (by have := (v3.lt g hg).1; omega)
  · exact own_base (own_keep (ownsRow_up u3 u4) fun g hg => fr.block g (ownsRow_up u3 u4 |>.lt g hg).2 (by have := (u3.lt g hg).1; omega)) hbs
  · intro b hb q
    have := (hv.lt b hb).2
    rcases q with q | q | q
    · exact hA b hb (Or.inl q)
    · exact hA b hb (Or.inr (Or.inl q))
    · omega
  · intro b hb q
    have := hu.lt b hb
    rcases q with q | q | q
    · have := hSl b q; omega
    · have := hvl b q; omega
    · omega
  · intro b hb
    rcases hb with (q | q | q) | q | q
    · exact Or.inl (Or.inl q)
    · exact Or.inl (Or.inr (Or.inl q))
    · exact Or.inr (Or.inr (by omega))
    · exact Or.inr (Or.inl q)
    · exact Or.inr (Or.inr (hu.lt b q).1)
  · refine ⟨(fr.os.trans u4.os).trans (c.os.trans u0.os), (fr.output.trans u4.output).trans (c.output.trans u0.output), by have := fr.size; omega, fun b hb ⟨k1, k2⟩ => ?_⟩
    exact (fr.block b (by omega) k2).trans ((u4.block b (by omega)).trans ((c.block b (by omega) ⟨fun e => k1 (Or.inl e), fun e => k1 (Or.inr (Or.inl e)), k2⟩).trans (u0.block b hb)))
set_option maxRecDepth 100000 in
set_option maxHeartbeats 2000000 in
theorem putB_any (h : Bf S base pb W L H hf) (hv : W.ownsRow base 5 1 v n (byL f n)) (h8 : ∀ k, 0 ≤ f k ∧ f k ≤ 255) (hn : n ≤ 4000000) (hA : ∀ b, v.ownBlock = some b → ¬ Al S L b) (hN : L.es.length ≤ 20000000) : Calls Try.prog 15 #[.pointer (some ⟨pb, 0, none⟩), v] W fun e w' => e = .returned (.bool true) ∧ Pt S base pb W L v n f w' := by
  obtain ⟨u, w1, r1, o1, u1⟩ := want_run hv hn
  have HR : Hid _ := r1
  have hbs := h.bl.bs
  obtain ⟨ha, hb, hoo, hc, ehv, hby, _⟩ := byts_own h.ho h.h8
  obtain ⟨wa, wb, woo, wc, ewv, wby, _⟩ := byts_own h.wo h.h8
  obtain ⟨va, vb, vo, vc, rfl, vby, vbl⟩ := byts_own hv h8
  obtain ⟨ua, ub, uo, uc, rfl, uby, ubl⟩ := byts_own o1 h8
  have HSame : Hid (∀ w, Up w1 w → Calls Try.prog 14 #[.slice ha H hc, .slice wa H wc] w fun e w' => e = .returned (.bool true) ∧ Up w w') := fun w u => by
    exact same_yesB (hby.upB (u1.trans u)) (wby.upB (u1.trans u)) (fun _ _ => rfl)
  have HMark : Hid (∀ w, Up W w → Calls Try.prog 38 #[.pointer (some ⟨pb, 0, none⟩), .slice ha H hc] w fun e w' => e = .returned (.tuple #[]) ∧ Mrk S base pb w L.hv L w') := fun w u => by rw [← ehv]; exact markedB_any (h.bl.up u) (ownsRow_up h.ho u) h.hn h.hS hN
  have HBf : Hid (Bf S base pb W L H hf) := h
  have HV : Hid (W.ownsRow base 5 1 (.slice va n vc) n (byL f n)) := hv
  have HU : Hid (w1.ownsRow W.heap.size 5 1 (.slice ua n uc) n (byL f n) ∧ Up W w1) := ⟨o1, u1⟩
  have kh : w1.cell? ⟨pb, 4, none⟩ = some (.slice ha H hc) := by rw [← ehv]; exact heap_cell (h.bl.up u1).blk rfl
  have kw : w1.cell? ⟨pb, 5, none⟩ = some (.slice wa H wc) := by rw [← ewv]; exact heap_cell (h.bl.up u1).blk rfl
  clear h hv r1 o1 u1 hby wby uby vby
  go_enter Try.func15, Try.ntmps15
  go_wp2_with (at_builtin; refine Lib.wpList_append_run _ rfl _ _ _ _ rfl _ _ rfl rfl _ _ HR.out ?_; clear HR)
  refine wp_region_held_drew (S := fun w => w.cell? ⟨pb, 4, none⟩ = some (.slice ha H hc) ∧ w.cell? ⟨pb, 5, none⟩ = some (.slice wa H wc)) (by kernel_rfl) ⟨kh, kw⟩ (fun hHeld => ?_)
  have HU2 : Hid (Up w1 w1.drew) := (Up.refl w1).drew
  generalize World.drew w1 = wd at HU2 hHeld ⊢
  refine wpAnyH_take (i := 0) (v := ?_) (by simp only [List.getElem?_toArray, List.getElem?_cons_zero]; rfl) (by kernel_rfl) (by kernel_rfl) (by kernel_rfl) (by intro _ _ _ h; exact h) (Or.inl ⟨by rfl, ?_⟩) (by assumption) ?_
  rotate_left
  · (intro w hSw; (try dsimp only at hSw); obtain ⟨hSa, hSb⟩ := hSw; go_simp <;> with_reducible rfl)
  try simp only [Act.put, List.setIfInBounds_toArray, List.set_cons_zero, List.set_cons_succ]
  refine wpAnyH_take (i := 1) (v := ?_) (by simp only [List.getElem?_toArray, List.getElem?_cons_succ, List.getElem?_cons_zero]; rfl) (by kernel_rfl) (by kernel_rfl) (by kernel_rfl) (by intro _ _ _ h; exact h) (Or.inl ⟨by rfl, ?_⟩) (by assumption) ?_
  rotate_left
  · (intro w hSw; (try dsimp only at hSw); obtain ⟨hSa, hSb⟩ := hSw; go_simp <;> with_reducible rfl)
  try simp only [Act.put, List.setIfInBounds_toArray, List.set_cons_zero, List.set_cons_succ]
  refine wpAnyH_take (i := 2) (v := ?_) (by simp only [List.getElem?_toArray, List.getElem?_cons_succ, List.getElem?_cons_zero]; rfl) (by kernel_rfl) (by kernel_rfl) (by kernel_rfl) (by intro _ _ _ h; exact h) (Or.inl ⟨by rfl, ?_⟩) (by assumption) ?_
  rotate_left
  · (intro w hSw; (try dsimp only at hSw); obtain ⟨hSa, hSb⟩ := hSw; go_simp <;> with_reducible rfl)
  try simp only [Act.put, List.setIfInBounds_toArray, List.set_cons_zero, List.set_cons_succ]
  refine wpAnyH_take (i := 3) (v := ?_) (by simp only [List.getElem?_toArray, List.getElem?_cons_succ, List.getElem?_cons_zero]; rfl) (by kernel_rfl) (by kernel_rfl) (by kernel_rfl) (by intro _ _ _ h; exact h) (Or.inl ⟨by rfl, ?_⟩) (by assumption) ?_
  rotate_left
  · (intro w hSw; (try dsimp only at hSw); obtain ⟨hSa, hSb⟩ := hSw; go_simp <;> with_reducible rfl)
  try simp only [Act.put, List.setIfInBounds_toArray, List.set_cons_zero, List.set_cons_succ]
  refine wpAnyH_take (i := 4) (v := ?_) (by simp only [List.getElem?_toArray, List.getElem?_cons_succ, List.getElem?_cons_zero]; rfl) (by kernel_rfl) (by kernel_rfl) (by kernel_rfl) (by intro _ _ _ h; exact h) (Or.inl ⟨by rfl, ?_⟩) (by assumption) ?_
  rotate_left
  · (intro w hSw; (try dsimp only at hSw); obtain ⟨hSa, hSb⟩ := hSw; go_simp <;> with_reducible rfl)
  try simp only [Act.put, List.setIfInBounds_toArray, List.set_cons_zero, List.set_cons_succ]
  refine wpAnyH_take (i := 5) (v := ?_) (by simp only [List.getElem?_toArray, List.getElem?_cons_succ, List.getElem?_cons_zero]; rfl) (by kernel_rfl) (by kernel_rfl) (by kernel_rfl) (by intro _ _ _ h; exact h) (Or.inl ⟨by rfl, ?_⟩) (by assumption) ?_
  rotate_left
  · (intro w hSw; (try dsimp only at hSw); obtain ⟨hSa, hSb⟩ := hSw; go_simp <;> with_reducible rfl)
  try simp only [Act.put, List.setIfInBounds_toArray, List.set_cons_zero, List.set_cons_succ]
  refine wpAnyH_take (i := 6) (v := ?_) (by simp only [List.getElem?_toArray, List.getElem?_cons_succ, List.getElem?_cons_zero]; rfl) (by kernel_rfl) (by kernel_rfl) (by kernel_rfl) (by intro _ _ _ h; exact h) (Or.inl ⟨by rfl, ?_⟩) (by assumption) ?_
  rotate_left
  · (intro w hSw; (try dsimp only at hSw); obtain ⟨hSa, hSb⟩ := hSw; go_simp <;> with_reducible rfl)
  try simp only [Act.put, List.setIfInBounds_toArray, List.set_cons_zero, List.set_cons_succ]
  refine wpAnyH_take (i := 7) (v := ?_) (by simp only [List.getElem?_toArray, List.getElem?_cons_succ, List.getElem?_cons_zero]; rfl) (by kernel_rfl) (by kernel_rfl) (by kernel_rfl) (by intro _ _ _ h; exact h) (Or.inl ⟨by rfl, ?_⟩) (by assumption) ?_
  rotate_left
  · (intro w hSw; (try dsimp only at hSw); obtain ⟨hSa, hSb⟩ := hSw; go_simp <;> with_reducible rfl)
  try simp only [Act.put, List.setIfInBounds_toArray, List.set_cons_zero, List.set_cons_succ]
  refine wpAnyH_ready (rs := [8]) (by kernel_rfl) (by simp) ?_
  refine AllReadyH.cons (by simp only [List.getElem?_toArray, List.getElem?_cons_succ, List.getElem?_cons_zero]; rfl) (fun KK hK => ?_) AllReadyH.nil
  go_simp
  refine Calls.mono (HSame.out wd HU2.out) ?_
  rintro e w2 ⟨rfl, u2⟩
  refine hK.out _ _ ⟨cell_up (HU2.out.trans u2) kh, cell_up (HU2.out.trans u2) kw⟩ (fun hHeld => ?_)
  have HU3 : Hid (Up w1 w2) := HU2.out.trans u2
  clear hK KK u2 HU2
  try simp only [Act.put, List.setIfInBounds_toArray, List.set_cons_zero, List.set_cons_succ]
  refine wpAnyH_take (i := 9) (v := ?_) (by simp only [List.getElem?_toArray, List.getElem?_cons_succ, List.getElem?_cons_zero]; rfl) (by kernel_rfl) (by kernel_rfl) (by kernel_rfl) (by intro _ _ _ h; exact h) (Or.inl ⟨by rfl, ?_⟩) (by assumption) ?_
  rotate_left
  · (intro w hSw; (try dsimp only at hSw); obtain ⟨hSa, hSb⟩ := hSw; go_simp <;> with_reducible rfl)
  try simp only [Act.put, List.setIfInBounds_toArray, List.set_cons_zero, List.set_cons_succ]
  refine wpAnyH_done (by kernel_rfl) ?_ _
  clear hHeld
  have kh2 : w2.cell? ⟨pb, 4, none⟩ = some (.slice ha H hc) := cell_up HU3.out kh
  clear kh kw HSame
  go_wp2_with fail
  refine Calls.mono (HMark.out w2 (HU.out.2.trans HU3.out)) ?_
  rintro e w3 ⟨rfl, hm⟩
  obtain ⟨v3, u3, hfin⟩ := HBf.out.ptOf HV.out h8 hn hA (HU.out.2.trans HU3.out) (ownsRow_up HU.out.1 HU3.out) hm
  have HS : Hid _ := same_own v3 u3 h8
  have HFin : Hid _ := hfin
  clear hm v3 u3 hfin HMark kh2
  go_wp2_with fail
  refine Calls.mono HS.out ?_
  rintro e w4 ⟨rfl, u4⟩
  obtain ⟨⟨x4, kx4⟩, kf4, ⟨x5, kx5⟩, kf5, hpt⟩ := HFin.out w4 u4
  have HP : Hid _ := hpt
  clear hpt HFin HS u4
  go_wp2_with fail
  go_ret
  exact ⟨by first | rfl | (simp; done), HP.out⟩
end Go.Proofs.Ytekffilokdmfgaa
