/- Arena: an act's changes. -/
import Derived.Test.YteijdcidemajfaaAtB
namespace Go.Proofs.Yteijdcidemajfaa
open Go.RowKit
set_option linter.unusedVariables false
variable {K K' O : Nat → Prop} {w w' W : World} {pb : Nat} {P P' : Pl} {lv bv : Value} {ll bl : List Loan} {C : Cx}
theorem Ax.cells (h : Ax C P lv bv ll bl w) : w.cell? ⟨C.hb, 0, none⟩ = some (.int .i64 (C.i : Int)) ∧ w.cell? ⟨C.hb, 1, none⟩ = some lv ∧ w.cell? ⟨C.hb, 2, none⟩ = some bv := ⟨heap_cell h.bh rfl, heap_cell h.bh rfl, heap_cell h.bh rfl⟩
theorem Ax.fz (h : Ax C P lv bv ll bl w) (k : Nat) : w.frozen? ⟨C.hb, k, none⟩ = false := heap_fz h.bh
theorem Ax.nob (h : Ax C P lv bv ll bl w) : (∀ b, lv.ownBlock = some b → b ≠ C.hb) ∧ (∀ b, bv.ownBlock = some b → b ≠ C.hb) ∧ ∀ l ∈ bl, l.blk ≠ C.hb := by
  obtain ⟨K, O, h1, h2, h3, h4, _⟩ := h.at'
  have := (h4 C.hb (Or.inl rfl)).2
  exact ⟨fun b e e2 => this (e2 ▸ h2.ol b e), fun b e e2 => this (e2 ▸ h2.ob b e), fun l hl e2 => this (e2 ▸ h2.oy l hl)⟩
/-- one lease more: behind the append, and the store into the box -/
theorem Ax.lease {x : Loan} {o : Obj} {w1 : World} {v' : Value} (h : Ax C P lv bv ll bl w) (own : w1.ownsRow 0 38 3 v' (ll.length + 1) (leaseCells ll ++ x.lease)) (gr : (w.alloc o).grownBy w1 lv.ownBlock) (at' : v'.ownBlock = lv.ownBlock ∨ v'.ownBlock = some (w.alloc o).heap.size) :
    Ax C P v' bv (ll ++ [x]) bl (w1.setCell ⟨C.hb, 1, none⟩ v') := by
  have ua := (Up.refl w).alloc o
  have hf : Fr C.hb w1 (w1.setCell ⟨C.hb, 1, none⟩ v') := (Fr.refl C.hb w1).setCell
  have hbl := heap_at h.bh
  have sz : w.heap.size ≤ w1.heap.size := Nat.le_trans ua.size gr.size
  have g1 : ∀ b, b < w.heap.size → lv.ownBlock ≠ some b → w1.heap[b]? = w.heap[b]? := fun b hb hn => (gr.block b (Nat.lt_of_lt_of_le hb ua.size) (fun e => hn e.symm)).trans (ua.block b hb)
  have hv : ∀ b, v'.ownBlock = some b → lv.ownBlock = some b ∨ w.heap.size ≤ b := fun b e => by
    rcases at' with e1 | e1
    · exact Or.inl (e1 ▸ e)
    · rw [e1] at e
      have := Option.some.inj e
      have := ua.size
      exact Or.inr (by omega)
  have hvb : ∀ b, v'.ownBlock = some b → b ≠ C.hb := fun b e e2 => by
    rcases hv b e with e3 | e3
    · exact h.nob.1 b e3 e2
    · omega
  refine h.change (oc := lv.ownBlock) (Nat.le_trans sz hf.size) (hf.os.trans (gr.os.trans ua.os)) (hf.output.trans (gr.output.trans ua.output)) (fun b hb hn hnb => (hf.block b (Nat.lt_of_lt_of_le hb sz) hnb).trans (g1 b hb hn)) (heap_setCell_same w1 C.hb 1 _ _ _ ((g1 _ hbl (fun e => h.nob.1 _ e rfl)).trans h.bh)) (fun O hO => ?_) (fun O hO b e => hO.ol b e)
  have h2 := hO.lease own sz g1 hv
  have e0 : (w1.setCell ⟨C.hb, 1, none⟩ v').heap.size = w1.heap.size := by simp
  rw [e0]
  refine ⟨ownsRow_block h2.lo (fun b hb => hf.block b (h2.lt.1 b hb) (hvb b hb)), ownsRow_block h2.bo (fun b hb => hf.block b (h2.lt.2.1 b hb) (h.nob.2.1 b hb)), fun l hl => (h2.by' l hl).of_block (hf.block _ (h2.lt.2.2 l hl) (h.nob.2.2 l hl)), h2.ol, h2.ob, h2.oy, h2.n1, h2.n2, h2.n3⟩
/-- one list of bytes more -/
theorem Ax.bytes {x : Loan} {o : Obj} {wz w1 : World} {v' : Value} (h : Ax C P lv bv ll bl w) (u : Up w wz) (hz : w.heap.size ≤ x.blk) (nz : NmAt wz x.blk x.size x.f) (own : w1.ownsRow 0 45 1 v' (bl.length + 1) (byteCells bl ++ [.slice (some ⟨x.blk, 0, none⟩) x.size x.size])) (gr : (wz.alloc o).grownBy w1 bv.ownBlock) (at' : v'.ownBlock = bv.ownBlock ∨ v'.ownBlock = some (wz.alloc o).heap.size) :
    Ax C P lv v' ll (bl ++ [x]) (w1.setCell ⟨C.hb, 2, none⟩ v') := by
  have ua := u.alloc o
  have ua2 := (Up.refl wz).alloc o
  have hf : Fr C.hb w1 (w1.setCell ⟨C.hb, 2, none⟩ v') := (Fr.refl C.hb w1).setCell
  have hbl := heap_at h.bh
  have sz : w.heap.size ≤ w1.heap.size := Nat.le_trans ua.size gr.size
  have g1 : ∀ b, b < w.heap.size → bv.ownBlock ≠ some b → w1.heap[b]? = w.heap[b]? := fun b hb hn => (gr.block b (Nat.lt_of_lt_of_le hb ua.size) (fun e => hn e.symm)).trans (ua.block b hb)
  obtain ⟨K, O, q1, q2, _⟩ := h.at'
  have hbz : bv.ownBlock ≠ some x.blk := fun e => by have := q2.lt.2.1 _ e; omega
  have nz1 : NmAt w1 x.blk x.size x.f := nz.of_block ((gr.block _ (Nat.lt_of_lt_of_le nz.lt ua2.size) (fun e => hbz e.symm)).trans (ua2.block _ nz.lt))
  have hv : ∀ b, v'.ownBlock = some b → bv.ownBlock = some b ∨ w.heap.size ≤ b := fun b e => by
    rcases at' with e1 | e1
    · exact Or.inl (e1 ▸ e)
    · rw [e1] at e
      have := Option.some.inj e
      have := ua.size
      exact Or.inr (by omega)
  have hzv : v'.ownBlock ≠ some x.blk := fun e => by
    rcases at' with e1 | e1
    · exact hbz (e1 ▸ e)
    · rw [e1] at e
      have := Option.some.inj e
      have := nz.lt
      have := ua2.size
      omega
  have hvb : ∀ b, v'.ownBlock = some b → b ≠ C.hb := fun b e e2 => by
    rcases hv b e with e3 | e3
    · exact h.nob.2.1 b e3 e2
    · omega
  refine h.change (oc := bv.ownBlock) (Nat.le_trans sz hf.size) (hf.os.trans (gr.os.trans ua.os)) (hf.output.trans (gr.output.trans ua.output)) (fun b hb hn hnb => (hf.block b (Nat.lt_of_lt_of_le hb sz) hnb).trans (g1 b hb hn)) (heap_setCell_same w1 C.hb 2 _ _ _ ((g1 _ hbl (fun e => h.nob.2.1 _ e rfl)).trans h.bh)) (fun O hO => ?_) (fun O hO b e => hO.ob b e)
  have h2 := hO.bytes hz nz1 hzv own g1 hv
  have e0 : (w1.setCell ⟨C.hb, 2, none⟩ v').heap.size = w1.heap.size := by simp
  rw [e0]
  refine ⟨ownsRow_block h2.lo (fun b hb => hf.block b (h2.lt.1 b hb) (h.nob.1 b hb)), ownsRow_block h2.bo (fun b hb => hf.block b (h2.lt.2.1 b hb) (hvb b hb)), fun l hl => (h2.by' l hl).of_block (hf.block _ (h2.lt.2.2 l hl) (fun e => ?_)), h2.ol, h2.ob, h2.oy, h2.n1, h2.n2, h2.n3⟩
  rcases List.mem_append.1 hl with hl | hl
  · exact h.nob.2.2 l hl e
  · rw [List.mem_singleton.1 hl] at e
    omega
/-- a byte is written -/
theorem Ax.stored {k a : Nat} {l : Loan} {v : Int} (h : Ax C P lv bv ll bl w) (hk : bl[k]? = some l) (ha : a < l.size) : Ax C P lv bv ll (bl.set k (l.stored a 1 (fun _ => v))) (w.setCell ⟨l.blk, a, none⟩ (.int .u8 v)) := by
  have hlm := List.mem_of_getElem? hk
  have hf : Fr l.blk w (w.setCell ⟨l.blk, a, none⟩ (.int .u8 v)) := (Fr.refl l.blk w).setCell
  have e0 : (w.setCell ⟨l.blk, a, none⟩ (.int .u8 v)).heap.size = w.heap.size := by simp
  refine h.change (oc := some l.blk) hf.size hf.os hf.output (fun b hb hn _ => hf.block b hb (fun e => hn (by rw [e]))) ((hf.block _ (heap_at h.bh) (fun e => h.nob.2.2 l hlm e.symm)).trans h.bh) (fun O hO => ?_) (fun O hO b e => ?_)
  · exact (hO.stored hk ha).mono (fun b hb => Or.inl hb)
  · injection e with e
    rw [← e]
    exact hO.oy l hlm
/-- new rows stand in the box -/
theorem Ax.rows {l2 b2 : List Loan} {w1 : World} {v1 v2 : Value} (h : Ax C P lv bv ll bl w) (u : Up w w1) (h1 : w1.ownsRow w.heap.size 38 3 v1 l2.length (leaseCells l2)) (h2 : w1.ownsRow w.heap.size 45 1 v2 b2.length (byteCells b2)) (hs : b2.Sublist bl) (ne : ∀ b, v1.ownBlock = some b → v2.ownBlock ≠ some b) :
    Ax C P v1 v2 l2 b2 ((w1.setCell ⟨C.hb, 1, none⟩ v1).setCell ⟨C.hb, 2, none⟩ v2) := by
  have f1 : Fr C.hb w1 (w1.setCell ⟨C.hb, 1, none⟩ v1) := (Fr.refl C.hb w1).setCell
  have hf : Fr C.hb w1 ((w1.setCell ⟨C.hb, 1, none⟩ v1).setCell ⟨C.hb, 2, none⟩ v2) := f1.setCell
  have hbl := heap_at h.bh
  have e0 : ((w1.setCell ⟨C.hb, 1, none⟩ v1).setCell ⟨C.hb, 2, none⟩ v2).heap.size = w1.heap.size := by simp
  refine h.change (oc := none) (Nat.le_trans u.size hf.size) (hf.os.trans u.os) (hf.output.trans u.output) (fun b hb _ hnb => (hf.block b (Nat.lt_of_lt_of_le hb u.size) hnb).trans (u.block b hb)) (heap_setCell_same _ C.hb 2 _ _ _ (heap_setCell_same w1 C.hb 1 _ _ _ ((u.block _ hbl).trans h.bh))) (fun O hO => ?_) (fun O hO b e => by cases e)
  have q := hO.rows u h1 h2 hs ne
  rw [e0]
  refine ⟨ownsRow_block q.lo (fun b hb => hf.block b (q.lt.1 b hb) (fun e => by have := (own_lt0 h1 hb).1; omega)), ownsRow_block q.bo (fun b hb => hf.block b (q.lt.2.1 b hb) (fun e => by have := (own_lt0 h2 hb).1; omega)), fun l hl => (q.by' l hl).of_block (hf.block _ (q.lt.2.2 l hl) (h.nob.2.2 l (hs.subset hl))), q.ol, q.ob, q.oy, q.n1, q.n2, q.n3⟩
/-- what an act leaves -/
def Dn (C : Cx) (P : Pl) (lv bv : Value) (hl : List Loan) (w : World) : Prop := ∃ K O, Pb C.W K C.pb P w ∧ Ht O w lv bv hl hl ∧ (∀ b, O b → K b ∧ C.W.heap.size ≤ b) ∧ (∀ b, O b → C.O0 b ∨ C.w0.heap.size ≤ b) ∧ (∀ b, C.K0 b → K b) ∧ FK (fun b => C.K0 b ∧ ¬ C.O0 b) C.w0 w
theorem Ax.done {hl : List Loan} (h : Ax C P lv bv hl hl w) (f : Fr C.rb w w') : Dn C P lv bv hl w' := by
  obtain ⟨K, O, h1, h2, h3, h4, h5, h6⟩ := h.at'
  have hr := h4 C.rb (Or.inr (Or.inr rfl))
  have hz := h.z C.rb (Or.inr (Or.inr rfl))
  have hzw := h.zw
  exact ⟨K, O, h1.frB f hr.1 (by omega), h2.same (fun b hb ho => f.block b hb (fun e => hr.2 (e ▸ ho))), h3, h5, h6, h.fk.trans ⟨f.os, f.output, f.size, fun b hb hk => f.block b hb (fun e => by have := h.k0 b hk.1; omega)⟩⟩
/-- nothing is held any more: what an act leaves then -/
theorem Ax.empty {hl : List Loan} (h : Ax C P lv bv hl hl w) (f : Fr C.rb w w') : Dn C P (.slice none 0 0) (.slice none 0 0) [] w' := by
  obtain ⟨K, O, h1, h2, h3, h4, h5, h6⟩ := h.done f
  exact ⟨K, O, h1, Ht.nil O w', h3, h4, h5, h6⟩
/-- the beginning -/
theorem Ax.begin {W w0 : World} {K0 O0 : Nat → Prop} {pb i : Nat} {av : Array Value} {hl : List Loan} (hp : Pb W K0 pb P w0) (hh : Ht O0 w0 lv bv hl hl) (ho : ∀ b, O0 b → K0 b ∧ W.heap.size ≤ b) :
    Ax ⟨W, w0, K0, O0, pb, i, w0.heap.size, w0.heap.size + 1, w0.heap.size + 2, av⟩ P lv bv hl hl (((w0.alloc (.cells #[.int .i64 (i : Int), lv, bv] 56)).alloc (.cells av 60)).alloc (.cells #[.int .i64 0, .slice none 0 0, .slice none 0 0] 56)) := by
  have u1 := (Up.refl w0).alloc (.cells #[.int .i64 (i : Int), lv, bv] 56)
  have u2 := (Up.refl (w0.alloc (.cells #[.int .i64 (i : Int), lv, bv] 56))).alloc (.cells av 60)
  have u3 := (Up.refl ((w0.alloc (.cells #[.int .i64 (i : Int), lv, bv] 56)).alloc (.cells av 60))).alloc (.cells #[.int .i64 0, .slice none 0 0, .slice none 0 0] 56)
  have z1 : (w0.alloc (.cells #[.int .i64 (i : Int), lv, bv] 56)).heap.size = w0.heap.size + 1 := by simp
  have z2 : ((w0.alloc (.cells #[.int .i64 (i : Int), lv, bv] 56)).alloc (.cells av 60)).heap.size = w0.heap.size + 2 := by simp
  have z3 : (((w0.alloc (.cells #[.int .i64 (i : Int), lv, bv] 56)).alloc (.cells av 60)).alloc (.cells #[.int .i64 0, .slice none 0 0, .slice none 0 0] 56)).heap.size = w0.heap.size + 3 := by simp
  have b1 := heap_alloc_new w0 (.cells #[.int .i64 (i : Int), lv, bv] 56)
  have b2 := heap_alloc_new (w0.alloc (.cells #[.int .i64 (i : Int), lv, bv] 56)) (.cells av 60)
  have b3 := heap_alloc_new ((w0.alloc (.cells #[.int .i64 (i : Int), lv, bv] 56)).alloc (.cells av 60)) (.cells #[.int .i64 0, .slice none 0 0, .slice none 0 0] 56)
  rw [z1] at b2
  rw [z2] at b3
  have hk0 : ∀ b, K0 b → b < w0.heap.size := fun b hb => by
    obtain ⟨R, A, q⟩ := hp.at'
    exact q.kb b hb
  have hol : ∀ b, O0 b → b < w0.heap.size := fun b hb => hk0 b (ho b hb).1
  have us := hp.up.size
  refine ⟨⟨fun b => K0 b ∨ (w0.heap.size ≤ b ∧ b < w0.heap.size + 3), O0, hp.moreK (u1.trans (u2.trans u3)) (fun b hb => hb.imp id (fun e => ⟨e.1, by rw [z3]; exact e.2⟩)) (fun b hb => Or.inl (hp.ko b hb)), hh.same (fun b hb _ => (u1.trans (u2.trans u3)).block b hb), fun b hb => ⟨Or.inl (ho b hb).1, (ho b hb).2⟩, fun b hb => ⟨?_, fun e => ?_⟩, fun b hb => Or.inl hb, fun b hb => Or.inl hb⟩, ?_, ?_, b3, FK.ofUp (u1.trans (u2.trans u3)), fun b hb => ?_, us, hk0, ?_, ?_, ?_⟩
  · rcases hb with rfl | rfl | rfl
    · exact Or.inr ⟨Nat.le_refl _, by show w0.heap.size < w0.heap.size + 3; omega⟩
    · exact Or.inr ⟨by show w0.heap.size ≤ w0.heap.size + 1; omega, by show w0.heap.size + 1 < w0.heap.size + 3; omega⟩
    · exact Or.inr ⟨by show w0.heap.size ≤ w0.heap.size + 2; omega, by show w0.heap.size + 2 < w0.heap.size + 3; omega⟩
  · have hbl := hol b e
    rcases hb with rfl | rfl | rfl
    · have : w0.heap.size < w0.heap.size := hbl
      omega
    · have : w0.heap.size + 1 < w0.heap.size := hbl
      omega
    · have : w0.heap.size + 2 < w0.heap.size := hbl
      omega
  · exact ((u2.trans u3).block _ (by rw [z1]; show w0.heap.size < _; omega)).trans b1
  · exact (u3.block _ (by rw [z2]; show w0.heap.size + 1 < _; omega)).trans b2
  · rcases hb with rfl | rfl | rfl
    · exact Nat.le_refl _
    · show w0.heap.size ≤ w0.heap.size + 1
      omega
    · show w0.heap.size ≤ w0.heap.size + 2
      omega
  · show w0.heap.size ≠ w0.heap.size + 1
    omega
  · show w0.heap.size ≠ w0.heap.size + 2
    omega
  · show w0.heap.size + 1 ≠ w0.heap.size + 2
    omega
end Go.Proofs.Yteijdcidemajfaa
