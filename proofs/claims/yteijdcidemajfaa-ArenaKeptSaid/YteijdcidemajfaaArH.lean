/- Arena: put and draw on lists of loans. -/
import Derived.Test.YteijdcidemajfaaArG
namespace Go.Proofs.Yteijdcidemajfaa
open Go.RowKit
set_option linter.unusedVariables false
theorem Loan.one (l : Loan) : l.cells.toArray.all (·.oneCell') = true := by
  unfold Loan.cells
  simp [Value.oneCell']
theorem heap_alloc2 (w : World) (o p : Obj) : ((w.alloc o).alloc p).heap[w.heap.size + 1]? = some p := by
  have := heap_alloc_new (w.alloc o) p
  simpa using this
theorem Chg.more {W w' w'' : World} {q o : Nat} {v v' : Value} (h : Chg W w' q o v v') (hq : q < W.heap.size) (os : w''.os = w'.os) (ou : w''.output = w'.output) (sz : w'.heap.size ≤ w''.heap.size) (bl : ∀ b, b < W.heap.size → w''.heap[b]? = w'.heap[b]?) : Chg W w'' q o v v' :=
  ⟨os.trans h.os, ou.trans h.output, Nat.le_trans h.size sz, fun cs ty e => (bl q hq).trans (h.cellq cs ty e), fun b h1 h2 h3 => (bl b h1).trans (h.block b h1 h2 h3), h.own⟩
set_option maxRecDepth 100000 in
set_option maxHeartbeats 1000000 in
/-- one is drawn -/
theorem drawL_any {W : World} {q o i m g cap : Nat} {ls : List Loan} {l : Loan} {cs : Array Value} {ty : TypeId} (hq : W.heap[q]? = some (.cells cs ty (0, 0))) (ho : cs[o]? = some (.slice (some ⟨g, 0, none⟩) (m + 1) cap)) (own : W.ownsRow 0 104 4 (.slice (some ⟨g, 0, none⟩) (m + 1) cap) (m + 1) (loanCells ls)) (hb : g ≠ q) (hi : ls[i]? = some l) (hl : ls.length = m + 1) :
    Calls Try.prog 43 #[.pointer (some ⟨q, o, none⟩), .int .i64 (i : Int)] W fun e w' => e = .returned (.agg l.cells.toArray) ∧ Chg W w' q o (.slice (some ⟨g, 0, none⟩) (m + 1) cap) (.slice (some ⟨g, 0, none⟩) m cap) ∧ w'.ownsRow 0 104 4 (.slice (some ⟨g, 0, none⟩) m cap) m (loanCells (ls.eraseIdx i)) := by
  have hil := (List.getElem?_eq_some_iff.1 hi).1
  have hcm : m + 1 ≤ cap ∧ cap ≤ 9223372036854775807 ∧ g < W.heap.size := by
    obtain ⟨cur, hg, _, h1, h2, _⟩ := own_open own
    unfold maxLen at h2
    exact ⟨by omega, by omega, heap_at hg⟩
  obtain ⟨c1, c2, hgl⟩ := hcm
  have hql := heap_at hq
  have HR : Hid (∀ w, Up W w → w.rangeAt g (i * 4) l.cells) := fun w u => by
    refine loan_range (cap := cap) ?_ hi
    rw [hl]
    exact ownsRow_up own u
  have HW : Hid (W.heap[q]? = some (.cells cs ty (0, 0)) ∧ cs[o]? = some (.slice (some ⟨g, 0, none⟩) (m + 1) cap) ∧ g ≠ q) := ⟨hq, ho, hb⟩
  have HO : Hid (∀ w, Up W w → w.ownsRow 0 104 4 (.slice (some ⟨g, 0, none⟩) (m + 1) cap) (m + 1) (loanCells ls)) := fun w u => ownsRow_up own u
  have HK : Hid (∀ w, Up W w → w.cell? ⟨q, o, none⟩ = some (.slice (some ⟨g, 0, none⟩) (m + 1) cap)) := fun w u => heap_cell ((u.block q hql).trans hq) ho
  have HN : Hid (∀ o p, ((W.alloc o).alloc p).heap[W.heap.size + 1]? = some p) := fun o p => heap_alloc2 W o p
  have HW3 : Hid (∀ w o, ((W.alloc o).alloc (Obj.cells #[.int .i64 0, .int .i64 0, .int .i64 0, .slice none 0 0] 104)).setRow (W.heap.size + 1) l.cells.toArray = w → w.heap[W.heap.size + 1]? = some (.cells l.cells.toArray 104 (0, 0)) ∧ w.heap[W.heap.size]? = some o ∧ Up W w) := by
    rintro w o rfl
    refine ⟨setRow_heap _ _ _ _ _ _ (HN.out _ _), ?_, (((Up.refl W).alloc _).alloc _).setRow (by omega) _⟩
    rw [setRow_other _ _ _ _ (by omega), Below.heap_alloc _ _ _ (by simp), heap_alloc_new]
  have d1 : (i : Int) < (m : Int) + 1 := by omega
  have d2 : (i : Int) < ((m + 1 : Nat) : Int) := by omega
  have him : i ≤ m := by omega
  have kq := HK.out _ ((Up.refl W).alloc (Obj.cells #[.int .i64 0, .int .i64 0, .int .i64 0, .slice none 0 0] 104))
  have hr1 := HR.out _ ((Up.refl W).alloc (Obj.cells #[.int .i64 0, .int .i64 0, .int .i64 0, .slice none 0 0] 104))
  have HR1 : Hid _ := hr1
  clear hq ho own hb hi hil hl hr1
  go_enter Try.func43, Try.ntmps43
  go_wp2_with (first
    | (refine wpList_load_mid rfl 104 _ rfl g (i * 4) rfl l.cells _ HR1.out Try.underlying104 rfl (by kernel_rfl) ?_)
    | (refine wpList_store_rowTo rfl 104 _ _ rfl rfl (W.heap.size + 1) l.cells.toArray rfl rfl 104 _ (HN.out _ _) (by kernel_rfl) rfl l.one ?_
       generalize hW3 : World.setRow _ _ _ = w3
       obtain ⟨hA, hO, hU⟩ := HW3.out _ _ hW3
       have kq3 := HK.out w3 hU
       have H3 : Hid (w3.heap[W.heap.size + 1]? = some (.cells l.cells.toArray 104 (0, 0)) ∧ w3.heap[W.heap.size]? = some (.cells #[.int .i64 0, .int .i64 0, .int .i64 0, .slice none 0 0] 104 (0, 0)) ∧ Up W w3) := ⟨hA, hO, hU⟩
       clear hW3 hA hO hU))
  have HI : Hid _ := delL_any (HO.out w3 H3.out.2.2) him (loanCells_one ls)
  refine Calls.mono HI.out ?_
  rintro e w4 ⟨rfl, hown, hf⟩
  have hq4 : w4.heap[q]? = some (.cells cs ty (0, 0)) := (hf.block q (Nat.lt_of_lt_of_le hql H3.out.2.2.size) (fun e => HW.out.2.2 e.symm)).trans ((H3.out.2.2.block q hql).trans HW.out.1)
  have k4 := heap_cell hq4 HW.out.2.1
  have z4 : w4.frozen? ⟨q, o, none⟩ = false := heap_fz hq4
  have fs : Fr q w4 (w4.setCell ⟨q, o, none⟩ (.slice (some ⟨g, 0, none⟩) m cap)) := (Fr.refl q w4).setCell
  have hA4 : w4.heap[W.heap.size + 1]? = some (.cells l.cells.toArray 104 (0, 0)) := (hf.block _ (heap_at H3.out.1) (by omega)).trans H3.out.1
  have hB4 : w4.heap[W.heap.size]? = some (.cells #[.int .i64 0, .int .i64 0, .int .i64 0, .slice none 0 0] 104 (0, 0)) := (hf.block _ (heap_at H3.out.2.1) (by omega)).trans H3.out.2.1
  have hA5 := (fs.block _ (heap_at hA4) (by omega)).trans hA4
  have hB5 := (fs.block _ (heap_at hB4) (by omega)).trans hB4
  have hG5 : (w4.setCell ⟨q, o, none⟩ (.slice (some ⟨g, 0, none⟩) m cap)).ownsRow 0 104 4 (.slice (some ⟨g, 0, none⟩) m cap) m (loanCells (ls.eraseIdx i)) := by
    rw [← loanCells_erase]
    exact ownsRow_block hown (fun g' hg => fs.block g' (hown.lt g' hg).2 (fun e => HW.out.2.2 (by have := Option.some.inj (show some g = some g' from hg); omega)))
  have H5 : Hid ((w4.setCell ⟨q, o, none⟩ (.slice (some ⟨g, 0, none⟩) m cap)).heap[W.heap.size]? = some (.cells #[.int .i64 0, .int .i64 0, .int .i64 0, .slice none 0 0] 104 (0, 0)) ∧ Chg W (w4.setCell ⟨q, o, none⟩ (.slice (some ⟨g, 0, none⟩) m cap)) q o (.slice (some ⟨g, 0, none⟩) (m + 1) cap) (.slice (some ⟨g, 0, none⟩) m cap) ∧ (w4.setCell ⟨q, o, none⟩ (.slice (some ⟨g, 0, none⟩) m cap)).ownsRow 0 104 4 (.slice (some ⟨g, 0, none⟩) m cap) m (loanCells (ls.eraseIdx i))) := ⟨hB5, Chg.fr H3.out.2.2 hf hql HW.out.2.2, hG5⟩
  have HR5 : Hid ((w4.setCell ⟨q, o, none⟩ (.slice (some ⟨g, 0, none⟩) m cap)).rangeAt (W.heap.size + 1) 0 l.cells) := fun k v hv => by
    rw [cell_of_row _ _ _ _ _ _ hA5, Nat.zero_add]
    simpa using hv
  clear hown hf HI hq4 fs hA4 hB4 hA5 hB5 hG5 kq kq3
  go_wp2_with (first
    | (refine wpList_load_mid rfl 104 _ rfl (W.heap.size + 1) 0 rfl l.cells _ HR5.out Try.underlying104 rfl (by kernel_rfl) ?_)
    | (refine wpList_store_rowTo rfl 104 _ _ rfl rfl W.heap.size l.cells.toArray rfl rfl 104 _ H5.out.1 (by kernel_rfl) rfl l.one ?_))
  have fr := (Fr.refl W.heap.size (w4.setCell ⟨q, o, none⟩ (.slice (some ⟨g, 0, none⟩) m cap))).setRow (cs := l.cells.toArray)
  refine bodyPost_ret (v := .agg _) (results_row Try.results43 _ _ _ 104 _ (0, 0) _ rfl (setRow_heap _ _ _ _ _ _ H5.out.1) Try.underlying104 rfl (by kernel_rfl)) rfl ⟨rfl, H5.out.2.1.more hql fr.os fr.output fr.size (fun b hb => fr.block b (Nat.lt_of_lt_of_le hb H5.out.2.1.size) (by omega)), ?_⟩
  exact ownsRow_block H5.out.2.2 (fun g' hg => fr.block g' (H5.out.2.2.lt g' hg).2 (by have := Option.some.inj (show some g = some g' from hg); omega))
end Go.Proofs.Yteijdcidemajfaa
