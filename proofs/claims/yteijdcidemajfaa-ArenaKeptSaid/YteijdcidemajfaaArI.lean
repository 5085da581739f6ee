/- Arena: one more loan. -/
import Derived.Test.YteijdcidemajfaaArH
namespace Go.Proofs.Yteijdcidemajfaa
open Go.RowKit
set_option linter.unusedVariables false
set_option maxRecDepth 100000 in
set_option maxHeartbeats 2000000 in
theorem putL_end {W : World} {q o : Nat} {v : Value} {ls : List Loan} {l : Loan} {cs : Array Value} {ty : TypeId} (hq : W.heap[q]? = some (.cells cs ty (0, 0))) (ho : cs[o]? = some v) (own : W.ownsRow 0 104 4 v ls.length (loanCells ls)) (hb : v.ownBlock ≠ some q) (hn : ls.length ≤ 100000) :
    Calls Try.prog 41 #[.pointer (some ⟨q, o, none⟩), .int .i64 (ls.length : Int), .agg l.cells.toArray] W fun e w' => e = .returned (.tuple #[]) ∧ ∃ v', Chg W w' q o v v' ∧ w'.ownsRow 0 104 4 v' (ls ++ [l]).length (loanCells (ls ++ [l])) := by
  have hql := heap_at hq
  have HW : Hid (W.heap[q]? = some (.cells cs ty (0, 0)) ∧ cs[o]? = some v ∧ v.ownBlock ≠ some q) := ⟨hq, ho, hb⟩
  have HO : Hid (∀ w, Up W w → w.ownsRow 0 104 4 v ls.length (loanCells ls)) := fun w u => ownsRow_up own u
  have HK : Hid (∀ w, Up W w → w.cell? ⟨q, o, none⟩ = some v) := fun w u => heap_cell ((u.block q hql).trans hq) ho
  have HOB : Hid (∀ g, v.ownBlock = some g → g < W.heap.size) := fun g hg => (own.lt g hg).2
  obtain ⟨va, vn, vc, rfl⟩ := own_slice3 own
  clear hq ho own hb
  unfold Loan.cells
  go_enter Try.func41, Try.ntmps41
  go_wp2_with fail
  have ua : Up W (W.alloc (Obj.cells #[.int .i64 (l.buf : Int), .int .i64 (l.cls : Int), .int .i64 (l.size : Int), .slice (some ⟨l.blk, 0, none⟩) l.size l.size] 104)) := (Up.refl W).alloc _
  have ka : (W.alloc (Obj.cells #[.int .i64 (l.buf : Int), .int .i64 (l.cls : Int), .int .i64 (l.size : Int), .slice (some ⟨l.blk, 0, none⟩) l.size l.size] 104)).heap[W.heap.size]? = some (.cells #[.int .i64 (l.buf : Int), .int .i64 (l.cls : Int), .int .i64 (l.size : Int), .slice (some ⟨l.blk, 0, none⟩) l.size l.size] 104 (0, 0)) := heap_alloc_new W _
  generalize World.alloc W _ = Wa at ua ka ⊢
  have HUa : Hid (Up W Wa) := ua
  have HS : Hid (∀ w, Up Wa w → w.cell? ⟨q, o, none⟩ = some (.slice va vn vc) ∧ w.rangeAt W.heap.size 0 l.cells) := fun w u => ⟨HK.out w (HUa.out.trans u), fun k u' hv => by
    rw [cell_of_row _ _ _ _ _ _ ((u.block _ (heap_at ka)).trans ka), Nat.zero_add]
    unfold Loan.cells at hv
    simpa using hv⟩
  have HZ : Hid (W.heap.size < Wa.heap.size) := heap_at ka
  clear ua ka
  generalize hsz : W.heap.size = sb at *
  have HSZ : Hid (W.heap.size = sb) := hsz
  clear hsz
  have HD : Hid (Up Wa Wa.drew) := (Up.refl _).drew
  refine wp_region_held_drew (S := fun w' => w'.rangeAt sb 0 l.cells) (by kernel_rfl) ?_ (fun hHeld => ?_)
  · (try dsimp only); exact (HS.out _ HD.out).2
  refine wpAnyH_take (i := 0) (v := ?_) (by simp only [List.getElem?_toArray, List.getElem?_cons_zero]; rfl) (by kernel_rfl) (by kernel_rfl) (by kernel_rfl) (by intro _ _ _ h; exact h) (Or.inl ⟨by rfl, ?_⟩) (by assumption) ?_
  rotate_left
  · (intro w hSw; (try dsimp only at hSw); go_simp <;> with_reducible rfl)
  try simp only [Act.put, List.setIfInBounds_toArray, List.set_cons_zero, List.set_cons_succ]
  refine wpAnyH_take (i := 1) (v := ?_) (by simp only [List.getElem?_toArray, List.getElem?_cons_succ, List.getElem?_cons_zero]; rfl) (by kernel_rfl) (by kernel_rfl) (by kernel_rfl) (by intro _ _ _ h; exact h) (Or.inl ⟨by rfl, ?_⟩) (by assumption) ?_
  rotate_left
  · (intro w hSw; (try dsimp only at hSw); go_simp <;> with_reducible rfl)
  try simp only [Act.put, List.setIfInBounds_toArray, List.set_cons_zero, List.set_cons_succ]
  refine wpAnyH_take (i := 2) (v := ?_) (by simp only [List.getElem?_toArray, List.getElem?_cons_succ, List.getElem?_cons_zero]; rfl) (by kernel_rfl) (by kernel_rfl) (by kernel_rfl) (by intro _ _ _ h; exact h) (Or.inl ⟨by rfl, ?_⟩) (by assumption) ?_
  rotate_left
  · (intro w hSw; (try dsimp only at hSw); go_simp <;> with_reducible rfl)
  try simp only [Act.put, List.setIfInBounds_toArray, List.set_cons_zero, List.set_cons_succ]
  refine wpAnyH_take (i := 4) (v := ?_) (by simp only [List.getElem?_toArray, List.getElem?_cons_succ, List.getElem?_cons_zero]; rfl) (by kernel_rfl) (by kernel_rfl) (by kernel_rfl) (by intro _ _ _ h; exact h) (Or.inl ⟨by rfl, ?_⟩) (by assumption) ?_
  rotate_left
  · (intro w hSw; (try dsimp only at hSw); go_simp <;> with_reducible rfl)
  try simp only [Act.put, List.setIfInBounds_toArray, List.set_cons_zero, List.set_cons_succ]
  refine wpAnyH_take (i := 5) (v := .agg l.cells.toArray) (by simp only [List.getElem?_toArray, List.getElem?_cons_succ, List.getElem?_cons_zero]; rfl) (by kernel_rfl) (by kernel_rfl) (by kernel_rfl) (by intro _ _ _ h; exact h) (yieldsIf_load_mid (by rfl) 104 _ rfl sb 0 rfl l.cells _ (fun w hw => hw) Try.underlying104 rfl (by kernel_rfl)) (by assumption) ?_
  simp only [Act.put, List.setIfInBounds_toArray, List.set_cons_zero, List.set_cons_succ]
  refine wpAnyH_ready (rs := [3, 6]) (by kernel_rfl) (by simp) ?_
  refine AllReadyH.cons (by simp only [List.getElem?_toArray, List.getElem?_cons_succ, List.getElem?_cons_zero]; rfl) (fun K hK => ?_) (AllReadyH.cons (by simp only [List.getElem?_toArray, List.getElem?_cons_succ, List.getElem?_cons_zero]; rfl) (fun K hK => ?_) AllReadyH.nil)
  · skip
    have kl := (HS.out _ HD.out).1
    go_simp
    refine hK.out _ _ ?_ (fun hHeld => ?_)
    · (try dsimp only); exact (HS.out _ HD.out).2
    clear hK K kl
    try simp only [Act.put, List.setIfInBounds_toArray, List.set_cons_zero, List.set_cons_succ]
    refine wpAnyH_ready (rs := [6]) (by kernel_rfl) (by simp) ?_
    refine AllReadyH.cons (by simp only [List.getElem?_toArray, List.getElem?_cons_succ, List.getElem?_cons_zero]; rfl) (fun K hK => ?_) AllReadyH.nil
    unfold Loan.cells at *
    go_simp
    have ub : Up Wa ((Wa.alloc (Obj.cells #[.int .i64 (l.buf : Int), .int .i64 (l.cls : Int), .int .i64 (l.size : Int), .slice (some ⟨l.blk, 0, none⟩) l.size l.size] 104)).drew) := ((Up.refl Wa).alloc _).drew
    have kb : ((Wa.alloc (Obj.cells #[.int .i64 (l.buf : Int), .int .i64 (l.cls : Int), .int .i64 (l.size : Int), .slice (some ⟨l.blk, 0, none⟩) l.size l.size] 104)).drew).heap[Wa.heap.size]? = some (.cells #[.int .i64 (l.buf : Int), .int .i64 (l.cls : Int), .int .i64 (l.size : Int), .slice (some ⟨l.blk, 0, none⟩) l.size l.size] 104 (0, 0)) := heap_alloc_new Wa _
    have HB : Hid (Up Wa ((Wa.alloc (Obj.cells #[.int .i64 (l.buf : Int), .int .i64 (l.cls : Int), .int .i64 (l.size : Int), .slice (some ⟨l.blk, 0, none⟩) l.size l.size] 104)).drew) ∧ ((Wa.alloc (Obj.cells #[.int .i64 (l.buf : Int), .int .i64 (l.cls : Int), .int .i64 (l.size : Int), .slice (some ⟨l.blk, 0, none⟩) l.size l.size] 104)).drew).heap[Wa.heap.size]? = some (.cells #[.int .i64 (l.buf : Int), .int .i64 (l.cls : Int), .int .i64 (l.size : Int), .slice (some ⟨l.blk, 0, none⟩) l.size l.size] 104 (0, 0))) := ⟨ub, kb⟩
    clear ub kb
    generalize World.drew (World.alloc Wa _) = Wb at HB ⊢
    refine hK.out _ _ ?_ (fun hHeld => ?_)
    · (try dsimp only); exact (HS.out _ HB.out.1).2
    clear hK K
    try simp only [Act.put, List.setIfInBounds_toArray, List.set_cons_zero, List.set_cons_succ]
    have HI : Hid _ := insL_end (vb := Wa.heap.size) (news := l.cells) (HO.out Wb (HUa.out.trans HB.out.1)) hn rfl (fun j u hj => by
      rw [Addr.add_lit, cell_of_row _ _ _ _ _ _ HB.out.2, Nat.zero_add]
      unfold Loan.cells at hj
      simpa using hj) (by intro u hu; unfold Loan.cells at hu; simp at hu; rcases hu with rfl | rfl | rfl | rfl <;> rfl)
    refine wpAnyH_ready (rs := [7]) (by kernel_rfl) (by simp) ?_
    refine AllReadyH.cons (by simp only [List.getElem?_toArray, List.getElem?_cons_succ, List.getElem?_cons_zero]; rfl) (fun K hK => ?_) AllReadyH.nil
    go_simp
    generalize Wa.heap.size = vb at HI ⊢
    refine Calls.mono HI.out ?_
    rintro e w1 ⟨v', rfl, hown, hgrow, hat⟩
    have U2 : Up W Wb := HUa.out.trans HB.out.1
    have hqs : q < W.heap.size := heap_at HW.out.1
    have HG : Hid (w1.ownsRow 0 104 4 v' (ls.length + 1) (loanCells ls ++ l.cells) ∧ Chg W (w1.setCell ⟨q, o, none⟩ v') q o (.slice va vn vc) v') := ⟨hown, Chg.grown (ob := none) U2 hgrow hqs HW.out.2.2 hat⟩
    have hq1 : w1.heap[q]? = some (.cells cs ty (0, 0)) := (hgrow.block q (Nat.lt_of_lt_of_le hqs U2.size) (fun e => HW.out.2.2 e.symm)).trans ((U2.block q hqs).trans HW.out.1)
    have k1 := heap_cell hq1 HW.out.2.1
    have z1 : w1.frozen? ⟨q, o, none⟩ = false := heap_fz hq1
    have HN : Hid (v'.ownBlock ≠ some q) := fun e => by
      rcases hat with h | h
      · exact HW.out.2.2 (h ▸ e)
      · rw [h] at e
        have := Option.some.inj e
        have := U2.size
        omega
    have HS1 : Hid (w1.cell? ⟨q, o, none⟩ = some (.slice va vn vc) ∧ w1.rangeAt sb 0 l.cells) := ⟨k1, fun k u hv => by
      have hb : sb < Wb.heap.size := Nat.lt_of_lt_of_le HZ.out HB.out.1.size
      have hw : w1.heap[sb]? = Wb.heap[sb]? := hgrow.block sb hb (fun e => by have := HOB.out sb e.symm; have := HSZ.out; omega)
      have := (HS.out Wb HB.out.1).2 k u hv
      unfold World.cell? at this ⊢
      simp only [hw]
      exact this⟩
    obtain ⟨va', vn', vc', rfl⟩ := own_slice3 hown
    clear hown hgrow hat HI hq1
    refine hK.out _ _ ?_ (fun hHeld => ?_)
    · (try dsimp only); exact HS1.out.2
    clear hK K
    try simp only [Act.put, List.setIfInBounds_toArray, List.set_cons_zero, List.set_cons_succ]
    refine wpAnyH_take (i := 8) (v := ?_) (by simp only [List.getElem?_toArray, List.getElem?_cons_succ, List.getElem?_cons_zero]; rfl) (by kernel_rfl) (by kernel_rfl) (by kernel_rfl) (by intro _ _ _ h; exact h) (Or.inl ⟨by rfl, ?_⟩) (by assumption) ?_
    rotate_left
    · (intro w hSw; (try dsimp only at hSw); go_simp <;> with_reducible rfl)
    try simp only [Act.put, List.setIfInBounds_toArray, List.set_cons_zero, List.set_cons_succ]
    refine wpAnyH_ready (rs := [9]) (by kernel_rfl) (by simp) ?_
    refine AllReadyH.cons (by simp only [List.getElem?_toArray, List.getElem?_cons_succ, List.getElem?_cons_zero]; rfl) (fun K hK => ?_) AllReadyH.nil
    go_simp
    have fs : Fr q w1 (w1.setCell ⟨q, o, none⟩ (.slice va' vn' vc')) := (Fr.refl q w1).setCell
    refine hK.out _ _ ?_ (fun hHeld => ?_)
    · (try dsimp only)
      intro k u hv
      have := HS1.out.2 k u hv
      have hne : sb ≠ q := by have := heap_at HW.out.1; have := HSZ.out; omega
      rw [← this]
      exact fs.cell (World.block_lt_of_cell? _ _ this) hne
    clear hK K
    try simp only [Act.put, List.setIfInBounds_toArray, List.set_cons_zero, List.set_cons_succ]
    refine wpAnyH_done (by kernel_rfl) ?_ _
    go_wp2_with fail
    go_end0
    refine ⟨rfl, _, HG.out.2, ?_⟩
    rw [loanCells_append, List.length_append]
    exact ownsRow_block HG.out.1 (fun g hg => fs.block g (HG.out.1.lt g hg).2 (fun e => HN.out (e ▸ hg)))
  · skip
    unfold Loan.cells at *
    go_simp
    have ub : Up Wa ((Wa.alloc (Obj.cells #[.int .i64 (l.buf : Int), .int .i64 (l.cls : Int), .int .i64 (l.size : Int), .slice (some ⟨l.blk, 0, none⟩) l.size l.size] 104)).drew) := ((Up.refl Wa).alloc _).drew
    have kb : ((Wa.alloc (Obj.cells #[.int .i64 (l.buf : Int), .int .i64 (l.cls : Int), .int .i64 (l.size : Int), .slice (some ⟨l.blk, 0, none⟩) l.size l.size] 104)).drew).heap[Wa.heap.size]? = some (.cells #[.int .i64 (l.buf : Int), .int .i64 (l.cls : Int), .int .i64 (l.size : Int), .slice (some ⟨l.blk, 0, none⟩) l.size l.size] 104 (0, 0)) := heap_alloc_new Wa _
    have HB : Hid (Up Wa ((Wa.alloc (Obj.cells #[.int .i64 (l.buf : Int), .int .i64 (l.cls : Int), .int .i64 (l.size : Int), .slice (some ⟨l.blk, 0, none⟩) l.size l.size] 104)).drew) ∧ ((Wa.alloc (Obj.cells #[.int .i64 (l.buf : Int), .int .i64 (l.cls : Int), .int .i64 (l.size : Int), .slice (some ⟨l.blk, 0, none⟩) l.size l.size] 104)).drew).heap[Wa.heap.size]? = some (.cells #[.int .i64 (l.buf : Int), .int .i64 (l.cls : Int), .int .i64 (l.size : Int), .slice (some ⟨l.blk, 0, none⟩) l.size l.size] 104 (0, 0))) := ⟨ub, kb⟩
    clear ub kb
    generalize World.drew (World.alloc Wa _) = Wb at HB ⊢
    refine hK.out _ _ ?_ (fun hHeld => ?_)
    · (try dsimp only); exact (HS.out _ HB.out.1).2
    clear hK K
    try simp only [Act.put, List.setIfInBounds_toArray, List.set_cons_zero, List.set_cons_succ]
    refine wpAnyH_ready (rs := [3]) (by kernel_rfl) (by simp) ?_
    refine AllReadyH.cons (by simp only [List.getElem?_toArray, List.getElem?_cons_succ, List.getElem?_cons_zero]; rfl) (fun K hK => ?_) AllReadyH.nil
    have kl := (HS.out _ HB.out.1).1
    go_simp
    refine hK.out _ _ ?_ (fun hHeld => ?_)
    · (try dsimp only); exact (HS.out _ HB.out.1).2
    clear hK K kl
    try simp only [Act.put, List.setIfInBounds_toArray, List.set_cons_zero, List.set_cons_succ]
    have HI : Hid _ := insL_end (vb := Wa.heap.size) (news := l.cells) (HO.out Wb (HUa.out.trans HB.out.1)) hn rfl (fun j u hj => by
      rw [Addr.add_lit, cell_of_row _ _ _ _ _ _ HB.out.2, Nat.zero_add]
      unfold Loan.cells at hj
      simpa using hj) (by intro u hu; unfold Loan.cells at hu; simp at hu; rcases hu with rfl | rfl | rfl | rfl <;> rfl)
    refine wpAnyH_ready (rs := [7]) (by kernel_rfl) (by simp) ?_
    refine AllReadyH.cons (by simp only [List.getElem?_toArray, List.getElem?_cons_succ, List.getElem?_cons_zero]; rfl) (fun K hK => ?_) AllReadyH.nil
    go_simp
    generalize Wa.heap.size = vb at HI ⊢
    refine Calls.mono HI.out ?_
    rintro e w1 ⟨v', rfl, hown, hgrow, hat⟩
    have U2 : Up W Wb := HUa.out.trans HB.out.1
    have hqs : q < W.heap.size := heap_at HW.out.1
    have HG : Hid (w1.ownsRow 0 104 4 v' (ls.length + 1) (loanCells ls ++ l.cells) ∧ Chg W (w1.setCell ⟨q, o, none⟩ v') q o (.slice va vn vc) v') := ⟨hown, Chg.grown (ob := none) U2 hgrow hqs HW.out.2.2 hat⟩
    have hq1 : w1.heap[q]? = some (.cells cs ty (0, 0)) := (hgrow.block q (Nat.lt_of_lt_of_le hqs U2.size) (fun e => HW.out.2.2 e.symm)).trans ((U2.block q hqs).trans HW.out.1)
    have k1 := heap_cell hq1 HW.out.2.1
    have z1 : w1.frozen? ⟨q, o, none⟩ = false := heap_fz hq1
    have HN : Hid (v'.ownBlock ≠ some q) := fun e => by
      rcases hat with h | h
      · exact HW.out.2.2 (h ▸ e)
      · rw [h] at e
        have := Option.some.inj e
        have := U2.size
        omega
    have HS1 : Hid (w1.cell? ⟨q, o, none⟩ = some (.slice va vn vc) ∧ w1.rangeAt sb 0 l.cells) := ⟨k1, fun k u hv => by
      have hb : sb < Wb.heap.size := Nat.lt_of_lt_of_le HZ.out HB.out.1.size
      have hw : w1.heap[sb]? = Wb.heap[sb]? := hgrow.block sb hb (fun e => by have := HOB.out sb e.symm; have := HSZ.out; omega)
      have := (HS.out Wb HB.out.1).2 k u hv
      unfold World.cell? at this ⊢
      simp only [hw]
      exact this⟩
    obtain ⟨va', vn', vc', rfl⟩ := own_slice3 hown
    clear hown hgrow hat HI hq1
    refine hK.out _ _ ?_ (fun hHeld => ?_)
    · (try dsimp only); exact HS1.out.2
    clear hK K
    try simp only [Act.put, List.setIfInBounds_toArray, List.set_cons_zero, List.set_cons_succ]
    refine wpAnyH_take (i := 8) (v := ?_) (by simp only [List.getElem?_toArray, List.getElem?_cons_succ, List.getElem?_cons_zero]; rfl) (by kernel_rfl) (by kernel_rfl) (by kernel_rfl) (by intro _ _ _ h; exact h) (Or.inl ⟨by rfl, ?_⟩) (by assumption) ?_
    rotate_left
    · (intro w hSw; (try dsimp only at hSw); go_simp <;> with_reducible rfl)
    try simp only [Act.put, List.setIfInBounds_toArray, List.set_cons_zero, List.set_cons_succ]
    refine wpAnyH_ready (rs := [9]) (by kernel_rfl) (by simp) ?_
    refine AllReadyH.cons (by simp only [List.getElem?_toArray, List.getElem?_cons_succ, List.getElem?_cons_zero]; rfl) (fun K hK => ?_) AllReadyH.nil
    go_simp
    have fs : Fr q w1 (w1.setCell ⟨q, o, none⟩ (.slice va' vn' vc')) := (Fr.refl q w1).setCell
    refine hK.out _ _ ?_ (fun hHeld => ?_)
    · (try dsimp only)
      intro k u hv
      have := HS1.out.2 k u hv
      have hne : sb ≠ q := by have := heap_at HW.out.1; have := HSZ.out; omega
      rw [← this]
      exact fs.cell (World.block_lt_of_cell? _ _ this) hne
    clear hK K
    try simp only [Act.put, List.setIfInBounds_toArray, List.set_cons_zero, List.set_cons_succ]
    refine wpAnyH_done (by kernel_rfl) ?_ _
    go_wp2_with fail
    go_end0
    refine ⟨rfl, _, HG.out.2, ?_⟩
    rw [loanCells_append, List.length_append]
    exact ownsRow_block HG.out.1 (fun g hg => fs.block g (HG.out.1.lt g hg).2 (fun e => HN.out (e ▸ hg)))
end Go.Proofs.Yteijdcidemajfaa
