/- Sched: who is next, and where a number stands. -/
import Derived.Test.YtakciepfckdpfaaScD
namespace Go.Proofs.Ytakciepfckdpfaa
open Go.RowKit
set_option linter.unusedVariables false
set_option maxRecDepth 100000 in
theorem contains_any {W : World} {g cap : Nat} {ls : List Mem} {id : Int} (hle : ls.length ≤ cap) (hm : cap ≤ maxLen) (HG : Hid (∀ w, Up W w → ∀ j l, ls[j]? = some l → w.rangeAt g (j * 2) l.cells)) :
    Calls Try.prog 45 #[.slice (some ⟨g, 0, none⟩) ls.length cap, .agg #[.int .i64 id, .bool true]] W fun e w' => e = .returned (.bool (ls.any (fun t => t.id == id && t.rd))) ∧ Up W w' := by
  have HI : Hid (∀ w, Up W w → Calls Try.prog 46 #[.slice (some ⟨g, 0, none⟩) ls.length cap, .agg #[.int .i64 id, .bool true]] w fun e w' => e = .returned (.int .i64 (idxI (ls.findIdx (fun l => id == l.id && true == l.rd)) ls.length)) ∧ Up w w') := fun w u =>
    idxT_any (x := ⟨id, true⟩) hle hm (fun w' u' => HG.out w' (u.trans u'))
  have hb : ls.any (fun t => t.id == id && t.rd) = decide (0 ≤ idxI (ls.findIdx (fun l => id == l.id && true == l.rd)) ls.length) := by
    have e1 : (fun l : Mem => id == l.id && true == l.rd) = (fun t : Mem => t.id == id && t.rd) := by
      funext t
      cases t.rd <;> simp [BEq.comm]
    rw [e1]
    by_cases h : ls.findIdx (fun t => t.id == id && t.rd) < ls.length
    · rw [idxI_lt h, List.findIdx_lt_length] at *
      rw [List.any_eq_true.2 h]
      simp
    · rw [idxI_no h]
      have h2 : ls.any (fun t => t.id == id && t.rd) = false := by
        rw [List.findIdx_lt_length] at h
        rw [Bool.eq_false_iff]
        intro h3
        exact h (List.any_eq_true.1 h3)
      rw [h2]
      simp
  rw [hb]
  have H0 : Hid (∀ w : World, w = W.alloc (.cells #[.int .i64 id, .bool true] 60) → Up W w ) := fun w hw => by
    subst hw
    exact (Up.refl W).alloc _
  have hz : ∀ z : Int, (decide (0 ≤ z)) = decide (0 ≤ z) := fun z => rfl
  clear hb HG
  generalize idxI (ls.findIdx (fun l => id == l.id && true == l.rd)) ls.length = r at HI ⊢
  generalize ls.length = n at HI hle ⊢
  go_enter Try.func45, Try.ntmps45
  go_wp2_with fail
  have H1 : Hid _ := H0.out _ rfl
  clear H0
  generalize World.alloc W _ = W1 at H1 ⊢
  refine (HI.out _ H1.out).mono ?_
  rintro e w2 ⟨rfl, u2⟩
  have H2 : Hid (Up W w2) := H1.out.trans u2
  clear u2 H1 HI
  go_wp2_with fail
  go_ret
  exact ⟨by first | rfl | (simp; done), H2.out⟩
set_option maxRecDepth 100000 in
/-- does a turn of the number go on? -/
theorem atWork_any {W : World} {sb g cap : Nat} {rv : Value} {ls : List Mem} {id : Int} (hs : W.heap[sb]? = some (.cells #[rv, .slice (some ⟨g, 0, none⟩) ls.length cap] 64 (0, 0))) (own : W.ownsRow 0 60 2 (.slice (some ⟨g, 0, none⟩) ls.length cap) ls.length (memCells ls)) :
    Calls Try.prog 40 #[.pointer (some ⟨sb, 0, none⟩), .int .i64 id] W fun e w' => e = .returned (.bool (ls.any (fun t => t.id == id && t.rd))) ∧ Up W w' := by
  obtain ⟨cur, _, _, hc, hm, _⟩ := own_open own
  have HC : Hid _ := contains_any (id := id) hc hm (fun w u j l hj => mem_range (ownsRow_up own u) hj)
  have k1 : W.cell? ⟨sb, 1, none⟩ = some (.slice (some ⟨g, 0, none⟩) ls.length cap) := heap_cell hs rfl
  clear own hs hc hm
  generalize ls.any (fun t => t.id == id && t.rd) = r at HC ⊢
  generalize ls.length = n at HC k1 ⊢
  go_enter Try.func40, Try.ntmps40
  go_wp2_with fail
  refine Calls.mono HC.out ?_
  rintro e w2 ⟨rfl, u2⟩
  have H2 : Hid (Up W w2) := u2
  clear u2
  go_wp2_with fail
  go_ret
  exact ⟨by first | rfl | (simp; done), H2.out⟩
set_option maxRecDepth 100000 in
/-- may it have the next turn? -/
theorem waiting1_any {W : World} {q sb g cap : Nat} {rv : Value} {ls : List Mem} {l : Mem} (h : W.cell? ⟨q, 0, none⟩ = some (.pointer (some ⟨sb, 0, none⟩)) ∧ W.heap[sb]? = some (.cells #[rv, .slice (some ⟨g, 0, none⟩) ls.length cap] 64 (0, 0)) ∧ W.ownsRow 0 60 2 (.slice (some ⟨g, 0, none⟩) ls.length cap) ls.length (memCells ls)) :
    Calls Try.prog 39 #[.agg l.cells.toArray, .pointer (some ⟨q, 0, none⟩)] W fun e w' => e = .returned (.bool (l.rd && !ls.any (fun t => t.id == l.id && t.rd))) ∧ Up W w' := by
  have hq := World.block_lt_of_cell? _ _ h.1
  have kq := h.1
  have HA : Hid (∀ w, Up W w → Calls Try.prog 40 #[.pointer (some ⟨sb, 0, none⟩), .int .i64 l.id] w fun e w' => e = .returned (.bool (ls.any (fun t => t.id == l.id && t.rd))) ∧ Up w w') := fun w u =>
    atWork_any ((u.block _ (heap_at h.2.1)).trans h.2.1) (ownsRow_up h.2.2 u)
  have H0 : Hid (∀ w : World, w = W.alloc (.cells #[.int .i64 l.id, .bool l.rd] 69) → Up W w) := fun w hw => by
    subst hw
    exact (Up.refl W).alloc _
  clear h
  unfold Mem.cells
  obtain ⟨li, lr⟩ := l
  dsimp only at *
  generalize ls.any (fun t => t.id == li && t.rd) = r at HA ⊢
  cases lr
  · go_enter Try.func39, Try.ntmps39
    go_wp2_with fail
    go_ret
    exact ⟨by first | rfl | (simp; done), H0.out _ rfl⟩
  · go_enter Try.func39, Try.ntmps39
    go_wp2_with fail
    have H1 : Hid _ := H0.out _ rfl
    clear H0
    generalize World.alloc W _ = W1 at H1 ⊢
    refine (HA.out _ H1.out).mono ?_
    rintro e w2 ⟨rfl, u2⟩
    have H2 : Hid (Up W w2) := H1.out.trans u2
    clear u2 H1 HA
    go_wp2_with fail
    go_ret
    exact ⟨by first | rfl | (simp; done), H2.out⟩
end Go.Proofs.Ytakciepfckdpfaa
