/- Arena: who stands where in a list of structs. -/
import Derived.Test.YteijdcidemajfaaArE
namespace Go.Proofs.Yteijdcidemajfaa
open Go.RowKit
set_option linter.unusedVariables false
theorem heap_at {w : World} {b : Nat} {cs : Array Value} {ty : TypeId} (h : w.heap[b]? = some (.cells cs ty (0, 0))) : b < w.heap.size := (Array.getElem?_eq_some_iff.1 h).1
set_option maxRecDepth 100000 in
/-- the question that held asks: is it the loan of that number? -/
theorem held1_any {W : World} {q : Nat} {l : Loan} {b : Int} (h : W.cell? ⟨q, 0, none⟩ = some (.int .i64 b)) :
    Calls Try.prog 69 #[.agg l.cells.toArray, .pointer (some ⟨q, 0, none⟩)] W fun e w' => e = .returned (.bool ((l.buf : Int) == b)) ∧ Up W w' := by
  have hq := World.block_lt_of_cell? _ _ h
  unfold Loan.cells
  go_enter Try.func69, Try.ntmps69
  go_wp2_with fail
  have u1 := (Up.refl W).alloc (Obj.cells #[.int .i64 (l.buf : Int), .int .i64 (l.cls : Int), .int .i64 (l.size : Int), .slice (some ⟨l.blk, 0, none⟩) l.size l.size] 104)
  go_ret
  exact ⟨by first | rfl | (simp; done), u1⟩
set_option maxRecDepth 100000 in
/-- the question that Take asks: has the class room? -/
theorem take1_any {W : World} {q : Nat} {s : Int} {v : Value} {b : Int} (h : W.cell? ⟨q, 0, none⟩ = some (.int .i64 b)) :
    Calls Try.prog 38 #[.agg #[.int .i64 s, v], .pointer (some ⟨q, 0, none⟩)] W fun e w' => e = .returned (.bool (decide (b ≤ s))) ∧ Up W w' := by
  have hq := World.block_lt_of_cell? _ _ h
  go_enter Try.func38, Try.ntmps38
  go_wp2_with fail
  have u1 := (Up.refl W).alloc (Obj.cells #[.int .i64 s, v] 94)
  go_ret
  exact ⟨by first | rfl | (simp; done), u1⟩
set_option maxRecDepth 100000 in
set_option maxHeartbeats 1000000 in
theorem idxL_any {W : World} {g cap : Nat} {ls : List Loan} {q : Nat} {b : Int} (hle : ls.length ≤ cap) (hm : cap ≤ maxLen) (HG : Hid (∀ w, Up W w → ∀ j l, ls[j]? = some l → w.rangeAt g (j * 4) l.cells)) (h : W.cell? ⟨q, 0, none⟩ = some (.int .i64 b)) :
    Calls Try.prog 90 #[.slice (some ⟨g, 0, none⟩) ls.length cap, .func (.func 69) #[] #[.pointer (some ⟨q, 0, none⟩)]] W fun e w' => e = .returned (.int .i64 (idxI (ls.findIdx (fun l => (l.buf : Int) == b)) ls.length)) ∧ Up W w' := by
  have HC : Hid (∀ w, Up W w → ∀ l : Loan, Calls Try.prog 69 #[.agg l.cells.toArray, .pointer (some ⟨q, 0, none⟩)] w fun e w' => e = .returned (.bool ((l.buf : Int) == b)) ∧ Up w w') := fun w u l => held1_any ((u.cell (World.block_lt_of_cell? _ _ h)).trans h)
  have hm2 : cap ≤ 9223372036854775807 := by unfold maxLen at hm; omega
  have H0 : Hid (Up W W) := Up.refl W
  clear h hm
  go_enter Try.func90, Try.ntmps90
  go_wp2_with fail
  go_loopw [5, 8] (fun _ K wr => ∃ k : Nat, k ≤ ls.length ∧ K = .int .i64 k ∧ Hid (∀ j y, j < k → ls[j]? = some y → (fun l : Loan => (l.buf : Int) == b) y = false) ∧ Hid (Up W wr)) (fun _ K _ => ls.length - (intOf K).toNat)
  case atStart => exact ⟨0, Nat.zero_le _, rfl, fun j y hj => absurd hj (by omega), H0⟩
  case round =>
    clear H0
    obtain ⟨k, hk, rfl, A, M0⟩ := hrel
    by_cases hlt : k < ls.length
    · have d1 : (k : Int) < (ls.length : Int) := by omega
      obtain ⟨l, hy⟩ : ∃ y, ls[k]? = some y := ⟨_, List.getElem?_eq_getElem hlt⟩
      have HY : Hid (ls[k]? = some l) := hy
      have HR : Hid _ := HG.out wr M0.out k l hy
      clear hy
      have HQ : Hid _ := HC.out wr M0.out l
      generalize hp : ((l.buf : Int) == b) = t at HQ
      have HP : Hid (((l.buf : Int) == b) = t) := hp
      clear hp
      cases t
      · go_wp2_with (refine wpList_load_mid rfl 104 _ rfl g (k * 4) rfl l.cells _ HR.out Try.underlying104 rfl (by kernel_rfl) ?_)
        refine Calls.mono HQ.out ?_
        rintro e w2 ⟨rfl, u2⟩
        have H2 : Hid (Up W w2) := M0.out.trans u2
        clear u2 HQ M0 HR
        go_wp2_with fail
        refine ⟨⟨k + 1, by omega, by first | rfl | (simp; done), fun j z hj hz => ?_, H2⟩, ?_⟩
        · by_cases e : j = k
          · subst e
            rw [HY.out] at hz
            injection hz with hz
            subst hz
            exact HP.out
          · exact A.out j z (by omega) hz
        · simp [intOf]
          omega
      · have HF : Hid (ls.findIdx (fun l => (l.buf : Int) == b) = k) := findIdx_hit HY.out HP.out A.out
        go_wp2_with (refine wpList_load_mid rfl 104 _ rfl g (k * 4) rfl l.cells _ HR.out Try.underlying104 rfl (by kernel_rfl) ?_)
        refine Calls.mono HQ.out ?_
        rintro e w2 ⟨rfl, u2⟩
        have H2 : Hid (Up W w2) := M0.out.trans u2
        clear u2 HQ M0 HR
        go_wp2_with fail
        go_ret
        exact ⟨by rw [HF.out]; unfold idxI; rw [if_pos hlt]; rfl, H2.out⟩
    · have d1 : ¬ (k : Int) < (ls.length : Int) := by omega
      have HF : Hid (ls.findIdx (fun l => (l.buf : Int) == b) = ls.length) := findIdx_none fun j y hj => A.out j y (by have := (List.getElem?_eq_some_iff.1 hj).1; omega) hj
      go_wp2_with fail
      go_ret
      exact ⟨by rw [HF.out]; unfold idxI; rw [if_neg (by omega)]; rfl, M0.out⟩
set_option maxRecDepth 100000 in
set_option maxHeartbeats 1000000 in
theorem idxS_any {W : World} {g cap : Nat} {ls : List (Int × Value)} {q : Nat} {b : Int} (hle : ls.length ≤ cap) (hm : cap ≤ maxLen) (HG : Hid (∀ w, Up W w → ∀ j l, ls[j]? = some l → w.rangeAt g (j * 2) [.int .i64 l.1, l.2])) (h : W.cell? ⟨q, 0, none⟩ = some (.int .i64 b)) :
    Calls Try.prog 37 #[.slice (some ⟨g, 0, none⟩) ls.length cap, .func (.func 38) #[] #[.pointer (some ⟨q, 0, none⟩)]] W fun e w' => e = .returned (.int .i64 (idxI (ls.findIdx (fun l => decide (b ≤ l.1))) ls.length)) ∧ Up W w' := by
  have HC : Hid (∀ w, Up W w → ∀ l : (Int × Value), Calls Try.prog 38 #[.agg #[.int .i64 l.1, l.2], .pointer (some ⟨q, 0, none⟩)] w fun e w' => e = .returned (.bool (decide (b ≤ l.1))) ∧ Up w w') := fun w u l => take1_any ((u.cell (World.block_lt_of_cell? _ _ h)).trans h)
  have hm2 : cap ≤ 9223372036854775807 := by unfold maxLen at hm; omega
  have H0 : Hid (Up W W) := Up.refl W
  clear h hm
  go_enter Try.func37, Try.ntmps37
  go_wp2_with fail
  go_loopw [5, 8] (fun _ K wr => ∃ k : Nat, k ≤ ls.length ∧ K = .int .i64 k ∧ Hid (∀ j y, j < k → ls[j]? = some y → (fun l : (Int × Value) => decide (b ≤ l.1)) y = false) ∧ Hid (Up W wr)) (fun _ K _ => ls.length - (intOf K).toNat)
  case atStart => exact ⟨0, Nat.zero_le _, rfl, fun j y hj => absurd hj (by omega), H0⟩
  case round =>
    clear H0
    obtain ⟨k, hk, rfl, A, M0⟩ := hrel
    by_cases hlt : k < ls.length
    · have d1 : (k : Int) < (ls.length : Int) := by omega
      obtain ⟨l, hy⟩ : ∃ y, ls[k]? = some y := ⟨_, List.getElem?_eq_getElem hlt⟩
      have HY : Hid (ls[k]? = some l) := hy
      have HR : Hid _ := HG.out wr M0.out k l hy
      clear hy
      have HQ : Hid _ := HC.out wr M0.out l
      generalize hp : (decide (b ≤ l.1)) = t at HQ
      have HP : Hid ((decide (b ≤ l.1)) = t) := hp
      clear hp
      cases t
      · go_wp2_with (refine wpList_load_mid rfl 94 _ rfl g (k * 2) rfl [.int .i64 l.1, l.2] _ HR.out Try.underlying94 rfl (by kernel_rfl) ?_)
        refine Calls.mono HQ.out ?_
        rintro e w2 ⟨rfl, u2⟩
        have H2 : Hid (Up W w2) := M0.out.trans u2
        clear u2 HQ M0 HR
        go_wp2_with fail
        refine ⟨⟨k + 1, by omega, by first | rfl | (simp; done), fun j z hj hz => ?_, H2⟩, ?_⟩
        · by_cases e : j = k
          · subst e
            rw [HY.out] at hz
            injection hz with hz
            subst hz
            exact HP.out
          · exact A.out j z (by omega) hz
        · simp [intOf]
          omega
      · have HF : Hid (ls.findIdx (fun l => decide (b ≤ l.1)) = k) := findIdx_hit HY.out HP.out A.out
        go_wp2_with (refine wpList_load_mid rfl 94 _ rfl g (k * 2) rfl [.int .i64 l.1, l.2] _ HR.out Try.underlying94 rfl (by kernel_rfl) ?_)
        refine Calls.mono HQ.out ?_
        rintro e w2 ⟨rfl, u2⟩
        have H2 : Hid (Up W w2) := M0.out.trans u2
        clear u2 HQ M0 HR
        go_wp2_with fail
        go_ret
        exact ⟨by rw [HF.out]; unfold idxI; rw [if_pos hlt]; rfl, H2.out⟩
    · have d1 : ¬ (k : Int) < (ls.length : Int) := by omega
      have HF : Hid (ls.findIdx (fun l => decide (b ≤ l.1)) = ls.length) := findIdx_none fun j y hj => A.out j y (by have := (List.getElem?_eq_some_iff.1 hj).1; omega) hj
      go_wp2_with fail
      go_ret
      exact ⟨by rw [HF.out]; unfold idxI; rw [if_neg (by omega)]; rfl, M0.out⟩
end Go.Proofs.Yteijdcidemajfaa
