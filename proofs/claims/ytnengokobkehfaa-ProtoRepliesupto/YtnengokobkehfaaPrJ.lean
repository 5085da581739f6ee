/- Proto: a frame's content; the first frame; strings. -/
import Derived.Test.YtnengokobkehfaaPrI
import Derived.Laws.BytesArg
namespace Go.Proofs.Ytnengokobkehfaa
open Go.RowKit
set_option linter.unusedVariables false
variable {w w' W : World}
theorem heap_new1 (W : World) (a : Obj) {k : Nat} (hk : W.heap.size = k) : (W.alloc a).heap[k]? = some a := by
  subst hk
  exact heap_alloc_new W a
theorem alloc4 (W : World) (a b c d : Obj) : Up W ((((W.alloc a).alloc b).alloc c).alloc d) ∧ ((((W.alloc a).alloc b).alloc c).alloc d).heap[W.heap.size]? = some a ∧ ((((W.alloc a).alloc b).alloc c).alloc d).heap[W.heap.size + 1]? = some b ∧ ((((W.alloc a).alloc b).alloc c).alloc d).heap[W.heap.size + 1 + 1]? = some c ∧ ((((W.alloc a).alloc b).alloc c).alloc d).heap[W.heap.size + 1 + 1 + 1]? = some d := by
  have ua : Up (W.alloc a) ((((W.alloc a).alloc b).alloc c).alloc d) := (((Up.refl _).alloc _).alloc _).alloc _
  have ub : Up ((W.alloc a).alloc b) ((((W.alloc a).alloc b).alloc c).alloc d) := ((Up.refl _).alloc _).alloc _
  have uc : Up (((W.alloc a).alloc b).alloc c) ((((W.alloc a).alloc b).alloc c).alloc d) := (Up.refl _).alloc _
  refine ⟨((Up.refl W).alloc _).trans ua, (ua.block _ (by simp)).trans (heap_alloc_new W a), (ub.block _ (by simp)).trans (heap_new1 _ b (by simp)), (uc.block _ (by simp)).trans (heap_new1 _ c (by simp)), heap_new1 _ d (by simp)⟩
/-- what comes of a frame -/
def FrameAns (W : World) (r : Except Int C) (x : Ending) (w' : World) : Prop :=
  match r with
  | .ok c => (∃ u, x = .returned (.tuple #[.agg (cCells c u), .int .i64 0]) ∧ BsC W.heap.size w' u c) ∧ Up W w'
  | .error e => x = .returned (.tuple #[.agg (cCells (C0 0) u0), .int .i64 e]) ∧ Up W w'
set_option maxRecDepth 100000 in
set_option maxHeartbeats 600000 in
theorem contentOf_any {T : Tab} {tv : Value} {g O o n cp : Nat} {f : Nat → Int} (W0 W : World) (hT : TabAt W0 tv T) (hU0 : Up W0 W) (hD : Dt W g O (o + n) f) (hn : 1 ≤ n) (hc : n ≤ cp) (hm : cp ≤ maxLen) :
    Calls Try.prog 29 #[.slice (some ⟨g, O + o, none⟩) n cp, tv] W (FrameAns W (parseF T f o n)) := by
  have hmf : ∀ (fn : Fn) (first cap : Array Value) (w : World), (Instr.makeFunc fn first cap).run Try.prog w = .ok (.func fn first cap) w := fun _ _ _ _ => rfl
  obtain ⟨tg, rfl, hTT⟩ := hT.ex
  have HT : Hid (TabAt W0 (.slice (some ⟨tg, 0, none⟩) T.length T.length) T) := hT
  have HU0 : Hid (Up W0 W) := hU0
  have HD : Hid (Dt W g O (o + n) f) := hD
  clear hT hU0 hD hTT
  obtain ⟨R, hR⟩ : ∃ R, R = parseF T f o n := ⟨_, rfl⟩
  have HP : Hid (R = parseF T f o n) := hR
  rw [← hR]
  clear hR
  go_enter Try.func29, Try.ntmps29
  go_wp2_with fail
  obtain ⟨hU4, q0, q1, q2, q3⟩ := alloc4 W (.cells #[.slice (some ⟨g, O + o, none⟩) n cp] 22) (.cells #[.slice (some ⟨tg, 0, none⟩) T.length T.length] 53) (.cells (cCells (C0 0) u0) 63) (.cells (cCells (C0 0) u0) 63)
  have HA : Hid _ := attempt_any W0 _ HT.out (HU0.out.trans hU4) (HD.out.up hU4) hn hc hm (heap_cell q0 rfl) (heap_cell q1 rfl) q3
  rw [← HP.out] at HA
  have HQ2 : Hid _ := q2
  have HQ3 : Hid _ := q3
  have HU4 : Hid _ := hU4
  clear q0 q1 q2 q3 hU4
  refine Calls.mono HA.out ?_
  change ∀ (e : Ending) (w' : World), AttAns ((((W.alloc (.cells #[.slice (some ⟨g, O + o, none⟩) n cp] 22)).alloc (.cells #[.slice (some ⟨tg, 0, none⟩) T.length T.length] 53)).alloc (.cells (cCells (C0 0) u0) 63)).alloc (.cells (cCells (C0 0) u0) 63)) (W.heap.size + 1 + 1 + 1) R e w' → _
  have hs4 : ((((W.alloc (.cells #[.slice (some ⟨g, O + o, none⟩) n cp] 22)).alloc (.cells #[.slice (some ⟨tg, 0, none⟩) T.length T.length] 53)).alloc (.cells (cCells (C0 0) u0) 63)).alloc (.cells (cCells (C0 0) u0) 63)).heap.size = W.heap.size + 4 := by simp
  generalize ((((W.alloc (.cells #[.slice (some ⟨g, O + o, none⟩) n cp] 22)).alloc (.cells #[.slice (some ⟨tg, 0, none⟩) T.length T.length] 53)).alloc (.cells (cCells (C0 0) u0) 63)).alloc (.cells (cCells (C0 0) u0) 63)) = w4 at *
  have HA3 : Hid (w4.heap[W.heap.size + 1 + 1]? = some (.cells (cCells (C0 0) u0) 63 (0, 0))) := HQ2.out
  have HB3 : Hid (w4.heap[W.heap.size + 1 + 1 + 1]? = some (.cells (cCells (C0 0) u0) 63 (0, 0))) := HQ3.out
  clear HA HQ2 HQ3
  cases R with
  | error x =>
    rintro e w5 ⟨rfl, hU⟩
    have hH : w5.heap[W.heap.size + 1 + 1 + 1]? = some (.cells (cCells (C0 0) u0) 63 (0, 0)) := (hU.block _ (by omega)).trans HB3.out
    have hz : w5.heap[W.heap.size + 1 + 1]? = some (.cells (cCells (C0 0) u0) 63 (0, 0)) := (hU.block _ (by omega)).trans HA3.out
    have hB : BsC (W.heap.size + 4) w5 u0 (C0 0) := BsC.zero _ _ _
    have hU5 : Up W w5 := HU4.out.trans hU
    have HRg : Hid (w5.rangeAt (W.heap.size + 1 + 1 + 1) 0 (cCells (C0 0) u0).toList) := range_heap hH
    have HZ : Hid (w5.heap[W.heap.size + 1 + 1]? = some (.cells (cCells (C0 0) u0) 63 (0, 0))) := hz
    have HB : Hid (BsC (W.heap.size + 4) w5 u0 (C0 0)) := hB
    have HU5 : Hid (Up W w5) := hU5
    clear hH hz hB hU5
    go_wp2_with (first
      | (refine wpList_load_mid rfl 63 _ rfl (W.heap.size + 1 + 1 + 1) 0 rfl (cCells (C0 0) u0).toList _ HRg.out Try.underlying63 rfl (by kernel_rfl) ?_)
      | (refine wpList_store_rowTo rfl 63 _ _ rfl rfl (W.heap.size + 1 + 1) (cCells (C0 0) u0) rfl rfl 63 _ HZ.out (by kernel_rfl) rfl (cCells_one (C0 0) HB.out.one) ?_))
    refine bodyPost_ret (results_row_tmp rfl _ _ (W.heap.size + 1 + 1) 63 (cCells (C0 0) u0) (0, 0) _ rfl (setRow_heap _ _ _ _ _ _ HZ.out) Try.underlying63 (by kernel_rfl) (by kernel_rfl)) rfl ?_
    exact ⟨rfl, HU5.out.setRow (by omega) _⟩
  | ok c =>
    rintro e w5 ⟨⟨u, rfl, hH, hB⟩, hF⟩
    have hz : w5.heap[W.heap.size + 1 + 1]? = some (.cells (cCells (C0 0) u0) 63 (0, 0)) := (hF.block _ (by omega) (by omega)).trans HA3.out
    rw [hs4] at hB
    have hU5 : Up W w5 := Fr.up HU4.out (by omega) hF
    have HRg : Hid (w5.rangeAt (W.heap.size + 1 + 1 + 1) 0 (cCells c u).toList) := range_heap hH
    have HZ : Hid (w5.heap[W.heap.size + 1 + 1]? = some (.cells (cCells (C0 0) u0) 63 (0, 0))) := hz
    have HB : Hid (BsC (W.heap.size + 4) w5 u c) := hB
    have HU5 : Hid (Up W w5) := hU5
    clear hH hz hB hU5
    go_wp2_with (first
      | (refine wpList_load_mid rfl 63 _ rfl (W.heap.size + 1 + 1 + 1) 0 rfl (cCells c u).toList _ HRg.out Try.underlying63 rfl (by kernel_rfl) ?_)
      | (refine wpList_store_rowTo rfl 63 _ _ rfl rfl (W.heap.size + 1 + 1) (cCells c u) rfl rfl 63 _ HZ.out (by kernel_rfl) rfl (cCells_one c HB.out.one) ?_))
    refine bodyPost_ret (results_row_tmp rfl _ _ (W.heap.size + 1 + 1) 63 (cCells c u) (0, 0) _ rfl (setRow_heap _ _ _ _ _ _ HZ.out) Try.underlying63 (by kernel_rfl) (by kernel_rfl)) rfl ?_
    exact ⟨⟨u, rfl, (HB.out.keep fun b hb _ => setRow_other _ _ _ _ (by omega)).mono (by omega)⟩, HU5.out.setRow (by omega) _⟩
theorem conv_nil (a : Option Addr) (c : Nat) (w : World) : (convert 22 9 (.slice a 0 c)).run Try.prog w = .ok (.string (strOfNums [])) w := by
  cases a with
  | none => kernel_rfl
  | some ad => kernel_rfl
theorem Bs.conv {lo : Nat} {v : Value} {l : List Int} (h : Bs lo w v l) : (convert 22 9 v).run Try.prog w = .ok (.string (strOfNums l)) w := by
  obtain ⟨a, g, o, c, rfl, h1, h2, h3, h4⟩ := h.ex
  by_cases hl : 0 < l.length
  · obtain ⟨rfl, _⟩ := h3 hl
    refine run_convert_bytes_arg w 22 5 Try.underlying22 Try.underlying5 g o l.length c l rfl (fun i hi => ?_) 9 Try.underlying9
    refine h4 i _ ?_
    rw [List.getD_eq_getElem?_getD, List.getElem?_eq_getElem hi]
    rfl
  · have e : l = [] := List.length_eq_zero_iff.1 (by omega)
    subst e
    exact conv_nil a c w
/-- the first frame -/
def FirstV (g O a c : Nat) : Fst → Value
  | .wait => .tuple #[.slice none 0 0, .int .i64 0]
  | .bad => .tuple #[.slice none 0 0, .int .i64 121]
  | .whole L => .tuple #[.slice (some ⟨g, O + (a + 4), none⟩) L c, .int .i64 0]
set_option maxRecDepth 100000 in
set_option maxHeartbeats 600000 in
theorem first_any {g O N a c : Nat} {f : Nat → Int} (ad : Option Addr) (w : World) (hD : Dt w g O N f) (ha : a ≤ N) (hc : N - a ≤ c) (hm : c ≤ maxLen) (had : a < N → ad = some ⟨g, O + a, none⟩) :
    Calls Try.prog 28 #[.slice ad (N - a) c] w fun e w' => e = .returned (FirstV g O a (c - 4) (fstF f N a)) ∧ w' = w := by
  have HD : Hid (Dt w g O N f) := hD
  obtain ⟨F, hF⟩ : ∃ F, F = fstF f N a := ⟨_, rfl⟩
  have HF : Hid (F = fstF f N a) := hF
  rw [← hF]
  clear hF hD
  unfold maxLen at hm
  obtain ⟨m, hmm⟩ : ∃ m, m = N - a := ⟨_, rfl⟩
  have HM : Hid (m = N - a) := hmm
  rw [← hmm] at hc ⊢
  clear hmm
  by_cases h4 : m < 4
  · have HE : Hid (F = .wait) := by show _ = _; rw [HF.out]; exact fst_wait.2 (Or.inl (by have := HM.out; omega))
    have h4i : (m : Int) < 4 := by omega
    clear had
    go_enter Try.func28, Try.ntmps28
    go_wp2_with fail
    go_ret2
    rw [HE.out]
    exact ⟨rfl, rfl⟩
  · have had' := had (by have := HM.out; omega)
    subst had'
    have h4i : (4 : Int) ≤ m := by omega
    have hN4 : a + 4 ≤ N := by have := HM.out; omega
    have hc4 : 4 ≤ c := by omega
    obtain ⟨x, hx⟩ : ∃ x, x = num f a 4 := ⟨_, rfl⟩
    have HX : Hid (num f a 4 = x) := hx.symm
    have hx0 : 0 ≤ x := by rw [hx]; exact num_lo HD.out.u8 _ _
    have hx1 : x < 4294967296 := by rw [hx]; exact num_hi4 HD.out.u8 _ _ (by omega)
    have HB : Hid _ := numberOf_any a 4 c (Nat.le_refl _) hN4 w HD.out
    clear hx had
    by_cases hb : x < 1 ∨ 262400 < x
    · have HE : Hid (F = .bad) := by show _ = _; rw [HF.out]; exact fst_bad.2 ⟨hN4, by rw [HX.out]; exact hb⟩
      clear HF HM
      rcases hb with hb | hb
      · go_enter Try.func28, Try.ntmps28
        go_wp2_with fail
        refine Calls.mono HB.out ?_
        rintro e w1 ⟨rfl, rfl⟩
        rw [HX.out]
        go_wp2_with fail
        go_ret2
        rw [HE.out]
        exact ⟨rfl, rfl⟩
      · have hb' : ¬ x < 1 := by omega
        go_enter Try.func28, Try.ntmps28
        go_wp2_with fail
        refine Calls.mono HB.out ?_
        rintro e w1 ⟨rfl, rfl⟩
        rw [HX.out]
        go_wp2_with fail
        go_ret2
        rw [HE.out]
        exact ⟨rfl, rfl⟩
    · have hb1 : ¬ x < 1 := by omega
      have hb2 : ¬ 262400 < x := by omega
      by_cases hL : N < a + 4 + x.toNat
      · have HE : Hid (F = .wait) := by show _ = _; rw [HF.out]; exact fst_wait.2 (Or.inr (by rw [HX.out]; exact ⟨hb, hL⟩))
        have hmL : ((m - 4 : Nat) : Int) < x := by have := HM.out; omega
        clear HF HM hb hL
        go_enter Try.func28, Try.ntmps28
        go_wp2_with fail
        refine Calls.mono HB.out ?_
        rintro e w1 ⟨rfl, rfl⟩
        rw [HX.out]
        go_wp2_with fail
        all_goals
          go_ret2
          rw [HE.out]
          exact ⟨rfl, rfl⟩
      · have HE : Hid (F = .whole x.toNat) := by show _ = _; rw [HF.out]; exact fst_whole.2 ⟨by omega, by omega, by omega, by rw [HX.out]; omega⟩
        have hmL : x ≤ ((m - 4 : Nat) : Int) := by have := HM.out; omega
        have hmL2 : x.toNat ≤ m - 4 := by omega
        have hmL3 : ¬ m - 4 < x.toNat := by omega
        have hne : ¬ c = 4 := by omega
        clear HF HM hb hL
        go_enter Try.func28, Try.ntmps28
        go_wp2_with fail
        refine Calls.mono HB.out ?_
        rintro e w1 ⟨rfl, rfl⟩
        rw [HX.out]
        go_wp2_with fail
        go_ret2
        rw [HE.out]
        exact ⟨rfl, rfl⟩
end Go.Proofs.Ytnengokobkehfaa
