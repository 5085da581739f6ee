/- Sched: the document's own answer: New, Add, Remove, Ready, End. -/
import Derived.Test.YtakciepfckdpfaaScU
namespace Go.Proofs.Ytakciepfckdpfaa
open Go.RowKit
set_option linter.unusedVariables false
set_option linter.unusedSimpArgs false
variable {w w' W : World} {K K' : Nat → Prop} {yb : Nat} {lv lv' sv sv' : Value} {S S' : Sd}
/-- the round has changed -/
theorem RfR.newRow {l : List Mem} (h : RfR K W yb lv sv S) (os : w.os = W.os) (out : w.output = W.output) (size : W.heap.size ≤ w.heap.size) (hB : ∀ b, b < W.heap.size → lv.ownBlock ≠ some b → w.heap[b]? = W.heap[b]?) (hv : ∀ b, lv'.ownBlock = some b → lv.ownBlock = some b ∨ W.heap.size ≤ b)
    (own : w.ownsRow 0 85 2 lv' l.length (memCells l)) (hl : l.length ≤ 64) (hg : ∀ m ∈ l, 0 ≤ m.id) : RfR K (w.setCell ⟨yb, 0, none⟩ lv') yb lv' sv { S with rnd := l } ∧ FK K W (w.setCell ⟨yb, 0, none⟩ lv') := by
  have l1 := heap_at h.blk
  have hf : Fr yb w (w.setCell ⟨yb, 0, none⟩ lv') := (Fr.refl yb w).setCell
  have ne : ∀ b, lv'.ownBlock = some b → b ≠ yb := fun b e e2 => by
    subst e2
    rcases hv b e with e | e
    · exact h.a1 e
    · omega
  exact h.chg (w' := w.setCell ⟨yb, 0, none⟩ lv') (lv' := lv') (S' := { S with rnd := l }) (hf.os.trans os) (hf.output.trans out) (Nat.le_trans size hf.size)
    (fun b h1 h2 h3 h4 => (hf.block b (Nat.lt_of_lt_of_le h1 size) h2).trans (hB b h1 h3)) hv
    (heap_setCell_same w yb 0 _ _ _ ((hB yb l1 h.a1).trans h.blk))
    (ownsRow_block own (fun g hg => hf.block g (own_lt own hg) (ne g hg)))
    (ownsRow_block h.slo (fun g hg => (hf.block g (Nat.lt_of_lt_of_le (own_lt h.slo hg) size) (fun e => h.a2 (e ▸ hg))).trans (hB g (own_lt h.slo hg) (fun e => h.a3 g e hg)))) hl ⟨hg, h.gd.slo⟩
set_option maxRecDepth 100000 in
set_option maxHeartbeats 1000000 in
theorem newR_ok {k : Nat} (h1 : 1 ≤ k) (h2 : k ≤ 8) (hk : ∀ b, K b → b < W.heap.size) :
    Calls Try.prog 29 #[.int .i64 (k : Int)] W fun e w' => ∃ yb, e = .returned (.tuple #[.pointer (some ⟨yb, 0, none⟩), .int .i64 0]) ∧ RfAt K w' yb ⟨[], offs k⟩ ∧ Up W w' ∧ W.heap.size ≤ yb := by
  obtain ⟨yb, hyb⟩ : ∃ yb, yb = W.heap.size := ⟨_, rfl⟩
  have H0 : Hid (∀ w : World, w = W.alloc (.cells #[.slice none 0 0, .slice none 0 0] 82) → ∃ sv, RfR K w yb (.slice none 0 0) sv ⟨[], offs 0⟩ ∧ Up W w ∧ ∀ b, sv.ownBlock = some b → W.heap.size ≤ b) := fun w hw => by
    have us : w.heap.size = W.heap.size + 1 := by rw [hw]; simp
    have ub : w.heap[yb]? = some (.cells #[.slice none 0 0, .slice none 0 0] 82 (0, 0)) := by rw [hw, hyb]; exact heap_alloc_new W _
    have uu : Up W w := by rw [hw]; exact (Up.refl W).alloc _
    refine ⟨.slice none 0 0, ⟨fun b hb => ⟨by have := hk b hb; omega, by simp [Value.ownBlock], by simp [Value.ownBlock]⟩, fun b hb => by have := hk b hb; omega, ub, ⟨rfl, Or.inl ⟨rfl, rfl⟩⟩, ⟨rfl, Or.inl ⟨rfl, rfl⟩⟩, by simp [Value.ownBlock], by simp [Value.ownBlock], fun g hg => by simp [Value.ownBlock] at hg, Nat.zero_le _, ⟨fun m hm => (by cases hm), fun m hm => (by cases hm)⟩⟩, uu, fun b hb => by simp [Value.ownBlock] at hb⟩
  have HE : Hid (∀ w w1 w2 i sv v', i < k → (RfR K w yb (.slice none 0 0) sv ⟨[], offs i⟩ ∧ Up W w ∧ ∀ b, sv.ownBlock = some b → W.heap.size ≤ b) → Up w w1 → w1.grownBy w2 sv.ownBlock → w2.ownsRow 0 3 1 v' (i + 1) (nums ((offs i).map slI) ++ [.int .i64 (-1)]) → (v'.ownBlock = sv.ownBlock ∨ v'.ownBlock = some w1.heap.size) → (∃ sv, RfR K (w2.setCell ⟨yb, 1, none⟩ v') yb (.slice none 0 0) sv ⟨[], offs (i + 1)⟩ ∧ Up W (w2.setCell ⟨yb, 1, none⟩ v') ∧ ∀ b, sv.ownBlock = some b → W.heap.size ≤ b) ∧ w2.cell? ⟨yb, 1, none⟩ = some sv ∧ w2.frozen? ⟨yb, 1, none⟩ = false) := fun w w1 w2 i sv v' hi ⟨h, hu, hsvb⟩ u g o at' => by
    have l1 := heap_at h.blk
    have hf : Fr yb w2 (w2.setCell ⟨yb, 1, none⟩ v') := (Fr.refl yb w2).setCell
    have hS2 := (g.block yb (Nat.lt_of_lt_of_le l1 u.size) (fun e => h.a2 e.symm)).trans ((u.block yb l1).trans h.blk)
    have hvb : ∀ b, v'.ownBlock = some b → sv.ownBlock = some b ∨ w.heap.size ≤ b := fun b e => by
      rcases at' with e1 | e1
      · exact Or.inl (e1 ▸ e)
      · rw [e1] at e
        injection e with e
        have := u.size
        exact Or.inr (by omega)
    have hne : ∀ b, v'.ownBlock = some b → b ≠ yb := fun b e e2 => by
      subst e2
      rcases hvb b e with e | e
      · exact h.a2 e
      · omega
    have hsz : w.heap.size ≤ (w2.setCell ⟨yb, 1, none⟩ v').heap.size := Nat.le_trans u.size (Nat.le_trans g.size hf.size)
    have hsl : offs (i + 1) = offs i ++ [⟨0, false⟩] := by unfold offs; rw [List.replicate_succ']
    refine ⟨⟨v', ⟨fun b hb => ⟨(h.kn b hb).1, (h.kn b hb).2.1, fun e => ?_⟩, fun b hb => Nat.lt_of_lt_of_le (h.kb b hb) hsz, heap_setCell_same w2 yb 1 _ _ _ hS2, ⟨rfl, Or.inl ⟨rfl, rfl⟩⟩, ?_, by simp [Value.ownBlock], fun e => hne _ e rfl, fun g hg => by simp [Value.ownBlock] at hg, Nat.zero_le _, ⟨fun m hm => (by cases hm), fun t ht hr => ?_⟩⟩, ?_, fun b e => ?_⟩, heap_cell hS2 rfl, heap_fz hS2⟩
    · rcases hvb b e with e | e
      · exact (h.kn b hb).2.2 e
      · have := h.kb b hb
        omega
    · show World.ownsRow _ 0 _ 1 v' (offs (i + 1)).length (nums ((offs (i + 1)).map slI))
      rw [hsl, List.length_append, List.map_append, nums_app, offs_len]
      exact ownsRow_block o (fun b e => hf.block b (own_lt o e) (hne b e))
    · have ht : t ∈ offs (i + 1) := ht
      rw [List.eq_of_mem_replicate ht] at hr
      cases hr
    · have hWy : W.heap.size ≤ yb := by omega
      refine ⟨hf.os.trans (g.os.trans (u.os.trans hu.os)), hf.output.trans (g.output.trans (u.output.trans hu.output)), Nat.le_trans hu.size hsz, fun b hb => ?_⟩
      have hbw := Nat.lt_of_lt_of_le hb hu.size
      refine (hf.block b (Nat.lt_of_lt_of_le (Nat.lt_of_lt_of_le hbw u.size) g.size) (by omega)).trans ((g.block b (Nat.lt_of_lt_of_le hbw u.size) (fun e => ?_)).trans ((u.block b hbw).trans (hu.block b hb)))
      have := hsvb b e.symm
      omega
    · rcases hvb b e with e | e
      · exact hsvb b e
      · exact Nat.le_trans hu.size e
  have HO : Hid (∀ w w1 i sv, RfR K w yb (.slice none 0 0) sv ⟨[], offs i⟩ → Up w w1 → w1.ownsRow 0 3 1 sv i (nums ((offs i).map slI)) ∧ w1.cell? ⟨yb, 1, none⟩ = some sv) := fun w w1 i sv h u => by
    have := (h.up u).slo
    have e : (⟨[], offs i⟩ : Sd).slo.length = i := offs_len i
    rw [e] at this
    exact ⟨this, (h.up u).k1⟩
  have hie : Try.prog.info? 3 = some Try.t3 := by kernel_rfl
  have d1 : ¬ (k : Int) < 1 := by omega
  have d2 : ¬ (8 : Int) < (k : Int) := by omega
  have HY : Hid (W.heap.size ≤ yb) := (by omega : W.heap.size ≤ yb)
  clear hk
  go_enter Try.func29, Try.ntmps29
  go_wp2_with fail
  rw [← hyb]
  have H1 := H0.out _ rfl
  clear H0
  generalize World.alloc W _ = W1 at H1 ⊢
  have HI : Hid (∃ sv, RfR K W1 yb (.slice none 0 0) sv ⟨[], offs 0⟩ ∧ Up W W1 ∧ ∀ b, sv.ownBlock = some b → W.heap.size ≤ b) := H1
  clear H1 hyb
  go_loopw [5] (fun I wr => ∃ i : Nat, i ≤ k ∧ I = .int .i64 (i : Int) ∧ Hid (∃ sv, RfR K wr yb (.slice none 0 0) sv ⟨[], offs i⟩ ∧ Up W wr ∧ ∀ b, sv.ownBlock = some b → W.heap.size ≤ b)) (fun I _ => k - (intOf I).toNat)
  case atStart => exact ⟨0, by omega, rfl, HI⟩
  case round =>
    clear HI
    obtain ⟨i, hi, rfl, HI⟩ := hrel
    obtain ⟨sv, hst⟩ := HI.out
    have HS : Hid _ := hst
    obtain ⟨xa, xn, xc, rfl⟩ := own_slice3 hst.1.slo
    by_cases hlt : i < k
    · have d3 : (i : Int) < (k : Int) := by omega
      have kc := (HO.out wr wr i _ hst.1 (Up.refl wr)).2
      have kz := hst.1.fz 1
      clear hst HI
      go_wp2_with (at_builtin; refine wpList_append_own_at2 _ rfl _ _ 35 35 rfl 0 3 Try.t3 (.int .i64 0) 1 8 Try.underlying35 Try.underlying35 hie rfl rfl rfl rfl (by decide) (.slice xa xn xc) i _ rfl (HO.out wr _ i _ HS.out.1 ((Up.refl wr).alloc _)).1 ⟨wr.heap.size, 0, none⟩ 1 1 [.int .i64 (-1)] rfl rfl (cell_one_new _ _ _) (by intro u hu; simp at hu; subst hu; rfl) (by unfold maxLen; omega) (by omega) (Nat.zero_le _) ?_; intro v' w3 ho hg hat; have H3 : Hid _ := HE.out wr _ w3 i _ v' hlt HS.out ((Up.refl wr).alloc _) hg ho hat; obtain ⟨va', vn', vc', rfl⟩ := own_slice3 ho; clear ho hg hat; have k3 := H3.out.2.1; have z3 := H3.out.2.2)
      refine ⟨⟨i + 1, by omega, by first | rfl | (simp; done), H3.out.1⟩, ?_⟩
      simp [intOf]
      omega
    · have d3 : ¬ (i : Int) < (k : Int) := by omega
      have e9 : i = k := by omega
      rw [e9] at HS
      clear hst HI HE HO
      go_wp2_with fail
      go_ret2
      exact ⟨_, by first | rfl | (simp; done), ⟨_, _, HS.out.1⟩, HS.out.2.1, HY.out⟩
set_option maxRecDepth 100000 in
theorem newR_no {x : Int} (hx : I64 x) (h : x < 1 ∨ 8 < x) :
    Calls Try.prog 29 #[.int .i64 x] W fun e w' => e = .returned (.tuple #[.pointer none, .int .i64 1]) ∧ w' = W := by
  obtain ⟨x1, x2⟩ := hx
  by_cases d1 : x < 1
  · clear h
    go_enter Try.func29, Try.ntmps29
    go_wp2_with fail
    go_ret2
    exact ⟨by first | rfl | (simp; done), rfl⟩
  · have d2 : (8 : Int) < x := by omega
    clear h
    go_enter Try.func29, Try.ntmps29
    go_wp2_with fail
    go_ret2
    exact ⟨by first | rfl | (simp; done), rfl⟩
end Go.Proofs.Ytakciepfckdpfaa
