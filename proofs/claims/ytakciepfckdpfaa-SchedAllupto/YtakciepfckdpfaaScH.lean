/- Sched: New, has, Add, Remove, Ready, End. -/
import Derived.Test.YtakciepfckdpfaaScG
import Derived.Test.YtakciepfckdpfaaTabL
namespace Go.Proofs.Ytakciepfckdpfaa
open Go.RowKit
set_option linter.unusedVariables false
set_option linter.unusedSimpArgs false
variable {w w' W : World} {K K' : Nat → Prop} {sb sg sc : Nat} {rv rv' : Value} {S S' : Sd}
theorem madeM (k : Nat) : (madeCells #[.int .i64 0, .bool false] (k * 2)).toList = memCells (List.replicate k ⟨0, false⟩) := by
  refine List.ext_getElem? fun j => ?_
  have e1 : (madeCells #[.int .i64 0, .bool false] (k * 2)).size = k * 2 := by simp [madeCells]
  by_cases hj : j < k * 2
  · rw [Array.getElem?_toList]
    have h2 := memCells_at (List.replicate k (⟨0, false⟩ : Mem)) (j / 2) (j % 2) ⟨0, false⟩ (by rw [List.getElem?_replicate, if_pos (by omega)]) (by omega)
    rw [show j / 2 * 2 + j % 2 = j by omega] at h2
    rw [h2]
    have : j % 2 = 0 ∨ j % 2 = 1 := by omega
    rcases this with e | e <;> simp [madeCells, e, hj, Mem.cells, Array.getElem?_range]
  · rw [List.getElem?_eq_none (by rw [Array.length_toList, e1]; omega), List.getElem?_eq_none (by rw [memCells_len, List.length_replicate]; omega)]
set_option maxRecDepth 100000 in
set_option maxHeartbeats 1000000 in
theorem new_ok {k : Nat} (h1 : 1 ≤ k) (h2 : k ≤ 8) (hk : ∀ b, K b → b < W.heap.size) :
    Calls Try.prog 23 #[.int .i64 (k : Int)] W fun e w' => ∃ sb, e = .returned (.tuple #[.pointer (some ⟨sb, 0, none⟩), .int .i64 0]) ∧ SdAt K w' sb ⟨[], List.replicate k ⟨0, false⟩⟩ ∧ Up W w' ∧ W.heap.size ≤ sb := by
  have hmk : ∀ w : World, (Instr.makeSlice 62 (.int .i64 (k : Int)) (.int .i64 (k : Int))).run Try.prog w = .ok (.slice (some ⟨w.heap.size, 0, none⟩) k k) (w.alloc (.cells (madeCells #[.int .i64 0, .bool false] (k * 2)) 60)) := fun w => by
    have := run_make (P := Try.prog) w 62 60 Try.t60 (.agg #[.int .i64 0, .bool false]) Try.underlying62 (by kernel_rfl) rfl .i64 .i64 (k : Int) (k : Int) (by omega) (by omega) (by show (16 : Int) * (k : Int) ≤ 281474976710656; omega) (by omega)
    have e2 : Try.t60.size = 2 := rfl
    have e1 : (Value.agg #[.int .i64 0, .bool false]).cells = #[.int .i64 0, .bool false] := rfl
    rw [e1, e2] at this
    simpa using this
  have HE : Hid (∀ w1 w2 : World, w1 = W.alloc (.cells (madeCells #[.int .i64 0, .bool false] (k * 2)) 60) → w2 = w1.alloc (.cells #[.slice none 0 0, .slice (some ⟨W.heap.size, 0, none⟩) k k] 64) → SdAt K w2 w1.heap.size ⟨[], List.replicate k ⟨0, false⟩⟩ ∧ Up W w2 ∧ W.heap.size ≤ w1.heap.size) := fun w1 w2 e1 e2 => by
    have s1 : w1.heap.size = W.heap.size + 1 := by rw [e1]; simp
    have s2 : w2.heap.size = W.heap.size + 2 := by rw [e2]; simp [s1]
    have u1 : Up W w1 := by rw [e1]; exact (Up.refl W).alloc _
    have u2 : Up w1 w2 := by rw [e2]; exact (Up.refl w1).alloc _
    have b1 : w1.heap[W.heap.size]? = some (.cells (madeCells #[.int .i64 0, .bool false] (k * 2)) 60 (0, 0)) := by rw [e1]; exact heap_alloc_new W _
    have b2 : w2.heap[w1.heap.size]? = some (.cells #[.slice none 0 0, .slice (some ⟨W.heap.size, 0, none⟩) k k] 64 (0, 0)) := by rw [e2]; exact heap_alloc_new w1 _
    refine ⟨⟨W.heap.size, k, .slice none 0 0, fun b hb => ?_, fun b hb => ?_, ?_, ?_, ?_, ?_, ?_, ?_, ?_⟩, u1.trans u2, by omega⟩
    · have := hk b hb
      exact ⟨by omega, by omega, by simp [Value.ownBlock]⟩
    · have := hk b hb
      omega
    · show _ = some (Obj.cells #[_, .slice _ (List.replicate k _).length k] _ _)
      rw [List.length_replicate]
      exact b2
    · show World.ownsRow _ _ _ _ (.slice _ (List.replicate k _).length k) (List.replicate k _).length _
      rw [List.length_replicate]
      refine own_of ((u2.block _ (by omega)).trans b1) (Nat.zero_le _) (Nat.le_refl _) (by unfold maxLen; omega) (by simp [madeCells]) (by rw [memCells_len, List.length_replicate]) (fun j hj => ?_)
      rw [← madeM, Array.getElem?_toList]
    · exact ⟨rfl, Or.inl ⟨rfl, rfl⟩⟩
    · omega
    · simp [Value.ownBlock]
    · simp [Value.ownBlock]
    · exact Nat.zero_le _
  have d1 : ¬ (k : Int) < 1 := by omega
  have d2 : ¬ (8 : Int) < (k : Int) := by omega
  clear hk
  go_enter Try.func23, Try.ntmps23
  go_wp2_with fail
  go_ret2
  exact ⟨_, by first | rfl | (simp; done), HE.out _ _ rfl rfl⟩
set_option maxRecDepth 100000 in
theorem new_no {x : Int} (hx : I64 x) (h : x < 1 ∨ 8 < x) :
    Calls Try.prog 23 #[.int .i64 x] W fun e w' => e = .returned (.tuple #[.pointer none, .int .i64 1]) ∧ w' = W := by
  obtain ⟨x1, x2⟩ := hx
  by_cases d1 : x < 1
  · clear h
    go_enter Try.func23, Try.ntmps23
    go_wp2_with fail
    go_ret2
    exact ⟨by first | rfl | (simp; done), rfl⟩
  · have d2 : (8 : Int) < x := by omega
    clear h
    go_enter Try.func23, Try.ntmps23
    go_wp2_with fail
    go_ret2
    exact ⟨by first | rfl | (simp; done), rfl⟩
set_option maxRecDepth 100000 in
theorem has_any (h : SdR K W sb sg sc rv S) {x : Int} :
    Calls Try.prog 24 #[.pointer (some ⟨sb, 0, none⟩), .int .i64 x] W fun e w' => e = .returned (.bool (decide (0 ≤ x ∧ x < (S.slo.length : Int)))) ∧ w' = W := by
  have k1 := h.k1
  obtain ⟨l1, l2⟩ := h.scl
  clear h
  generalize S.slo.length = n at *
  by_cases h0 : 0 ≤ x
  · by_cases h1 : x < (n : Int)
    · rw [decide_eq_true (show 0 ≤ x ∧ x < (n : Int) from ⟨h0, h1⟩)]
      go_enter Try.func24, Try.ntmps24
      go_wp2
      go_ret
      exact ⟨by first | rfl | (simp; done), rfl⟩
    · rw [decide_eq_false (fun h => h1 h.2)]
      go_enter Try.func24, Try.ntmps24
      go_wp2
      go_ret
      exact ⟨by first | rfl | (simp; done), rfl⟩
  · rw [decide_eq_false (fun h => h0 h.1)]
    go_enter Try.func24, Try.ntmps24
    go_wp2
    go_ret
    exact ⟨by first | rfl | (simp; done), rfl⟩
/-- named and first together, in any world that has grown -/
theorem SdR.first (h : SdR K W sb sg sc rv S) {id : Int} {q : Nat} (u : Up W w) (hq : w.cell? ⟨q, 0, none⟩ = some (.int .i64 id)) :
    Calls Try.prog 25 #[.pointer (some ⟨sb, 0, none⟩), .func (.func 41) #[] #[.pointer (some ⟨q, 0, none⟩)]] w fun e w' => e = .returned (.int .i64 (idxI (S.at id) S.rnd.length)) ∧ Up W w' :=
  (firstN_any (h.up u).blk (h.up u).row hq (sg := sg) (sc := sc)).mono fun e w' ⟨h1, h2⟩ => ⟨h1, u.trans h2⟩
theorem SdR.next (h : SdR K W sb sg sc rv S) {q : Nat} (u : Up W w) (hq : w.cell? ⟨q, 0, none⟩ = some (.pointer (some ⟨sb, 0, none⟩))) :
    Calls Try.prog 25 #[.pointer (some ⟨sb, 0, none⟩), .func (.func 39) #[] #[.pointer (some ⟨q, 0, none⟩)]] w fun e w' => e = .returned (.int .i64 (idxI S.next S.rnd.length)) ∧ Up W w' :=
  (firstW_any (s1 := rv) (ss := S.slo) (h.up u).blk (h.up u).row (h.up u).slo hq).mono fun e w' ⟨h1, h2⟩ => ⟨h1, u.trans h2⟩
end Go.Proofs.Ytakciepfckdpfaa
