/- Block: the document's New, Sectors, Pending, Limit. -/
import Derived.Test.YtekffilokdmfgaaBcA
import Derived.Test.YtekffilokdmfgaaBkE
namespace Go.Proofs.Ytekffilokdmfgaa
open Go.RowKit
set_option linter.unusedVariables false
variable {w w' W : World} {g n m o : Nat} {f f' : Nat → Int} {K K' : Nat → Prop} {sb : Nat} {A : Rd} {S : Sto}
/-- a store of bytes that are there -/
theorem RfAt.fresh {g cap : Nat} (hg : By w g (512 * n) f) (hn1 : 1 ≤ n) (hn2 : n ≤ 4096) (hc1 : 512 * n ≤ cap) (hc2 : cap ≤ maxLen) (hk : ∀ b, K b → b < w.heap.size ∧ b ≠ g) : RfAt K (w.alloc (.cells #[.slice (some ⟨g, 0, none⟩) (512 * n) cap, .slice none 0 0, .int .i64 (-1)] 61)) w.heap.size (Sto.fresh n f) := by
  have gl := hg.lt
  have hz := heap_alloc_lt w (.cells #[.slice (some ⟨g, 0, none⟩) (512 * n) cap, .slice none 0 0, .int .i64 (-1)] 61)
  refine ⟨⟨g, cap, .slice none 0 0, []⟩, fun b hb ho => ?_, fun b hb => Nat.lt_trans (hk b hb).1 hz, hn1, hn2, (by show (-1 : Int) ≤ -1; decide), (by show (-1 : Int) ≤ 9223372036854775807; decide), heap_alloc_new w _, hg.up ((Up.refl w).alloc _), hc1, hc2, rfl, ⟨rfl, Or.inl ⟨rfl, rfl⟩⟩, fun x hx => by (cases hx), ?_, ⟨by simp [Value.ownBlock], by simp [Value.ownBlock]⟩, fun x hx => by (cases hx)⟩
  · have hkb := hk b hb
    rcases ho with e | e | e | ⟨x, hx, _⟩
    · omega
    · exact hkb.2 e
    · exact absurd e (by simp [Value.ownBlock])
    · cases hx
  · show w.heap.size ≠ g
    omega
set_option maxRecDepth 100000 in
set_option maxHeartbeats 1000000 in
theorem newR_ok (hn1 : 1 ≤ n) (hn2 : n ≤ 4096) (hk : ∀ b, K b → b < W.heap.size) :
    Calls Try.prog 7 #[.int .i64 (n : Int)] W fun e w' => ∃ sb, e = .returned (.tuple #[.pointer (some ⟨sb, 0, none⟩), .int .i64 0]) ∧ RfAt K w' sb (Sto.fresh n (fun _ => 0)) ∧ Up W w' := by
  have e1 : (n : Int) * 512 = ((512 * n : Nat) : Int) := by omega
  have hmk : ∀ w : World, (Instr.makeSlice 25 (.int .i64 ((512 * n : Nat) : Int)) (.int .i64 ((512 * n : Nat) : Int))).run Try.prog w = .ok (.slice (some ⟨w.heap.size, 0, none⟩) (512 * n) (512 * n)) (w.alloc (.cells (madeCells #[.int .u8 0] (512 * n)) 5)) := fun w => mkB w (512 * n) (by omega)
  have HF : Hid (RfAt K ((W.alloc (.cells (madeCells #[.int .u8 0] (512 * n)) 5)).alloc (.cells #[.slice (some ⟨W.heap.size, 0, none⟩) (512 * n) (512 * n), .slice none 0 0, .int .i64 (-1)] 61)) (W.alloc (.cells (madeCells #[.int .u8 0] (512 * n)) 5)).heap.size (Sto.fresh n (fun _ => 0)) ∧ Up W ((W.alloc (.cells (madeCells #[.int .u8 0] (512 * n)) 5)).alloc (.cells #[.slice (some ⟨W.heap.size, 0, none⟩) (512 * n) (512 * n), .slice none 0 0, .int .i64 (-1)] 61))) := by
    have hz := heap_alloc_lt W (.cells (madeCells #[.int .u8 0] (512 * n)) 5)
    exact ⟨RfAt.fresh (made_by W (512 * n) 5) hn1 hn2 (Nat.le_refl _) (by unfold maxLen; omega) (fun b hb => by have := hk b hb; omega), ((Up.refl W).alloc _).alloc _⟩
  have d1 : ¬ (n : Int) < 1 := by omega
  have d2 : ¬ (4096 : Int) < (n : Int) := by omega
  generalize 512 * n = N at *
  clear hn1 hn2
  go_enter Try.func7, Try.ntmps7
  go_wp2_with fail
  go_ret2
  exact ⟨_, by first | rfl | (simp; done), HF.out⟩
set_option maxRecDepth 100000 in
theorem newR_no {x : Int} (hx : I64 x) (h : x < 1 ∨ 4096 < x) :
    Calls Try.prog 7 #[.int .i64 x] W fun e w' => e = .returned (.tuple #[.pointer none, .int .i64 1]) ∧ w' = W := by
  obtain ⟨x1, x2⟩ := hx
  by_cases d1 : x < 1
  · clear h
    go_enter Try.func7, Try.ntmps7
    go_wp2_with fail
    go_ret2
    exact ⟨by first | rfl | (simp; done), rfl⟩
  · have d2 : (4096 : Int) < x := by omega
    clear h
    go_enter Try.func7, Try.ntmps7
    go_wp2_with fail
    go_ret2
    exact ⟨by first | rfl | (simp; done), rfl⟩
set_option maxRecDepth 100000 in
theorem sectorsR_any (h : RfR K W sb A S) :
    Calls Try.prog 25 #[.pointer (some ⟨sb, 0, none⟩)] W fun e w' => e = .returned (.int .i64 (S.n : Int)) ∧ w' = W := by
  have k0 := h.cell.1
  have hn := h.n2
  have hc1 := h.fc1
  have hc2 : A.fc ≤ 9223372036854775807 := by have := h.fc2; unfold maxLen at this; omega
  have e1 : ((512 * S.n : Nat) : Int) / 512 = (S.n : Int) := by omega
  have hN : 512 * S.n ≤ 2097152 := by omega
  clear h
  generalize 512 * S.n = N at *
  go_enter Try.func25, Try.ntmps25
  go_wp2_with fail
  go_ret
  exact ⟨by first | rfl | (simp; done), rfl⟩
set_option maxRecDepth 100000 in
theorem pendingR_any (h : RfR K W sb A S) :
    Calls Try.prog 27 #[.pointer (some ⟨sb, 0, none⟩)] W fun e w' => e = .returned (.int .i64 (S.pend.length : Int)) ∧ w' = W := by
  obtain ⟨pa, pc, hpv, p1, p2⟩ := h.pv
  have k1 : W.cell? ⟨sb, 1, none⟩ = some (.slice pa S.pend.length pc) := by rw [← hpv]; exact h.cell.2.1
  have p3 : pc ≤ 9223372036854775807 := by unfold maxLen at p2; omega
  clear h hpv
  generalize S.pend.length = N at *
  go_enter Try.func27, Try.ntmps27
  go_wp2_with fail
  go_ret
  exact ⟨by first | rfl | (simp; done), rfl⟩
end Go.Proofs.Ytekffilokdmfgaa
