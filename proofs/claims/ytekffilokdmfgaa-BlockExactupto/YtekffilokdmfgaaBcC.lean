/- Block: the document's Limit and Image. -/
import Derived.Test.YtekffilokdmfgaaBcB
import Derived.Test.YtekffilokdmfgaaBbC
namespace Go.Proofs.Ytekffilokdmfgaa
open Go.RowKit
set_option linter.unusedVariables false
set_option linter.unusedSimpArgs false
variable {w w' W : World} {g n m o : Nat} {f f' : Nat → Int} {K K' : Nat → Prop} {sb : Nat} {A : Rd} {S : Sto}
theorem want_runB {aa : Option Addr} {ab ao cap : Nat} (h : Byts w aa ab ao n cap f) (h0 : aa = none → cap = 0) (hn : n ≤ 4000000) : ∃ u w', (Builtin.append_ #[25, 25] 25 #[.slice (some ⟨w.heap.size, 0, none⟩) 0 0, .slice aa n cap]).run Try.prog (w.alloc (.cells #[] 5)) = .ok u w' ∧ w'.ownsRow w.heap.size 5 1 u n (byL f n) ∧ Up w w' := by
  have sz : (w.alloc (.cells #[] 5)).heap.size = w.heap.size + 1 := alloc_size' _ _
  have ho : (w.alloc (.cells #[] 5)).ownsRow w.heap.size 5 1 (.slice (some ⟨w.heap.size, 0, none⟩) 0 0) 0 [] := own_of (heap_alloc_new w _) (Nat.le_refl _) (Nat.le_refl _) (Nat.zero_le _) rfl rfl (fun k hk => by omega)
  have h1 := h.upB ((Up.refl w).alloc (.cells #[] 5))
  rcases aa with _ | ad
  · obtain rfl := h0 rfl
    have := h.lc
    obtain rfl : n = 0 := by omega
    exact ⟨_, _, run_append_owned_none (P := Try.prog) (w := w.alloc (.cells #[] 5)) w.heap.size 25 25 5 Try.t5 1 Try.underlying25 (by kernel_rfl) _ 0 [] ho, ho, (Up.refl w).alloc _⟩
  · obtain ⟨v', w', hr, h2, h3, _, h5⟩ := run_append_own_at (P := Try.prog) _ w.heap.size 25 25 5 Try.t5 (.int .u8 0) 1 1 Try.underlying25 (by kernel_rfl) (by kernel_rfl) (by kernel_rfl) (by kernel_rfl) rfl (by decide) _ 0 [] ho ad n cap (byL f n) (by rw [byL_len, Nat.mul_one]) (fun j u hj => by
      have hjn : j < n := by have := (List.getElem?_eq_some_iff.1 hj).1; rwa [byL_len] at this
      have e := h.ad (by omega)
      injection e with e
      rw [e, Addr.add_lit, h1.cell j hjn]
      rw [byL_at hjn] at hj
      exact hj) (byL_one f n) (by unfold maxLen; omega) (by omega) (by omega)
    rw [Nat.zero_add, List.nil_append] at h2
    exact ⟨v', w', hr, h2, grown_upB ((Up.refl w).alloc _) ho h3⟩
theorem RfR.left (h : RfR K w sb A S) (hf : Fr sb w w') {x : Int} (h1 : -1 ≤ x) (h2 : x ≤ 9223372036854775807) (hb : w'.heap[sb]? = some (.cells #[.slice (some ⟨A.fb, 0, none⟩) (512 * S.n) A.fc, A.pv, .int .i64 x] 61 (0, 0))) : RfR K w' sb A { S with left := x } ∧ FK K w w' := by
  have hB : ∀ b, b < w.heap.size → b ≠ sb → w'.heap[b]? = w.heap[b]? := hf.block
  exact ⟨⟨h.kn, fun b hb => Nat.lt_of_lt_of_le (h.kb b hb) hf.size, h.n1, h.n2, h1, h2, hb, h.safe.of_block (hB _ h.safe.lt h.a2.symm), h.fc1, h.fc2, h.tie, ownsRow_block h.row (fun g hg => hB g (own_lt h.row hg) (fun e => h.a4.1 (e ▸ hg))), fun x hx => ⟨(h.wr x hx).1.of_block (hB _ (h.wr x hx).1.lt (h.a5 x hx).1), (h.wr x hx).2⟩, h.a2, h.a4, h.a5⟩, FK.ofFr hf (fun k => h.kn sb k (Or.inl rfl))⟩
set_option maxRecDepth 100000 in
theorem limitR_any (h : RfAt K W sb S) {x : Int} (hx : I64 x) :
    Calls Try.prog 23 #[.pointer (some ⟨sb, 0, none⟩), .int .i64 x] W fun e w' => e = .returned (.tuple #[]) ∧ RfAt K w' sb (S.limit x) ∧ FK K W w' := by
  obtain ⟨A, h⟩ := h
  obtain ⟨x1, x2⟩ := hx
  have k2 := h.cell.2.2
  have z2 := h.fz 2
  have b1 := heap_setCell_same W sb 2 _ _ (.int .i64 x) h.blk
  have b2 := heap_setCell_same _ sb 2 _ _ (.int .i64 0) b1
  have f1 : Fr sb W (W.setCell ⟨sb, 2, none⟩ (.int .i64 x)) := (Fr.refl sb W).setCell
  by_cases hx0 : x < 0
  · have H1 : Hid (RfR K ((W.setCell ⟨sb, 2, none⟩ (.int .i64 x)).setCell ⟨sb, 2, none⟩ (.int .i64 0)) sb A (S.limit x) ∧ FK K W ((W.setCell ⟨sb, 2, none⟩ (.int .i64 x)).setCell ⟨sb, 2, none⟩ (.int .i64 0))) := by
      have := h.left (f1.trans ((Fr.refl sb _).setCell)) (x := 0) (by decide) (by decide) b2
      unfold Sto.limit
      rw [show max x 0 = 0 by omega]
      exact this
    have k3 : (W.setCell ⟨sb, 2, none⟩ (.int .i64 x)).cell? ⟨sb, 2, none⟩ = some (.int .i64 x) := heap_cell b1 rfl
    have z3 : (W.setCell ⟨sb, 2, none⟩ (.int .i64 x)).frozen? ⟨sb, 2, none⟩ = false := heap_fz b1
    clear h b1 b2 f1
    go_enter Try.func23, Try.ntmps23
    go_wp2_with fail
    go_end0
    exact ⟨rfl, ⟨_, H1.out.1⟩, H1.out.2⟩
  · have H1 : Hid (RfR K (W.setCell ⟨sb, 2, none⟩ (.int .i64 x)) sb A (S.limit x) ∧ FK K W (W.setCell ⟨sb, 2, none⟩ (.int .i64 x))) := by
      have := h.left f1 (x := x) (by omega) (by omega) b1
      unfold Sto.limit
      rw [show max x 0 = x by omega]
      exact this
    clear h b1 b2 f1
    go_enter Try.func23, Try.ntmps23
    go_wp2_with fail
    go_end0
    exact ⟨rfl, ⟨_, H1.out.1⟩, H1.out.2⟩
end Go.Proofs.Ytekffilokdmfgaa
