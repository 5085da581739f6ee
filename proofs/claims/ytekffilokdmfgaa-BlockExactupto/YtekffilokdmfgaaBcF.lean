/- Block: the document's Sync. -/
import Derived.Test.YtekffilokdmfgaaBcD
namespace Go.Proofs.Ytekffilokdmfgaa
open Go.RowKit
set_option linter.unusedVariables false
set_option linter.unusedSimpArgs false
variable {w w' W : World} {g n m o : Nat} {f f' : Nat → Int} {K K' : Nat → Prop} {sb : Nat} {A : Rd} {S : Sto}
set_option maxRecDepth 100000 in
set_option maxHeartbeats 1000000 in
theorem syncR_any (h : RfAt K W sb S) (h8 : ∀ k, 0 ≤ S.safe k ∧ S.safe k ≤ 255) (hp : S.pend.length ≤ 1099511627776) :
    Calls Try.prog 21 #[.pointer (some ⟨sb, 0, none⟩)] W fun e w' => e = .returned (.tuple #[]) ∧ RfAt K w' sb S.synced ∧ FK K W w' := by
  obtain ⟨A, h⟩ := h
  have HI : Hid _ := imageR_any h h8 hp
  have HF : Hid (∀ w1 g' cap', W.heap.size ≤ g' → By w1 g' (512 * S.n) (syncN S.pend S.safe S.pend.length) → 512 * S.n ≤ cap' → cap' ≤ maxLen → Up W w1 → (∃ x, w1.cell? ⟨sb, 0, none⟩ = some x) ∧ w1.frozen? ⟨sb, 0, none⟩ = false ∧ (∃ x, (w1.setCell ⟨sb, 0, none⟩ (.slice (some ⟨g', 0, none⟩) (512 * S.n) cap')).cell? ⟨sb, 1, none⟩ = some x) ∧ (w1.setCell ⟨sb, 0, none⟩ (.slice (some ⟨g', 0, none⟩) (512 * S.n) cap')).frozen? ⟨sb, 1, none⟩ = false ∧ RfAt K ((w1.setCell ⟨sb, 0, none⟩ (.slice (some ⟨g', 0, none⟩) (512 * S.n) cap')).setCell ⟨sb, 1, none⟩ (.slice none 0 0)) sb S.synced ∧ FK K W ((w1.setCell ⟨sb, 0, none⟩ (.slice (some ⟨g', 0, none⟩) (512 * S.n) cap')).setCell ⟨sb, 1, none⟩ (.slice none 0 0))) := fun w1 g' cap' q1 q2 q3 q4 u => by
    have h1 := h.up u
    have b1 := heap_setCell_same w1 sb 0 _ _ (.slice (some ⟨g', 0, none⟩) (512 * S.n) cap') h1.blk
    have b2 := heap_setCell_same _ sb 1 _ _ (.slice none 0 0) b1
    have hf : Fr sb w1 ((w1.setCell ⟨sb, 0, none⟩ (.slice (some ⟨g', 0, none⟩) (512 * S.n) cap')).setCell ⟨sb, 1, none⟩ (.slice none 0 0)) := ((Fr.refl sb w1).setCell).setCell
    have sl := heap_at h.blk
    have us := u.size
    have hK : ¬ K sb := fun k => h.kn sb k (Or.inl rfl)
    refine ⟨⟨_, heap_cell h1.blk rfl⟩, heap_fz h1.blk, ⟨_, heap_cell b1 rfl⟩, heap_fz b1, ⟨⟨g', cap', .slice none 0 0, []⟩, fun b hb ho => ?_, fun b hb => Nat.lt_of_lt_of_le (h.kb b hb) (Nat.le_trans us hf.size), h.n1, h.n2, h.l1, h.l2, b2, q2.of_block (hf.block g' q2.lt (by omega)), q3, q4, rfl, ⟨rfl, Or.inl ⟨rfl, rfl⟩⟩, fun x hx => by (cases hx), (by show sb ≠ g'; omega), ⟨by simp [Value.ownBlock], by simp [Value.ownBlock]⟩, fun x hx => by (cases hx)⟩, (FK.ofUp u).trans (FK.ofFr hf hK)⟩
    have := h.kb b hb
    rcases ho with e | e | e | ⟨x, hx, _⟩
    · exact h.kn b hb (Or.inl e)
    · have e : b = g' := e
      omega
    · exact absurd e (by simp [Value.ownBlock])
    · cases hx
  clear h
  go_enter Try.func21, Try.ntmps21
  go_wp2_with fail
  refine Calls.mono HI.out ?_
  rintro e w1 ⟨g', cap', rfl, q1, q2, q3, q4, u⟩
  obtain ⟨⟨x0, k0⟩, z0, ⟨x1, k1⟩, z1, hst⟩ := HF.out w1 g' cap' q1 q2 q3 q4 u
  have HE : Hid _ := hst
  clear hst HF HI q1 q2 q3 q4 u
  go_wp2_with fail
  go_end0
  exact ⟨rfl, HE.out⟩
end Go.Proofs.Ytekffilokdmfgaa
