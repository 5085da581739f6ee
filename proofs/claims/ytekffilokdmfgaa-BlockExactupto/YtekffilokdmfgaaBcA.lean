/- Block: the document's store in memory. -/
import Derived.Test.YtekffilokdmfgaaBkG
import Derived.Test.YtekffilokdmfgaaBkH
namespace Go.Proofs.Ytekffilokdmfgaa
open Go.RowKit
set_option linter.unusedVariables false
variable {w w' W : World} {g n m o : Nat} {f f' : Nat → Int}
/-- where its parts lie -/
structure Rd where
  fb : Nat
  fc : Nat
  pv : Value
  ws : List Wr
/-- blocks that are the store's -/
def OurR (sb : Nat) (A : Rd) (b : Nat) : Prop := b = sb ∨ b = A.fb ∨ A.pv.ownBlock = some b ∨ ∃ x ∈ A.ws, x.blk = b
structure RfR (K : Nat → Prop) (w : World) (sb : Nat) (A : Rd) (S : Sto) : Prop where
  kn : ∀ b, K b → ¬ OurR sb A b
  kb : ∀ b, K b → b < w.heap.size
  n1 : 1 ≤ S.n
  n2 : S.n ≤ 4096
  l1 : -1 ≤ S.left
  l2 : S.left ≤ 9223372036854775807
  blk : w.heap[sb]? = some (.cells #[.slice (some ⟨A.fb, 0, none⟩) (512 * S.n) A.fc, A.pv, .int .i64 S.left] 61 (0, 0))
  safe : By w A.fb (512 * S.n) S.safe
  fc1 : 512 * S.n ≤ A.fc
  fc2 : A.fc ≤ maxLen
  tie : A.ws.map Wr.pl = S.pend
  row : w.ownsRow 0 70 2 A.pv A.ws.length (wrCells A.ws)
  wr : ∀ x ∈ A.ws, By w x.blk 512 x.f ∧ 512 ≤ x.cap ∧ x.cap ≤ maxLen ∧ x.sec < S.n
  a2 : sb ≠ A.fb
  a4 : A.pv.ownBlock ≠ some sb ∧ A.pv.ownBlock ≠ some A.fb
  a5 : ∀ x ∈ A.ws, x.blk ≠ sb ∧ x.blk ≠ A.fb ∧ A.pv.ownBlock ≠ some x.blk
/-- a store, wherever its parts lie -/
def RfAt (K : Nat → Prop) (w : World) (sb : Nat) (S : Sto) : Prop := ∃ A, RfR K w sb A S
variable {K K' : Nat → Prop} {sb : Nat} {A : Rd} {S : Sto}
theorem RfR.lt (h : RfR K w sb A S) {b : Nat} (hb : OurR sb A b) : b < w.heap.size := by
  rcases hb with rfl | rfl | e | ⟨x, hx, rfl⟩
  · exact heap_at h.blk
  · exact h.safe.lt
  · exact own_lt h.row e
  · exact (h.wr x hx).1.lt
/-- the store, where none of its blocks has changed -/
theorem RfR.keep (h : RfR K w sb A S) (hk : ∀ b, K' b → ¬ OurR sb A b) (hkb : ∀ b, K' b → b < w'.heap.size) (e : ∀ b, OurR sb A b → w'.heap[b]? = w.heap[b]?) : RfR K' w' sb A S :=
  ⟨hk, hkb, h.n1, h.n2, h.l1, h.l2, (e sb (Or.inl rfl)).trans h.blk, h.safe.of_block (e _ (Or.inr (Or.inl rfl))), h.fc1, h.fc2, h.tie,
    ownsRow_block h.row (fun g hg => e g (Or.inr (Or.inr (Or.inl hg)))), fun x hx => ⟨(h.wr x hx).1.of_block (e _ (Or.inr (Or.inr (Or.inr ⟨x, hx, rfl⟩)))), (h.wr x hx).2⟩, h.a2, h.a4, h.a5⟩
theorem RfR.up (h : RfR K w sb A S) (u : Up w w') : RfR K w' sb A S := h.keep h.kn (fun b hb => Nat.lt_of_lt_of_le (h.kb b hb) u.size) (fun b hb => u.block b (h.lt hb))
theorem RfR.upK (h : RfR K w sb A S) (u : Up w w') (hk : ∀ b, K' b → K b ∨ (w.heap.size ≤ b ∧ b < w'.heap.size)) : RfR K' w' sb A S :=
  h.keep (fun b hb ho => by rcases hk b hb with h1 | h1; exact h.kn b h1 ho; have := h.lt ho; omega) (fun b hb => by rcases hk b hb with h1 | h1; exact Nat.lt_of_lt_of_le (h.kb b h1) u.size; exact h1.2) (fun b hb => u.block b (h.lt hb))
theorem RfAt.up (h : RfAt K w sb S) (u : Up w w') : RfAt K w' sb S := by
  obtain ⟨A, h⟩ := h
  exact ⟨A, h.up u⟩
theorem RfAt.upK (h : RfAt K w sb S) (u : Up w w') (hk : ∀ b, K' b → K b ∨ (w.heap.size ≤ b ∧ b < w'.heap.size)) : RfAt K' w' sb S := by
  obtain ⟨A, h⟩ := h
  exact ⟨A, h.upK u hk⟩
/-- blocks of K may change, if no one looks at them -/
theorem RfAt.fr {b : Nat} (h : RfAt K w sb S) (u : Fr b w w') (hb : K b) : RfAt K w' sb S := by
  obtain ⟨A, h⟩ := h
  exact ⟨A, h.keep h.kn (fun c hc => Nat.lt_of_lt_of_le (h.kb c hc) u.size) (fun c hc => u.block c (h.lt hc) (fun e => h.kn b hb (e ▸ hc)))⟩
theorem RfR.cell (h : RfR K w sb A S) : w.cell? ⟨sb, 0, none⟩ = some (.slice (some ⟨A.fb, 0, none⟩) (512 * S.n) A.fc) ∧ w.cell? ⟨sb, 1, none⟩ = some A.pv ∧ w.cell? ⟨sb, 2, none⟩ = some (.int .i64 S.left) :=
  ⟨heap_cell h.blk rfl, heap_cell h.blk rfl, heap_cell h.blk rfl⟩
theorem RfR.fz (h : RfR K w sb A S) (k : Nat) : w.frozen? ⟨sb, k, none⟩ = false := heap_fz h.blk
theorem RfR.pv (h : RfR K w sb A S) : ∃ pa pc, A.pv = .slice pa S.pend.length pc ∧ S.pend.length ≤ pc ∧ pc ≤ maxLen := by
  have hl : A.ws.length = S.pend.length := by rw [← h.tie, List.length_map]
  rcases own_cases h.row with ⟨hv, hn, _⟩ | ⟨g, cap, hv, h1, h2, _⟩
  · exact ⟨none, 0, by rw [hv, ← hl, hn], by omega, Nat.zero_le _⟩
  · exact ⟨_, cap, by rw [hv, hl], by omega, h2⟩
/-- the number of writes that may be made more has changed -/
theorem RfR.setLeft (h : RfR K w sb A S) (x : Int) (h1 : -1 ≤ x) (h2 : x ≤ 9223372036854775807) : RfR K (w.setCell ⟨sb, 2, none⟩ (.int .i64 x)) sb A { S with left := x } ∧ FK K w (w.setCell ⟨sb, 2, none⟩ (.int .i64 x)) := by
  have hf : Fr sb w (w.setCell ⟨sb, 2, none⟩ (.int .i64 x)) := (Fr.refl sb w).setCell
  have hB : ∀ b, b < w.heap.size → b ≠ sb → (w.setCell ⟨sb, 2, none⟩ (.int .i64 x)).heap[b]? = w.heap[b]? := hf.block
  refine ⟨⟨h.kn, fun b hb => Nat.lt_of_lt_of_le (h.kb b hb) hf.size, h.n1, h.n2, h1, h2, heap_setCell_same w sb 2 _ _ _ h.blk, h.safe.of_block (hB _ h.safe.lt h.a2.symm), h.fc1, h.fc2, h.tie, ownsRow_block h.row (fun g hg => hB g (own_lt h.row hg) (fun e => h.a4.1 (e ▸ hg))), fun x hx => ⟨(h.wr x hx).1.of_block (hB _ (h.wr x hx).1.lt (h.a5 x hx).1), (h.wr x hx).2⟩, h.a2, h.a4, h.a5⟩, FK.ofFr hf (fun k => h.kn sb k (Or.inl rfl))⟩
/-- the bytes that are read are those that are safe, and what is pending over them -/
def Sto.Ok (S : Sto) : Prop := ∀ k, k < 512 * S.n → S.now k = syncN S.pend S.safe S.pend.length k
end Go.Proofs.Ytekffilokdmfgaa
