/- Block: a store, plainly, and as it lies in memory. -/
import Derived.Test.YtekffilokdmfgaaBkC
namespace Go.Proofs.Ytekffilokdmfgaa
open Go.RowKit
set_option linter.unusedVariables false
variable {w w' W : World} {g n m o : Nat} {f f' : Nat → Int}
/-- a write: its sector, its bytes -/
abbrev PW := Nat × (Nat → Int)
/-- .. and where its bytes lie -/
structure Wr where
  sec : Nat
  f : Nat → Int
  blk : Nat
  cap : Nat
def Wr.pl (x : Wr) : PW := (x.sec, x.f)
def Wr.cells (x : Wr) : List Value := [.int .i64 (x.sec : Int), .slice (some ⟨x.blk, 0, none⟩) 512 x.cap]
def wrCells : List Wr → List Value
  | [] => []
  | x :: r => x.cells ++ wrCells r
theorem wrCells_len : ∀ l : List Wr, (wrCells l).length = l.length * 2
  | [] => rfl
  | x :: r => by
    show (x.cells ++ wrCells r).length = _
    rw [List.length_append, wrCells_len r]
    show 2 + r.length * 2 = (r.length + 1) * 2
    omega
theorem wrCells_app : ∀ (l : List Wr) (x : Wr), wrCells (l ++ [x]) = wrCells l ++ x.cells
  | [], x => by show x.cells ++ [] = [] ++ x.cells; simp
  | y :: r, x => by
    show y.cells ++ wrCells (r ++ [x]) = (y.cells ++ wrCells r) ++ x.cells
    rw [wrCells_app r x, List.append_assoc]
theorem wrCells_at : ∀ (l : List Wr) (j r : Nat) (x : Wr), l[j]? = some x → r < 2 → (wrCells l)[j * 2 + r]? = x.cells[r]?
  | [], j, r, x, h, _ => by simp at h
  | y :: l, 0, r, x, h, hr => by
    simp at h
    subst h
    show (y.cells ++ wrCells l)[0 * 2 + r]? = _
    rw [List.getElem?_append_left (by show _ < 2; omega), Nat.zero_mul, Nat.zero_add]
  | y :: l, j + 1, r, x, h, hr => by
    show (y.cells ++ wrCells l)[(j + 1) * 2 + r]? = _
    rw [List.getElem?_append_right (by show 2 ≤ _; omega)]
    show (wrCells l)[(j + 1) * 2 + r - 2]? = _
    rw [show (j + 1) * 2 + r - 2 = j * 2 + r by omega]
    exact wrCells_at l j r x (by simpa using h) hr
theorem wrCells_one (l : List Wr) : ∀ v ∈ wrCells l, v.oneCell' = true := by
  induction l with
  | nil => intro v hv; cases hv
  | cons x r ih =>
    intro v hv
    rcases List.mem_append.1 (show v ∈ x.cells ++ wrCells r from hv) with h | h
    · simp only [Wr.cells, List.mem_cons, List.not_mem_nil, or_false] at h
      rcases h with rfl | rfl <;> rfl
    · exact ih v h
/-- a store -/
structure Sto where
  n : Nat
  now : Nat → Int
  safe : Nat → Int
  pend : List PW
  left : Int
/-- where its parts lie -/
structure Ad where
  nb : Nat
  nc : Nat
  fb : Nat
  fc : Nat
  pv : Value
  ws : List Wr
/-- blocks that are the store's -/
def Ours (sb : Nat) (A : Ad) (b : Nat) : Prop := b = sb ∨ b = A.nb ∨ b = A.fb ∨ A.pv.ownBlock = some b ∨ ∃ x ∈ A.ws, x.blk = b
structure StR (K : Nat → Prop) (w : World) (sb : Nat) (A : Ad) (S : Sto) : Prop where
  kn : ∀ b, K b → ¬ Ours sb A b
  kb : ∀ b, K b → b < w.heap.size
  n1 : 1 ≤ S.n
  n2 : S.n ≤ 4096
  l1 : -1 ≤ S.left
  l2 : S.left ≤ 9223372036854775807
  blk : w.heap[sb]? = some (.cells #[.slice (some ⟨A.nb, 0, none⟩) (512 * S.n) A.nc, .slice (some ⟨A.fb, 0, none⟩) (512 * S.n) A.fc, A.pv, .int .i64 S.left] 67 (0, 0))
  now : By w A.nb (512 * S.n) S.now
  safe : By w A.fb (512 * S.n) S.safe
  nc1 : 512 * S.n ≤ A.nc
  nc2 : A.nc ≤ maxLen
  fc1 : 512 * S.n ≤ A.fc
  fc2 : A.fc ≤ maxLen
  tie : A.ws.map Wr.pl = S.pend
  row : w.ownsRow 0 73 2 A.pv A.ws.length (wrCells A.ws)
  wr : ∀ x ∈ A.ws, By w x.blk 512 x.f ∧ 512 ≤ x.cap ∧ x.cap ≤ maxLen ∧ x.sec < S.n
  a1 : sb ≠ A.nb
  a2 : sb ≠ A.fb
  a3 : A.nb ≠ A.fb
  a4 : A.pv.ownBlock ≠ some sb ∧ A.pv.ownBlock ≠ some A.nb ∧ A.pv.ownBlock ≠ some A.fb
  a5 : ∀ x ∈ A.ws, x.blk ≠ sb ∧ x.blk ≠ A.nb ∧ x.blk ≠ A.fb ∧ A.pv.ownBlock ≠ some x.blk
/-- a store, wherever its parts lie -/
def StAt (K : Nat → Prop) (w : World) (sb : Nat) (S : Sto) : Prop := ∃ A, StR K w sb A S
variable {K K' : Nat → Prop} {sb : Nat} {A : Ad} {S : Sto}
theorem own_lt {ty : TypeId} {size n : Nat} {v : Value} {xs : List Value} {b : Nat} (h : w.ownsRow 0 ty size v n xs) (e : v.ownBlock = some b) : b < w.heap.size := by
  rcases own_cases h with ⟨rfl, _, _⟩ | ⟨g, cap, rfl, _, _, hg, he⟩
  · cases e
  · rw [he] at e
    injection e with e
    omega
theorem StR.lt (h : StR K w sb A S) {b : Nat} (hb : Ours sb A b) : b < w.heap.size := by
  rcases hb with rfl | rfl | rfl | e | ⟨x, hx, rfl⟩
  · exact heap_at h.blk
  · exact h.now.lt
  · exact h.safe.lt
  · exact own_lt h.row e
  · exact (h.wr x hx).1.lt
/-- the store, where none of its blocks has changed -/
theorem StR.keep (h : StR K w sb A S) (hk : ∀ b, K' b → ¬ Ours sb A b) (hkb : ∀ b, K' b → b < w'.heap.size) (e : ∀ b, Ours sb A b → w'.heap[b]? = w.heap[b]?) : StR K' w' sb A S :=
  ⟨hk, hkb, h.n1, h.n2, h.l1, h.l2, (e sb (Or.inl rfl)).trans h.blk, h.now.of_block (e _ (Or.inr (Or.inl rfl))), h.safe.of_block (e _ (Or.inr (Or.inr (Or.inl rfl)))), h.nc1, h.nc2, h.fc1, h.fc2, h.tie,
    ownsRow_block h.row (fun g hg => e g (Or.inr (Or.inr (Or.inr (Or.inl hg))))), fun x hx => ⟨(h.wr x hx).1.of_block (e _ (Or.inr (Or.inr (Or.inr (Or.inr ⟨x, hx, rfl⟩))))), (h.wr x hx).2⟩, h.a1, h.a2, h.a3, h.a4, h.a5⟩
theorem StR.up (h : StR K w sb A S) (u : Up w w') : StR K w' sb A S := h.keep h.kn (fun b hb => Nat.lt_of_lt_of_le (h.kb b hb) u.size) (fun b hb => u.block b (h.lt hb))
theorem StR.upK (h : StR K w sb A S) (u : Up w w') (hk : ∀ b, K' b → K b ∨ (w.heap.size ≤ b ∧ b < w'.heap.size)) : StR K' w' sb A S :=
  h.keep (fun b hb ho => by rcases hk b hb with h1 | h1; exact h.kn b h1 ho; have := h.lt ho; omega) (fun b hb => by rcases hk b hb with h1 | h1; exact Nat.lt_of_lt_of_le (h.kb b h1) u.size; exact h1.2) (fun b hb => u.block b (h.lt hb))
theorem StAt.up (h : StAt K w sb S) (u : Up w w') : StAt K w' sb S := by
  obtain ⟨A, h⟩ := h
  exact ⟨A, h.up u⟩
theorem StAt.upK (h : StAt K w sb S) (u : Up w w') (hk : ∀ b, K' b → K b ∨ (w.heap.size ≤ b ∧ b < w'.heap.size)) : StAt K' w' sb S := by
  obtain ⟨A, h⟩ := h
  exact ⟨A, h.upK u hk⟩
/-- blocks of K may change, if no one looks at them -/
theorem StAt.fr {b : Nat} (h : StAt K w sb S) (u : Fr b w w') (hb : K b) : StAt K w' sb S := by
  obtain ⟨A, h⟩ := h
  exact ⟨A, h.keep h.kn (fun c hc => Nat.lt_of_lt_of_le (h.kb c hc) u.size) (fun c hc => u.block c (h.lt hc) (fun e => h.kn b hb (e ▸ hc)))⟩
theorem StR.cell (h : StR K w sb A S) : w.cell? ⟨sb, 0, none⟩ = some (.slice (some ⟨A.nb, 0, none⟩) (512 * S.n) A.nc) ∧ w.cell? ⟨sb, 1, none⟩ = some (.slice (some ⟨A.fb, 0, none⟩) (512 * S.n) A.fc) ∧ w.cell? ⟨sb, 2, none⟩ = some A.pv ∧ w.cell? ⟨sb, 3, none⟩ = some (.int .i64 S.left) :=
  ⟨heap_cell h.blk rfl, heap_cell h.blk rfl, heap_cell h.blk rfl, heap_cell h.blk rfl⟩
theorem StR.fz (h : StR K w sb A S) (k : Nat) : w.frozen? ⟨sb, k, none⟩ = false := heap_fz h.blk
theorem StR.pv (h : StR K w sb A S) : ∃ pa pc, A.pv = .slice pa S.pend.length pc ∧ S.pend.length ≤ pc ∧ pc ≤ maxLen := by
  have hl : A.ws.length = S.pend.length := by rw [← h.tie, List.length_map]
  rcases own_cases h.row with ⟨hv, hn, _⟩ | ⟨g, cap, hv, h1, h2, _⟩
  · exact ⟨none, 0, by rw [hv, ← hl, hn], by omega, Nat.zero_le _⟩
  · exact ⟨_, cap, by rw [hv, hl], by omega, h2⟩
/-- the number of writes that may be made more has changed -/
theorem StR.setLeft (h : StR K w sb A S) (x : Int) (h1 : -1 ≤ x) (h2 : x ≤ 9223372036854775807) : StR K (w.setCell ⟨sb, 3, none⟩ (.int .i64 x)) sb A { S with left := x } ∧ FK K w (w.setCell ⟨sb, 3, none⟩ (.int .i64 x)) := by
  have hf : Fr sb w (w.setCell ⟨sb, 3, none⟩ (.int .i64 x)) := (Fr.refl sb w).setCell
  have hB : ∀ b, b < w.heap.size → b ≠ sb → (w.setCell ⟨sb, 3, none⟩ (.int .i64 x)).heap[b]? = w.heap[b]? := hf.block
  refine ⟨⟨h.kn, fun b hb => Nat.lt_of_lt_of_le (h.kb b hb) hf.size, h.n1, h.n2, h1, h2, heap_setCell_same w sb 3 _ _ _ h.blk, h.now.of_block (hB _ h.now.lt h.a1.symm), h.safe.of_block (hB _ h.safe.lt h.a2.symm), h.nc1, h.nc2, h.fc1, h.fc2, h.tie, ownsRow_block h.row (fun g hg => hB g (own_lt h.row hg) (fun e => h.a4.1 (e ▸ hg))), fun x hx => ⟨(h.wr x hx).1.of_block (hB _ (h.wr x hx).1.lt (h.a5 x hx).1), (h.wr x hx).2⟩, h.a1, h.a2, h.a3, h.a4, h.a5⟩, FK.ofFr hf (fun k => h.kn sb k (Or.inl rfl))⟩
/-- the bytes that are read have changed -/
theorem StR.setNow (h : StR K w sb A S) (hf : Fr A.nb w w') (hn : By w' A.nb (512 * S.n) f) : StR K w' sb A { S with now := f } ∧ FK K w w' := by
  refine ⟨⟨h.kn, fun b hb => Nat.lt_of_lt_of_le (h.kb b hb) hf.size, h.n1, h.n2, h.l1, h.l2, (hf.block sb (heap_at h.blk) h.a1).trans h.blk, hn, h.safe.of_block (hf.block _ h.safe.lt h.a3.symm), h.nc1, h.nc2, h.fc1, h.fc2, h.tie, ownsRow_block h.row (fun g hg => hf.block g (own_lt h.row hg) (fun e => h.a4.2.1 (e ▸ hg))), fun x hx => ⟨(h.wr x hx).1.of_block (hf.block _ (h.wr x hx).1.lt (h.a5 x hx).2.1), (h.wr x hx).2⟩, h.a1, h.a2, h.a3, h.a4, h.a5⟩, FK.ofFr hf (fun k => h.kn A.nb k (Or.inr (Or.inl rfl)))⟩
/-- the bytes that are safe have changed -/
theorem StR.setSafe (h : StR K w sb A S) (hf : Fr A.fb w w') (hn : By w' A.fb (512 * S.n) f) : StR K w' sb A { S with safe := f } ∧ FK K w w' := by
  refine ⟨⟨h.kn, fun b hb => Nat.lt_of_lt_of_le (h.kb b hb) hf.size, h.n1, h.n2, h.l1, h.l2, (hf.block sb (heap_at h.blk) h.a2).trans h.blk, h.now.of_block (hf.block _ h.now.lt h.a3), hn, h.nc1, h.nc2, h.fc1, h.fc2, h.tie, ownsRow_block h.row (fun g hg => hf.block g (own_lt h.row hg) (fun e => h.a4.2.2 (e ▸ hg))), fun x hx => ⟨(h.wr x hx).1.of_block (hf.block _ (h.wr x hx).1.lt (h.a5 x hx).2.2.1), (h.wr x hx).2⟩, h.a1, h.a2, h.a3, h.a4, h.a5⟩, FK.ofFr hf (fun k => h.kn A.fb k (Or.inr (Or.inr (Or.inl rfl))))⟩
/-- nothing is pending any more -/
theorem StR.setNone (h : StR K w sb A S) : StR K (w.setCell ⟨sb, 2, none⟩ (.slice none 0 0)) sb { A with pv := .slice none 0 0, ws := [] } { S with pend := [] } ∧ FK K w (w.setCell ⟨sb, 2, none⟩ (.slice none 0 0)) := by
  have hf : Fr sb w (w.setCell ⟨sb, 2, none⟩ (.slice none 0 0)) := (Fr.refl sb w).setCell
  refine ⟨⟨fun b hb ho => h.kn b hb ?_, fun b hb => Nat.lt_of_lt_of_le (h.kb b hb) hf.size, h.n1, h.n2, h.l1, h.l2, heap_setCell_same w sb 2 _ _ _ h.blk, h.now.of_block (hf.block _ h.now.lt h.a1.symm), h.safe.of_block (hf.block _ h.safe.lt h.a2.symm), h.nc1, h.nc2, h.fc1, h.fc2, rfl, ⟨rfl, Or.inl ⟨rfl, rfl⟩⟩, fun x hx => by (cases hx), h.a1, h.a2, h.a3, ⟨by simp [Value.ownBlock], by simp [Value.ownBlock], by simp [Value.ownBlock]⟩, fun x hx => by (cases hx)⟩, FK.ofFr hf (fun k => h.kn sb k (Or.inl rfl))⟩
  rcases ho with e | e | e | e | ⟨x, hx, _⟩
  · exact Or.inl e
  · exact Or.inr (Or.inl e)
  · exact Or.inr (Or.inr (Or.inl e))
  · exact absurd e (by simp [Value.ownBlock])
  · cases hx
/-- one write more is pending -/
theorem StR.pushed {w2 w3 : World} {s g cap : Nat} {fd : Nat → Int} {v' : Value} (h : StR K w sb A S) (u : Up w w2) (hg : w.heap.size ≤ g) (hb : By w2 g 512 fd) (hc1 : 512 ≤ cap) (hc2 : cap ≤ maxLen) (hs : s < S.n)
    (own : w3.ownsRow 0 73 2 v' (A.ws.length + 1) (wrCells A.ws ++ [.int .i64 (s : Int), .slice (some ⟨g, 0, none⟩) 512 cap])) (gr : w2.grownBy w3 A.pv.ownBlock) (at' : v'.ownBlock = A.pv.ownBlock ∨ v'.ownBlock = some w2.heap.size) :
    StR K (w3.setCell ⟨sb, 2, none⟩ v') sb { A with pv := v', ws := A.ws ++ [⟨s, fd, g, cap⟩] } { S with pend := S.pend ++ [(s, fd)] } ∧ FK K w (w3.setCell ⟨sb, 2, none⟩ v') := by
  have hf : Fr sb w3 (w3.setCell ⟨sb, 2, none⟩ v') := (Fr.refl sb w3).setCell
  have hgl := hb.lt
  -- an older block that is neither the row's nor the store's own
  have hB : ∀ b, b < w.heap.size → b ≠ sb → A.pv.ownBlock ≠ some b → (w3.setCell ⟨sb, 2, none⟩ v').heap[b]? = w.heap[b]? := fun b h1 h2 h3 =>
    (hf.block b (Nat.lt_of_lt_of_le (Nat.lt_of_lt_of_le h1 u.size) gr.size) h2).trans ((gr.block b (Nat.lt_of_lt_of_le h1 u.size) (fun e => h3 e.symm)).trans (u.block b h1))
  have hpg : A.pv.ownBlock ≠ some g := fun e => by have := own_lt h.row e; omega
  have hsl := heap_at h.blk
  have hG : (w3.setCell ⟨sb, 2, none⟩ v').heap[g]? = w2.heap[g]? := (hf.block g (Nat.lt_of_lt_of_le hgl gr.size) (by omega)).trans (gr.block g hgl (fun e => hpg e.symm))
  have hS3 : w3.heap[sb]? = some (.cells #[.slice (some ⟨A.nb, 0, none⟩) (512 * S.n) A.nc, .slice (some ⟨A.fb, 0, none⟩) (512 * S.n) A.fc, A.pv, .int .i64 S.left] 67 (0, 0)) := (gr.block sb (Nat.lt_of_lt_of_le hsl u.size) (fun e => h.a4.1 e.symm)).trans ((u.block sb hsl).trans h.blk)
  have hv : ∀ b, v'.ownBlock = some b → A.pv.ownBlock = some b ∨ (w.heap.size ≤ b ∧ w2.heap.size ≤ b) := fun b e => by
    rcases at' with e1 | e1
    · exact Or.inl (e1 ▸ e)
    · rw [e1] at e
      injection e with e
      have := u.size
      exact Or.inr ⟨by omega, by omega⟩
  refine ⟨⟨fun b hb' ho => ?_, fun b hb' => Nat.lt_of_lt_of_le (h.kb b hb') (Nat.le_trans u.size (Nat.le_trans gr.size hf.size)), h.n1, h.n2, h.l1, h.l2, heap_setCell_same w3 sb 2 _ _ _ hS3, h.now.of_block (hB _ h.now.lt h.a1.symm h.a4.2.1), h.safe.of_block (hB _ h.safe.lt h.a2.symm h.a4.2.2), h.nc1, h.nc2, h.fc1, h.fc2, ?_, ?_, fun x hx => ?_, h.a1, h.a2, h.a3, ⟨fun e => ?_, fun e => ?_, fun e => ?_⟩, fun x hx => ?_⟩, ⟨hf.os.trans (gr.os.trans u.os), hf.output.trans (gr.output.trans u.output), Nat.le_trans u.size (Nat.le_trans gr.size hf.size), fun b h1 h2 => hB b h1 (fun e => h.kn b h2 (Or.inl e)) (fun e => h.kn b h2 (Or.inr (Or.inr (Or.inr (Or.inl e)))))⟩⟩
  · have hbl := h.kb b hb'
    rcases ho with e | e | e | e | ⟨x, hx, e⟩
    · exact h.kn b hb' (Or.inl e)
    · exact h.kn b hb' (Or.inr (Or.inl e))
    · exact h.kn b hb' (Or.inr (Or.inr (Or.inl e)))
    · rcases hv b e with e1 | e1
      · exact h.kn b hb' (Or.inr (Or.inr (Or.inr (Or.inl e1))))
      · omega
    · rcases List.mem_append.1 hx with hx | hx
      · exact h.kn b hb' (Or.inr (Or.inr (Or.inr (Or.inr ⟨x, hx, e⟩))))
      · rw [List.mem_singleton.1 hx] at e
        have e : g = b := e
        omega
  · show (A.ws ++ [_]).map Wr.pl = _
    rw [List.map_append, h.tie]
    rfl
  · show (w3.setCell ⟨sb, 2, none⟩ v').ownsRow 0 _ 2 v' (A.ws ++ [_]).length (wrCells (A.ws ++ [_]))
    rw [wrCells_app, List.length_append]
    refine ownsRow_block own (fun b e => ?_)
    refine hf.block b (own_lt own e) (fun e2 => ?_)
    subst e2
    rcases hv b e with e1 | e1
    · exact h.a4.1 e1
    · omega
  · rcases List.mem_append.1 hx with hx | hx
    · have := h.wr x hx
      exact ⟨this.1.of_block (hB _ this.1.lt (h.a5 x hx).1 (h.a5 x hx).2.2.2), this.2⟩
    · rw [List.mem_singleton.1 hx]
      exact ⟨hb.of_block hG, hc1, hc2, hs⟩
  · rcases hv _ e with e1 | e1
    · exact h.a4.1 e1
    · omega
  · have := h.now.lt
    have e : v'.ownBlock = some A.nb := e
    rcases hv _ e with e1 | e1
    · exact h.a4.2.1 e1
    · omega
  · have := h.safe.lt
    have e : v'.ownBlock = some A.fb := e
    rcases hv _ e with e1 | e1
    · exact h.a4.2.2 e1
    · omega
  · rcases List.mem_append.1 hx with hx | hx
    · obtain ⟨q1, q2, q3, q4⟩ := h.a5 x hx
      refine ⟨q1, q2, q3, fun e => ?_⟩
      have := (h.wr x hx).1.lt
      rcases hv _ e with e1 | e1
      · exact q4 e1
      · omega
    · rw [List.mem_singleton.1 hx]
      have i1 := h.now.lt
      have i2 := h.safe.lt
      refine ⟨?_, ?_, ?_, fun e => ?_⟩
      · show g ≠ sb
        omega
      · show g ≠ A.nb
        omega
      · show g ≠ A.fb
        omega
      · rcases hv _ e with e1 | e1
        · exact hpg e1
        · have : w2.heap.size ≤ g := e1.2
          omega
end Go.Proofs.Ytekffilokdmfgaa
