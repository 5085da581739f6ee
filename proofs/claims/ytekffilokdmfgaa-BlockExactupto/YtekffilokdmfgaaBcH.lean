/- Block: the document's Write that is refused. -/
import Derived.Test.YtekffilokdmfgaaBcC
namespace Go.Proofs.Ytekffilokdmfgaa
open Go.RowKit
set_option linter.unusedVariables false
set_option linter.unusedSimpArgs false
variable {w w' W : World} {g n m o : Nat} {f f' : Nat → Int} {K K' : Nat → Prop} {sb : Nat} {A : Rd} {S : Sto}
/-- one write more is pending -/
theorem RfR.pushed {w2 w3 : World} {s g cap : Nat} {fd : Nat → Int} {v' : Value} (h : RfR K w sb A S) (u : Up w w2) (hg : w.heap.size ≤ g) (hb : By w2 g 512 fd) (hc1 : 512 ≤ cap) (hc2 : cap ≤ maxLen) (hs : s < S.n)
    (own : w3.ownsRow 0 70 2 v' (A.ws.length + 1) (wrCells A.ws ++ [.int .i64 (s : Int), .slice (some ⟨g, 0, none⟩) 512 cap])) (gr : w2.grownBy w3 A.pv.ownBlock) (at' : v'.ownBlock = A.pv.ownBlock ∨ v'.ownBlock = some w2.heap.size) :
    RfR K (w3.setCell ⟨sb, 1, none⟩ v') sb { A with pv := v', ws := A.ws ++ [⟨s, fd, g, cap⟩] } { S with pend := S.pend ++ [(s, fd)] } ∧ FK K w (w3.setCell ⟨sb, 1, none⟩ v') := by
  have hf : Fr sb w3 (w3.setCell ⟨sb, 1, none⟩ v') := (Fr.refl sb w3).setCell
  have hgl := hb.lt
  -- an older block that is neither the row's nor the store's own
  have hB : ∀ b, b < w.heap.size → b ≠ sb → A.pv.ownBlock ≠ some b → (w3.setCell ⟨sb, 1, none⟩ v').heap[b]? = w.heap[b]? := fun b h1 h2 h3 =>
    (hf.block b (Nat.lt_of_lt_of_le (Nat.lt_of_lt_of_le h1 u.size) gr.size) h2).trans ((gr.block b (Nat.lt_of_lt_of_le h1 u.size) (fun e => h3 e.symm)).trans (u.block b h1))
  have hpg : A.pv.ownBlock ≠ some g := fun e => by have := own_lt h.row e; omega
  have hsl := heap_at h.blk
  have hG : (w3.setCell ⟨sb, 1, none⟩ v').heap[g]? = w2.heap[g]? := (hf.block g (Nat.lt_of_lt_of_le hgl gr.size) (by omega)).trans (gr.block g hgl (fun e => hpg e.symm))
  have hS3 : w3.heap[sb]? = some (.cells #[.slice (some ⟨A.fb, 0, none⟩) (512 * S.n) A.fc, A.pv, .int .i64 S.left] 61 (0, 0)) := (gr.block sb (Nat.lt_of_lt_of_le hsl u.size) (fun e => h.a4.1 e.symm)).trans ((u.block sb hsl).trans h.blk)
  have hv : ∀ b, v'.ownBlock = some b → A.pv.ownBlock = some b ∨ (w.heap.size ≤ b ∧ w2.heap.size ≤ b) := fun b e => by
    rcases at' with e1 | e1
    · exact Or.inl (e1 ▸ e)
    · rw [e1] at e
      injection e with e
      have := u.size
      exact Or.inr ⟨by omega, by omega⟩
  refine ⟨⟨fun b hb' ho => ?_, fun b hb' => Nat.lt_of_lt_of_le (h.kb b hb') (Nat.le_trans u.size (Nat.le_trans gr.size hf.size)), h.n1, h.n2, h.l1, h.l2, heap_setCell_same w3 sb 1 _ _ _ hS3, h.safe.of_block (hB _ h.safe.lt h.a2.symm h.a4.2), h.fc1, h.fc2, ?_, ?_, fun x hx => ?_, h.a2, ⟨fun e => ?_, fun e => ?_⟩, fun x hx => ?_⟩, ⟨hf.os.trans (gr.os.trans u.os), hf.output.trans (gr.output.trans u.output), Nat.le_trans u.size (Nat.le_trans gr.size hf.size), fun b h1 h2 => hB b h1 (fun e => h.kn b h2 (Or.inl e)) (fun e => h.kn b h2 (Or.inr (Or.inr (Or.inl e))))⟩⟩
  · have hbl := h.kb b hb'
    rcases ho with e | e | e | ⟨x, hx, e⟩
    · exact h.kn b hb' (Or.inl e)
    · exact h.kn b hb' (Or.inr (Or.inl e))
    · rcases hv b e with e1 | e1
      · exact h.kn b hb' (Or.inr (Or.inr (Or.inl e1)))
      · omega
    · rcases List.mem_append.1 hx with hx | hx
      · exact h.kn b hb' (Or.inr (Or.inr (Or.inr ⟨x, hx, e⟩)))
      · rw [List.mem_singleton.1 hx] at e
        have e : g = b := e
        omega
  · show (A.ws ++ [_]).map Wr.pl = _
    rw [List.map_append, h.tie]
    rfl
  · show (w3.setCell ⟨sb, 1, none⟩ v').ownsRow 0 _ 2 v' (A.ws ++ [_]).length (wrCells (A.ws ++ [_]))
    rw [wrCells_app, List.length_append]
    refine ownsRow_block own (fun b e => ?_)
    refine hf.block b (own_lt own e) (fun e2 => ?_)
    subst e2
    rcases hv b e with e1 | e1
    · exact h.a4.1 e1
    · omega
  · rcases List.mem_append.1 hx with hx | hx
    · have := h.wr x hx
      exact ⟨this.1.of_block (hB _ this.1.lt (h.a5 x hx).1 (h.a5 x hx).2.2), this.2⟩
    · rw [List.mem_singleton.1 hx]
      exact ⟨hb.of_block hG, hc1, hc2, hs⟩
  · rcases hv _ e with e1 | e1
    · exact h.a4.1 e1
    · omega
  · have := h.safe.lt
    have e : v'.ownBlock = some A.fb := e
    rcases hv _ e with e1 | e1
    · exact h.a4.2 e1
    · omega
  · rcases List.mem_append.1 hx with hx | hx
    · obtain ⟨q1, q2, q4⟩ := h.a5 x hx
      refine ⟨q1, q2, fun e => ?_⟩
      have := (h.wr x hx).1.lt
      rcases hv _ e with e1 | e1
      · exact q4 e1
      · omega
    · rw [List.mem_singleton.1 hx]
      have i2 := h.safe.lt
      refine ⟨?_, ?_, fun e => ?_⟩
      · show g ≠ sb
        omega
      · show g ≠ A.fb
        omega
      · rcases hv _ e with e1 | e1
        · exact hpg e1
        · have : w2.heap.size ≤ g := e1.2
          omega
set_option maxRecDepth 100000 in
theorem writeR_no (h : RfR K W sb A S) {x : Int} {aa : Option Addr} {dl dc : Nat} (hx : I64 x) (hl : dl ≤ 9223372036854775807) (hno : ¬ (0 ≤ x ∧ x < (S.n : Int)) ∨ dl ≠ 512) :
    Calls Try.prog 18 #[.pointer (some ⟨sb, 0, none⟩), .int .i64 x, .slice aa dl dc] W fun e w' => e = .returned (.int .i64 1) ∧ w' = W := by
  have HS : Hid (Calls Try.prog 25 #[.pointer (some ⟨sb, 0, none⟩)] W fun e w' => e = .returned (.int .i64 (S.n : Int)) ∧ w' = W) := sectorsR_any h
  clear h
  obtain ⟨x1, x2⟩ := hx
  by_cases d1 : x < 0
  · clear hno
    go_enter Try.func18, Try.ntmps18
    go_wp2_with fail
    go_ret
    exact ⟨by first | rfl | (simp; done), rfl⟩
  · by_cases d2 : (S.n : Int) ≤ x
    · clear hno
      go_enter Try.func18, Try.ntmps18
      go_wp2_with fail
      refine Calls.mono HS.out ?_
      rintro e w' ⟨rfl, rfl⟩
      go_wp2_with fail
      go_ret
      exact ⟨by first | rfl | (simp; done), rfl⟩
    · have e2 : ((dl : Int) != 512) = true := bne_iff_ne.2 (by rcases hno with h | h; exact absurd ⟨by omega, by omega⟩ h; omega)
      clear hno
      go_enter Try.func18, Try.ntmps18
      go_wp2_with fail
      refine Calls.mono HS.out ?_
      rintro e w' ⟨rfl, rfl⟩
      go_wp2_with fail
      go_ret
      exact ⟨by first | rfl | (simp; done), rfl⟩
set_option maxRecDepth 100000 in
theorem writeR_full (h : RfR K W sb A S) {i : Nat} {aa : Option Addr} {dc : Nat} (hi : i < S.n) (hl : S.left = 0) :
    Calls Try.prog 18 #[.pointer (some ⟨sb, 0, none⟩), .int .i64 (i : Int), .slice aa 512 dc] W fun e w' => e = .returned (.int .i64 101) ∧ w' = W := by
  have hn := h.n2
  have HS : Hid (Calls Try.prog 25 #[.pointer (some ⟨sb, 0, none⟩)] W fun e w' => e = .returned (.int .i64 (S.n : Int)) ∧ w' = W) := sectorsR_any h
  have k3 := h.cell.2.2
  rw [hl] at k3
  have d1 : ¬ (i : Int) < 0 := by omega
  have d2 : ¬ (S.n : Int) ≤ (i : Int) := by omega
  clear h hl
  go_enter Try.func18, Try.ntmps18
  go_wp2_with fail
  refine Calls.mono HS.out ?_
  rintro e w' ⟨rfl, rfl⟩
  go_wp2_with fail
  go_ret
  exact ⟨by first | rfl | (simp; done), rfl⟩
end Go.Proofs.Ytekffilokdmfgaa
