/- Block: the document's Of. -/
import Derived.Test.YtekffilokdmfgaaBcC
namespace Go.Proofs.Ytekffilokdmfgaa
open Go.RowKit
set_option linter.unusedVariables false
set_option linter.unusedSimpArgs false
variable {w w' W : World} {g n m o : Nat} {f f' : Nat → Int} {K K' : Nat → Prop} {sb : Nat} {A : Rd} {S : Sto}
set_option maxRecDepth 100000 in
set_option maxHeartbeats 1000000 in
theorem ofR_ok {aa : Option Addr} {ab ao c : Nat} (D : Byts W aa ab ao (512 * m) c f) (h1 : 1 ≤ m) (h2 : m ≤ 4096) (hk : ∀ b, K b → b < W.heap.size) :
    Calls Try.prog 34 #[.slice aa (512 * m) c] W fun e w' => ∃ sb, e = .returned (.tuple #[.pointer (some ⟨sb, 0, none⟩), .int .i64 0]) ∧ RfAt K w' sb (Sto.fresh m f) ∧ Up W w' := by
  obtain ⟨u, w1, r1, o1, u1⟩ := want_runB D (fun e => by have := D.ad (by omega); rw [e] at this; cases this) (by omega)
  have HR : Hid _ := r1
  obtain ⟨g, gc, rfl, g1, g2, g3, g4⟩ : ∃ g cap, u = .slice (some ⟨g, 0, none⟩) (512 * m) cap ∧ 512 * m ≤ cap ∧ cap ≤ maxLen ∧ W.heap.size ≤ g ∧ By w1 g (512 * m) f := by
    rcases own_cases o1 with ⟨_, e, _⟩ | ⟨g, cap, rfl, q1, q2, q3, q4⟩
    · omega
    · obtain ⟨cur, hg, hb, hc, hm, hs, ht⟩ := own_open o1
      exact ⟨g, cap, rfl, q1, q2, hb, ⟨cur, _, hg, by omega, fun k hk => by rw [own_at ht.1 k (by omega)]; exact byL_at hk⟩⟩
  have HF : Hid (RfAt K (w1.alloc (.cells #[.slice (some ⟨g, 0, none⟩) (512 * m) gc, .slice none 0 0, .int .i64 (-1)] 61)) w1.heap.size (Sto.fresh m f) ∧ Up W (w1.alloc (.cells #[.slice (some ⟨g, 0, none⟩) (512 * m) gc, .slice none 0 0, .int .i64 (-1)] 61))) :=
    ⟨RfAt.fresh g4 h1 h2 g1 g2 (fun b hb => by have := hk b hb; have := u1.size; omega), u1.alloc _⟩
  have c1 := D.lc
  have c2 : c ≤ 9223372036854775807 := by have := D.cm; unfold maxLen at this; omega
  have e1 : ((512 * m : Nat) : Int) / 512 = (m : Int) := by omega
  have d1 : ¬ (m : Int) < 1 := by omega
  have d2 : ¬ (4096 : Int) < (m : Int) := by omega
  have e2 : (m : Int) * 512 = ((512 * m : Nat) : Int) := by omega
  clear r1 o1 u1 g4 D h1 h2 hk
  generalize 512 * m = N at *
  go_enter Try.func34, Try.ntmps34
  go_wp2_with (at_builtin; refine Lib.wpList_append_run _ rfl _ _ _ _ rfl _ _ rfl rfl _ _ HR.out ?_; clear HR)
  go_ret2
  exact ⟨_, by first | rfl | (simp; done), HF.out⟩
set_option maxRecDepth 100000 in
theorem ofR_no {aa : Option Addr} {c : Nat} (c1 : n ≤ c) (c2 : c ≤ maxLen) (h : n < 512 ∨ 2097152 < n ∨ n % 512 ≠ 0) :
    Calls Try.prog 34 #[.slice aa n c] W fun e w' => e = .returned (.tuple #[.pointer none, .int .i64 1]) ∧ w' = W := by
  have c3 : c ≤ 9223372036854775807 := by unfold maxLen at c2; omega
  obtain ⟨m, hm⟩ : ∃ m : Nat, m = n / 512 := ⟨_, rfl⟩
  have e1 : (n : Int) / 512 = (m : Int) := by omega
  have fin : (m : Int) < 1 ∨ ((¬ (m : Int) < 1) ∧ (4096 : Int) < (m : Int)) ∨ ((¬ (m : Int) < 1) ∧ (¬ (4096 : Int) < (m : Int)) ∧ ((m : Int) * 512 == (n : Int)) = false ∧ (m : Int) ≤ 4096) := by
    by_cases d1 : (m : Int) < 1
    · exact Or.inl d1
    by_cases d2 : (4096 : Int) < (m : Int)
    · exact Or.inr (Or.inl ⟨d1, d2⟩)
    refine Or.inr (Or.inr ⟨d1, d2, ?_, by omega⟩)
    have : (m : Int) * 512 ≠ (n : Int) := by omega
    simpa using this
  clear h hm
  rcases fin with d1 | ⟨d1, d2⟩ | ⟨d1, d2, d3, d4⟩
  · go_enter Try.func34, Try.ntmps34
    go_wp2_with fail
    go_ret2
    exact ⟨by first | rfl | (simp; done), rfl⟩
  · go_enter Try.func34, Try.ntmps34
    go_wp2_with fail
    go_ret2
    exact ⟨by first | rfl | (simp; done), rfl⟩
  · go_enter Try.func34, Try.ntmps34
    go_wp2_with fail
    go_ret2
    exact ⟨by first | rfl | (simp; done), rfl⟩
end Go.Proofs.Ytekffilokdmfgaa
