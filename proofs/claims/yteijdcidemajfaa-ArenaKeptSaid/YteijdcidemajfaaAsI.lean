/- Arena: the size of what is held. -/
import Derived.Test.YteijdcidemajfaaAsH
namespace Go.Proofs.Yteijdcidemajfaa
open Go.RowKit
set_option linter.unusedVariables false
variable {w w' W : World}
theorem leaseCells_at : ∀ (ls : List Loan) (j r : Nat) (l : Loan), ls[j]? = some l → r < 3 → (leaseCells ls)[j * 3 + r]? = l.lease[r]?
  | [], j, r, l, h, _ => by simp at h
  | x :: t, 0, r, l, h, hr => by
    simp at h
    subst h
    show (x.lease ++ leaseCells t)[0 * 3 + r]? = _
    rw [Nat.zero_mul, Nat.zero_add, List.getElem?_append_left (by show r < 3; exact hr)]
  | x :: t, j + 1, r, l, h, hr => by
    show (x.lease ++ leaseCells t)[(j + 1) * 3 + r]? = _
    have e : (j + 1) * 3 + r = (j * 3 + r) + 3 := by omega
    rw [e, List.getElem?_append_right (by show 3 ≤ _; omega)]
    show (leaseCells t)[j * 3 + r + 3 - 3]? = _
    rw [Nat.add_sub_cancel]
    exact leaseCells_at t j r l (by simpa using h) hr
set_option maxRecDepth 100000 in
theorem size_any {id : Int} {va ba : Option Addr} {vc bn bc base : Nat} {ls : List Loan} (own : W.ownsRow base 38 3 (.slice va ls.length vc) ls.length (leaseCells ls)) (hs : ∀ l ∈ ls, l.size ≤ 65536) (hn : ls.length ≤ 100000) :
    Calls Try.prog 24 #[.agg #[.int .i64 id, .slice va ls.length vc, .slice ba bn bc]] W fun e w' => e = .returned (.int .i64 (sizes ls : Nat)) ∧ Up W w' := by
  have HS : Hid (∀ k, sizes (ls.take k) ≤ 65536 * 100000) := fun k => by
    have := sizes_le (ls := ls.take k) (fun l hl => hs l (List.mem_of_mem_take hl))
    have h3 : (ls.take k).length ≤ ls.length := by rw [List.length_take]; omega
    omega
  have hvc : vc ≤ 9223372036854775807 ∧ (ls.length ≤ vc ∨ ls.length = 0) := by
    rcases own_cases own with ⟨hv, hn0, _⟩ | ⟨g, cap, hv, hc, hm, _⟩
    · injection hv with _ _ e
      exact ⟨by omega, Or.inr hn0⟩
    · injection hv with _ _ e
      unfold maxLen at hm
      exact ⟨by omega, Or.inl (by omega)⟩
  obtain ⟨hv1, hv2⟩ := hvc
  have HR : Hid (∀ w, Up W w → ∀ k l, ls[k]? = some l → ∃ g, va = some ⟨g, 0, none⟩ ∧ w.cell? ⟨g, k * 3 + 2, none⟩ = some (.int .i64 (l.size : Int))) := fun w u k l hk => by
    have hkl := (List.getElem?_eq_some_iff.1 hk).1
    rcases own_cases own with ⟨hv, hn0, _⟩ | ⟨g, cap, hv, hc, hm, _⟩
    · omega
    · injection hv with e1 _ e3
      subst e1
      refine ⟨g, rfl, ?_⟩
      have := own_cell (ownsRow_up own u) (k * 3 + 2) (by omega)
      rw [Nat.zero_add] at this
      rw [this, leaseCells_at ls k 2 l hk (by decide)]
      rfl
  have HB : Hid (Up W (W.alloc (Obj.cells #[.int .i64 id, .slice va ls.length vc, .slice ba bn bc] 56)) ∧ (W.alloc (Obj.cells #[.int .i64 id, .slice va ls.length vc, .slice ba bn bc] 56)).cell? ⟨W.heap.size, 1, none⟩ = some (.slice va ls.length vc)) := ⟨(Up.refl W).alloc _, heap_cell (heap_alloc_new W _) rfl⟩
  clear own hs
  go_enter Try.func24, Try.ntmps24
  go_wp2_with fail
  generalize World.alloc W _ = w1 at HB ⊢
  generalize W.heap.size = hb at HB ⊢
  have k1 := HB.out.2
  go_loop [3, 4] (fun s K => ∃ k : Nat, k ≤ ls.length ∧ s = .int .i64 (sizes (ls.take k) : Nat) ∧ K = .int .i64 k) (fun _ K => ls.length - (intOf K).toNat)
  case atStart => exact ⟨0, Nat.zero_le _, rfl, rfl⟩
  case round =>
    obtain ⟨k, hk, rfl, rfl⟩ := hrel
    by_cases hlt : k < ls.length
    · have d1 : (k : Int) < (ls.length : Int) := by omega
      obtain ⟨l, hy⟩ : ∃ y, ls[k]? = some y := ⟨_, List.getElem?_eq_getElem hlt⟩
      obtain ⟨g, rfl, kl⟩ := HR.out w1 HB.out.1 k l hy
      have HSk : Hid (sizes (ls.take (k + 1)) = sizes (ls.take k) + l.size) := sizes_take hy
      have b1 := HS.out k
      have b2 : sizes (ls.take k) + l.size ≤ 65536 * 100000 := by rw [← HSk.out]; exact HS.out (k + 1)
      clear hy HR
      go_wp2_with fail
      refine ⟨⟨k + 1, by omega, ?_, by first | rfl | (simp; done)⟩, ?_⟩
      · rw [HSk.out]
        simp
      · simp [intOf]
        omega
    · have d1 : ¬ (k : Int) < (ls.length : Int) := by omega
      have HT : Hid (ls.take k = ls) := List.take_of_length_le (by omega)
      have HV : Hid (∀ n : Nat, n = sizes (ls.take k) → n = sizes ls) := fun n e => by rw [e, HT.out]
      clear HT HR
      go_wp2_with fail
      go_ret
      refine ⟨?_, HB.out.1⟩
      rw [HV.out _ rfl]
      first | done | rfl | (simp; done)
end Go.Proofs.Yteijdcidemajfaa
