/- Block: a copy of the picks, and one more. -/
import Derived.Test.YtekffilokdmfgaaBeJ
namespace Go.Proofs.Ytekffilokdmfgaa
open Go.RowKit
set_option linter.unusedVariables false
set_option linter.unusedSimpArgs false
variable {w w' w1 W : World} {ρ ρ' : Nat → Nat} {R : Nat → Prop} {n g q : Nat} {f : Nat → Int} {v : Value}
def inL (f : Nat → Int) (m : Nat) : List Value := (List.range' 0 m).map (fun k => .int .i64 (f k))
theorem inL_len (f : Nat → Int) (m : Nat) : (inL f m).length = m := by unfold inL; simp
theorem inL_at {f : Nat → Int} {m k : Nat} (hk : k < m) : (inL f m)[k]? = some (.int .i64 (f k)) := by
  unfold inL
  rw [List.getElem?_map, List.getElem?_range' hk]
  simp
theorem inL_one (f : Nat → Int) (m : Nat) : ∀ v ∈ inL f m, v.oneCell' = true := by
  intro v hv
  unfold inL at hv
  obtain ⟨k, _, rfl⟩ := List.mem_map.1 hv
  rfl
theorem want_runI {aa : Option Addr} {ab ao cap : Nat} (h : Ints w aa ab ao n cap f) (h0 : aa = none → cap = 0) (hn : n ≤ 4000000) : ∃ u w', (Builtin.append_ #[29, 29] 29 #[.slice (some ⟨w.heap.size, 0, none⟩) 0 0, .slice aa n cap]).run Try.prog (w.alloc (.cells #[] 3)) = .ok u w' ∧ w'.ownsRow w.heap.size 3 1 u n (inL f n) ∧ Up w w' := by
  have sz : (w.alloc (.cells #[] 3)).heap.size = w.heap.size + 1 := alloc_size' _ _
  have ho : (w.alloc (.cells #[] 3)).ownsRow w.heap.size 3 1 (.slice (some ⟨w.heap.size, 0, none⟩) 0 0) 0 [] := own_of (heap_alloc_new w _) (Nat.le_refl _) (Nat.le_refl _) (Nat.zero_le _) rfl rfl (fun k hk => by omega)
  have h1 := h.upI ((Up.refl w).alloc (.cells #[] 3))
  rcases aa with _ | ad
  · obtain rfl := h0 rfl
    have := h.lc
    obtain rfl : n = 0 := by omega
    exact ⟨_, _, run_append_owned_none (P := Try.prog) (w := w.alloc (.cells #[] 3)) w.heap.size 29 29 3 Try.t3 1 Try.underlying29 (by kernel_rfl) _ 0 [] ho, ho, (Up.refl w).alloc _⟩
  · obtain ⟨v', w', hr, h2, h3, _, h5⟩ := run_append_own_at (P := Try.prog) _ w.heap.size 29 29 3 Try.t3 (.int .i64 0) 1 8 Try.underlying29 (by kernel_rfl) (by kernel_rfl) (by kernel_rfl) (by kernel_rfl) rfl (by decide) _ 0 [] ho ad n cap (inL f n) (by rw [inL_len, Nat.mul_one]) (fun j u hj => by
      have hjn : j < n := by have := (List.getElem?_eq_some_iff.1 hj).1; rwa [inL_len] at this
      have e := h.ad (by omega)
      injection e with e
      rw [e, Addr.add_lit, h1.cell j hjn]
      rw [inL_at hjn] at hj
      exact hj) (inL_one f n) (by unfold maxLen; omega) (by omega) (by omega)
    rw [Nat.zero_add, List.nil_append] at h2
    exact ⟨v', w', hr, h2, grown_upB ((Up.refl w).alloc _) ho h3⟩
/-- a row of numbers, and one more -/
theorem more_run {W : World} (h : w.ownsRow W.heap.size 3 1 v n (inL f n)) (u0 : Up W w) (hn : n ≤ 4000000) (x : Int) : ∃ g c w', (Builtin.append_ #[29, 29] 29 #[v, .slice (some ⟨w.heap.size, 0, none⟩) 1 1]).run Try.prog (w.alloc (.cells #[.int .i64 x] 3)) = .ok (.slice (some ⟨g, 0, none⟩) (n + 1) c) w' ∧ W.heap.size ≤ g ∧ n + 1 ≤ c ∧ c ≤ maxLen ∧ (∀ k, k < n → w'.cell? ⟨g, k, none⟩ = some (.int .i64 (f k))) ∧ w'.cell? ⟨g, n, none⟩ = some (.int .i64 x) ∧ (∀ k, w'.frozen? ⟨g, k, none⟩ = false) ∧ Up W w' := by
  have sz : (w.alloc (.cells #[.int .i64 x] 3)).heap.size = w.heap.size + 1 := alloc_size' _ _
  have ho := ownsRow_up h ((Up.refl w).alloc (.cells #[.int .i64 x] 3))
  have hsz := u0.size
  obtain ⟨v', w', hr, h2, h3, _, h5⟩ := run_append_own_at (P := Try.prog) _ W.heap.size 29 29 3 Try.t3 (.int .i64 0) 1 8 Try.underlying29 (by kernel_rfl) (by kernel_rfl) (by kernel_rfl) (by kernel_rfl) rfl (by decide) _ n _ ho ⟨w.heap.size, 0, none⟩ 1 1 [.int .i64 x] rfl (fun j u hj => by
    rw [Addr.add_lit, Nat.zero_add]
    match j, hj with
    | 0, hj => simp at hj; subst hj; exact heap_cell (heap_alloc_new w _) rfl
    | j + 1, hj => simp at hj) (by intro u hu; simp at hu; subst hu; rfl) (by unfold maxLen; omega) (by omega) (by omega)
  have hl : (inL f n ++ [Value.int .i64 x]).length = n + 1 := by rw [List.length_append, inL_len]; rfl
  rcases own_cases h2 with ⟨_, e, _⟩ | ⟨g, cap, rfl, c1, c2, _, _⟩
  · omega
  obtain ⟨cur, hg, hb, _, _, _, _⟩ := own_open h2
  refine ⟨g, cap, w', hr, hb, c1, c2, fun k hk => ?_, ?_, fun k => heap_fz hg, grown_upB (u0.trans ((Up.refl w).alloc _)) ho h3⟩
  · have := own_cell h2 k (by omega)
    rw [Nat.zero_add] at this
    rw [this, List.getElem?_append_left (by rw [inL_len]; exact hk), inL_at hk]
  · have := own_cell h2 n (by omega)
    rw [Nat.zero_add] at this
    rw [this, List.getElem?_append_right (by rw [inL_len]; exact Nat.le_refl _), inL_len, Nat.sub_self]
    rfl
/-- numbers that came in -/
structure Ist (ρ : Nat → Nat) (w : World) (aa : Option Addr) (ab ao n c : Nat) (f : Nat → Int) : Prop where
  ints : Ints w aa ab ao n c f
  ro : 0 < n → ab < w.heap.size ∧ ρ ab = 0
theorem Ist.mv {aa : Option Addr} {ab ao c : Nat} (h : Ist ρ w aa ab ao n c f) (m : Mv R ρ ρ' w w') (h0 : R 0) : Ist ρ' w' aa ab ao n c f :=
  ⟨⟨h.ints.lc, h.ints.cm, h.ints.ad, h.ints.i64, fun k hk => m.cell (by rw [(h.ro (by omega)).2]; exact h0) (h.ints.cell k hk)⟩, fun hk => ⟨Nat.lt_of_lt_of_le (h.ro hk).1 m.size, (m.bl ab (h.ro hk).1 (by rw [(h.ro hk).2]; exact h0)).1.trans (h.ro hk).2⟩⟩
/-- the copy of the picks: i of them are written over -/
structure Pst (ρ : Nat → Nat) (w : World) (g n c : Nat) (f : Nat → Int) (i : Nat) : Prop where
  cell : ∀ k, i ≤ k → k < n → w.cell? ⟨g, k, none⟩ = some (.int .i64 (f k))
  last : w.cell? ⟨g, n, none⟩ = some (.int .i64 771177)
  ro : ρ g = 5
  fz : ∀ k, w.frozen? ⟨g, k, none⟩ = false
  c1 : n + 1 ≤ c
  c2 : c ≤ maxLen
  i64 : ∀ k, I64 (f k)
theorem Pst.lt {c i : Nat} (h : Pst ρ w g n c f i) : g < w.heap.size := World.block_lt_of_cell? _ _ h.last
theorem Pst.mv {c i : Nat} (h : Pst ρ w g n c f i) (m : Mv R ρ ρ' w w') (h5 : R 5) : Pst ρ' w' g n c f i := by
  have k := m.bl g h.lt (by rw [h.ro]; exact h5)
  refine ⟨fun j h1 h2 => m.cell (by rw [h.ro]; exact h5) (h.cell j h1 h2), m.cell (by rw [h.ro]; exact h5) h.last, k.1.trans h.ro, fun j => ?_, h.c1, h.c2, h.i64⟩
  rw [← h.fz j]
  unfold World.frozen?
  rw [show (w'.heap[(⟨g, j, none⟩ : Addr).block]?) = w.heap[(⟨g, j, none⟩ : Addr).block]? from k.2]
theorem Pst.ints {c : Nat} (h : Pst ρ w g n c f 0) : Ints w (some ⟨g, 0, none⟩) g 0 n c f :=
  ⟨by have := h.c1; omega, h.c2, fun _ => rfl, h.i64, fun k hk => by rw [Nat.zero_add]; exact h.cell k (Nat.zero_le _) hk⟩
/-- .. one more is written over -/
theorem Pst.over {c i : Nat} (h : Pst ρ w g n c f i) (hi : i < n) (x : Int) : Pst (ext ρ w.heap.size 5) (w.setCell ⟨g, i, none⟩ (.int .i64 x)) g n c f (i + 1) ∧ Fr g w (w.setCell ⟨g, i, none⟩ (.int .i64 x)) := by
  have oth : ∀ k, k ≠ i → (w.setCell ⟨g, i, none⟩ (.int .i64 x)).cell? ⟨g, k, none⟩ = w.cell? ⟨g, k, none⟩ := fun k hk => by apply World.cell?_setCell_other; intro e; injection e with _ e2; exact hk e2.symm
  refine ⟨⟨fun k h1 h2 => by rw [oth k (by omega)]; exact h.cell k (by omega) h2, by rw [oth n (by omega)]; exact h.last, by rw [ext_lt h.lt]; exact h.ro, fun k => ?_, h.c1, h.c2, h.i64⟩, (Fr.refl g w).setCell⟩
  have := h.fz k
  simpa using this
end Go.Proofs.Ytekffilokdmfgaa
