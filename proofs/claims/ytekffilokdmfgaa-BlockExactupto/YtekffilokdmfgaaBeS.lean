/- Block: zeros behind a list of one's own. -/
import Derived.Test.YtekffilokdmfgaaBeQ
import Derived.Lib.AppendZerosOnto
import Derived.ArgAppend
namespace Go.Proofs.Ytekffilokdmfgaa
open Go.RowKit
set_option linter.unusedVariables false
set_option linter.unusedSimpArgs false
variable {w w' W : World} {base n : Nat} {f : Nat → Int} {v u : Value}
def zerF (n : Nat) (f : Nat → Int) (j : Nat) : Int := if j < n then f j else 0
theorem byL_zer (n k : Nat) (f : Nat → Int) : byL f n ++ rep 0 k = byL (zerF n f) (n + k) := by
  refine List.ext_getElem? fun j => ?_
  by_cases h1 : j < n
  · rw [List.getElem?_append_left (by rw [byL_len]; exact h1), byL_at h1, byL_at (by omega)]
    unfold zerF
    rw [if_pos h1]
  · rw [List.getElem?_append_right (by rw [byL_len]; omega), byL_len]
    by_cases h2 : j < n + k
    · rw [byL_at h2]
      unfold rep zerF
      rw [List.getElem?_replicate, if_pos (by omega), if_neg h1]
    · rw [List.getElem?_eq_none (by unfold rep; simp; omega), List.getElem?_eq_none (by rw [byL_len]; omega)]
theorem setCells_tape (b : Nat) : ∀ (vs : List Value) (o : Nat) (w : World), (w.setCells b o vs).tape = w.tape
  | [], _, _ => rfl
  | v :: r, o, w => (setCells_tape b r (o + 1) (w.setCell ⟨b, o, none⟩ v)).trans rfl
theorem zero_rep (k : Nat) : Builtin.zeroCells #[.int .u8 0] k = (rep 0 k).toArray := by
  refine Array.ext_getElem? fun j => ?_
  unfold Builtin.zeroCells rep
  by_cases h : j < k
  · simp [h, Nat.mod_one]
  · simp [h]
theorem own_zeros {k : Nat} (h : w.ownsRow base 5 1 v n (byL f n)) (hk : k ≤ 100000) (hn : n ≤ 4100000) (hb : base ≤ w.heap.size) : ∃ v' w', (Builtin.append_ #[25, 3] 25 #[v, .int .i64 (k : Int)]).run Try.prog w = .ok v' w' ∧ w'.ownsRow base 5 1 v' (n + k) (byL (zerF n f) (n + k)) ∧ w.grownBy w' v.ownBlock := by
  have hi : Try.prog.info? 5 = some Try.t5 := by kernel_rfl
  have ht : Try.prog.underlying 25 = some (.slice 5) := Try.underlying25
  have htn : Try.prog.underlying 3 = some (.int .i64) := Try.underlying3
  have hz : Try.t5.zero = some (.int .u8 0) := by kernel_rfl
  have hs1 : Try.t5.size = 1 := by kernel_rfl
  have hb1 : Try.t5.bytes = 1 := by kernel_rfl
  have hw : IntKind.i64.wrap (k : Int) = k := by rw [IntKind.wrap_i64]; omega
  have hneg : ¬ ((k : Int) < 0) := by omega
  have h48 : ¬ (281474976710656 < (k : Int)) := by omega
  have zc : Builtin.zeroCells #[.int .u8 0] k = (rep 0 k).toArray := zero_rep k
  have zv : ∀ k', (Builtin.zeroCells #[.int .u8 0] k').size = k' := fun k' => by rw [size_zeroCells]; simp
  have hx := h.1
  rw [byL_len] at hx
  -- what the growing arm leaves
  have grown : ∀ (old : Nat), old < n + k → ∀ (row : Option Nat),
      (w.drew.alloc (.cells ((byL f n).toArray ++ Builtin.zeroCells #[.int .u8 0] k ++ Builtin.zeroCells #[.int .u8 0] (grownCap w (n + k) old 5 - (n + k))) 5)).ownsRow base 5 1
        (.slice (some ⟨w.heap.size, 0, none⟩) (n + k) (grownCap w (n + k) old 5)) (n + k) (byL (zerF n f) (n + k)) ∧
      w.grownBy (w.drew.alloc (.cells ((byL f n).toArray ++ Builtin.zeroCells #[.int .u8 0] k ++ Builtin.zeroCells #[.int .u8 0] (grownCap w (n + k) old 5 - (n + k))) 5)) row := by
    intro old ho row
    have hge := grownCap_ge w (n + k) old 5
    have hcm : grownCap w (n + k) old 5 ≤ maxLen := grownCap_le_maxLen w (n + k) old 5 (by unfold maxLen; omega)
    refine ⟨⟨by rw [byL_len, Nat.mul_one], .inr ⟨w.heap.size, _, _, rfl, hb, heap_alloc_new w.drew _, hge, hcm, ?_, ?_⟩⟩, ⟨rfl, rfl, rfl, by simp, fun j hj _ => Below.heap_alloc w.drew _ _ hj⟩⟩
    · simp only [Array.size_append, List.size_toArray, zv, byL_len]
      omega
    · rw [zc, ← byL_zer n k f]
      simp only [Array.toList_append, List.append_assoc]
      rw [← List.append_assoc]
      have : ((byL f n) ++ (rep 0 k)).length = (n + k) * 1 := by rw [List.length_append, byL_len, rep_len, Nat.mul_one]
      rw [← this]
      exact List.take_left
  have hw0 : IntKind.i64.wrap 0 = 0 := by rw [IntKind.wrap_i64]; rfl
  by_cases h0 : k = 0
  · subst h0
    refine ⟨v, w, ?_, ?_, ⟨rfl, rfl, rfl, Nat.le_refl _, fun _ _ _ => rfl⟩⟩
    · rcases own_cases h with ⟨rfl, rfl, _⟩ | ⟨g, cap, rfl, h1, h2, h3, h4⟩
      · simp [Builtin.append_, run_underlying ht, run_underlying htn, sizeOf, typeInfo, zeroValue, hi, hz, asInt, asIntOf, hw0, hs1, hb1]
      · simp [Builtin.append_, run_underlying ht, run_underlying htn, sizeOf, typeInfo, zeroValue, hi, hz, asInt, asIntOf, hw0, hs1, hb1, h1, storeCells]
    · have e := byL_zer n 0 f
      rw [show rep 0 0 = [] from rfl, List.append_nil] at e
      rw [Nat.add_zero] at e ⊢
      rw [← e]
      exact h
  have hk1 : 1 ≤ k ∧ k ≤ 100000 := by omega
  rcases own_cases h with ⟨rfl, rfl, _⟩ | ⟨g, cap, rfl, h1, h2, h3, h4⟩
  · have hr := Go.Lib.run_append_nil_zeros (P := Try.prog) w 25 3 25 5 Try.t5 (.int .u8 0) .i64 .i64 ht htn hi hz k (by omega) (by rw [hs1]; decide) (by omega) (by rw [hb1]; omega)
    have hgr := grown 0 (by omega) (Value.ownBlock (.slice none 0 0))
    have hz2 : (Value.int .u8 0).cells = #[.int .u8 0] := rfl
    rw [hz2] at hr
    rw [Nat.zero_add, show (byL f 0).toArray = #[] from rfl, Array.empty_append] at hgr
    rw [Nat.zero_add]
    exact ⟨_, _, hr, hgr.1, hgr.2⟩
  · by_cases hroom : n + k ≤ cap
    · obtain ⟨cur, hg, hbg, hc, hm, hs, ht2⟩ := own_open h
      have hst := run_storeCells_cells (P := Try.prog) g n (rep 0 k) 0 w (fun j hj => by
        rw [rep_len] at hj
        show (w.cell? ⟨g, n + 0 + j, none⟩).isSome = true
        rw [heap_cell hg (Array.getElem?_eq_getElem (show n + 0 + j < cur.size by omega))]
        rfl) (fun j hj => heap_fz hg) (fun x hx => by rw [List.eq_of_mem_replicate hx]; rfl)
      simp only [Nat.add_zero] at hst
      refine ⟨.slice (some ⟨g, 0, none⟩) (n + k) cap, w.setCells g n (rep 0 k), ?_, ?_, ?_⟩
      · simp [Builtin.append_, run_underlying ht, run_underlying htn, sizeOf, typeInfo, zeroValue, hi, hz, asInt, asIntOf, hw, hneg, h48, hs1, hb1, h0, hroom, zc, Addr.add_lit, hst, Value.cells]
      · have hh := heap_setCells_same g 5 (rep 0 k) n cur w hg
        refine own_of hh hbg hroom hm (by rw [putL_size]; exact hs) (by rw [byL_len, Nat.mul_one]) (fun t ht3 => ?_)
        rw [putL_at _ _ _ _ (by rw [rep_len]; omega), rep_len, byL_at (by omega)]
        unfold zerF
        by_cases h5 : t < n
        · rw [if_neg (by omega), if_pos h5, own_at ht2.1 t (by omega)]
          exact byL_at h5
        · rw [if_pos (by omega), if_neg h5]
          unfold rep
          rw [List.getElem?_replicate, if_pos (by omega)]
      · have fr := fr_setCells g (rep 0 k) n w
        exact ⟨fr.os, setCells_tape _ _ _ _, fr.output, fr.size, fun b hb2 hne => fr.block b hb2 (fun e => hne (by rw [e]; rfl))⟩
    · have hold : (Builtin.firstCells Try.t5.size n (.slice (some ⟨g, 0, none⟩) n cap)).run Try.prog w.drew = .ok (byL f n).toArray w.drew :=
        run_firstCells_some (P := Try.prog) w.drew Try.t5.size n ⟨g, 0, none⟩ n cap (byL f n) (by rw [byL_len, hs1, Nat.mul_one]) (h.cells (g := g) rfl)
      have hr := Go.Lib.run_append_grow_zeros (P := Try.prog) w 25 3 25 5 Try.t5 (.int .u8 0) .i64 .i64 ht htn hi hz (some ⟨g, 0, none⟩) n cap (byL f n) hold k (by omega) (by rw [hs1]; decide) (by omega) (by omega) (by rw [hb1]; omega) (by rw [hb1]; exact growslice_fits (by omega) (by omega))
      have hgr := grown cap (by omega) (Value.ownBlock (.slice (some ⟨g, 0, none⟩) n cap))
      exact ⟨_, _, hr, hgr.1, hgr.2⟩
end Go.Proofs.Ytekffilokdmfgaa
