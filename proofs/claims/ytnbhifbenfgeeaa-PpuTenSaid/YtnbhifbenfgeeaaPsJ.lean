/- A tile's sixteen bytes; a scene with sprites alone. -/
import Derived.Test.YtnbhifbenfgeeaaPsI
import Derived.Laws.CopyOwn
import Derived.Deep.OwnRows
import Derived.OwnWalk
namespace Go.Proofs.Ytnbhifbenfgeeaa
open Go.RowKit
set_option linter.unusedVariables false
variable {b : Nat} {p : Pic}
def tileOf (len : Nat) (f : Nat → Int) (k : Nat) : Int := if k < len then f k else 0
theorem made16 : (madeCells #[.int .u8 0] 16).toList = List.replicate 16 (.int .u8 0) := by kernel_rfl
def cells16 (len : Nat) (f : Nat → Int) : List Value := (List.range' 0 (Nat.min len 16)).map fun k => .int .u8 (f k)
theorem cells16_len (len : Nat) (f : Nat → Int) : (cells16 len f).length = Nat.min len 16 := by unfold cells16; rw [List.length_map, List.length_range']
theorem cells16_at (len : Nat) (f : Nat → Int) (k : Nat) (hk : k < Nat.min len 16) : (cells16 len f)[k]? = some (.int .u8 (f k)) := by
  unfold cells16
  rw [List.getElem?_map, List.getElem?_range' hk]
  simp
theorem splice16 (len : Nat) (f : Nat → Int) (k : Nat) (hk : k < 16) : (splice (madeCells #[.int .u8 0] 16).toList 0 (cells16 len f))[k]? = some (.int .u8 (tileOf len f k)) := by
  have hm : Nat.min len 16 = min len 16 := rfl
  rw [made16]
  unfold splice tileOf
  rw [List.take_zero, List.nil_append, Nat.zero_add, cells16_len]
  by_cases h : k < len
  · rw [if_pos h, List.getElem?_append_left (by rw [cells16_len]; omega)]
    exact cells16_at len f k (by omega)
  · rw [if_neg h, List.getElem?_append_right (by rw [cells16_len]; omega), cells16_len, List.getElem?_drop, List.getElem?_replicate, if_pos (by omega)]
theorem splice16_len (len : Nat) (f : Nat → Int) : (splice (madeCells #[.int .u8 0] 16).toList 0 (cells16 len f)).length = 16 := by
  have hm : Nat.min len 16 = min len 16 := rfl
  rw [made16]
  unfold splice
  rw [List.length_append, List.length_append, List.length_drop, cells16_len]
  simp
  omega
set_option maxRecDepth 100000 in
set_option maxHeartbeats 1000000 in
theorem blob_any {W : World} {aa : Option Addr} {ab ao len cap : Nat} {f : Nat → Int} (D : Byts W aa ab ao len cap f) : Calls Try.prog 30 #[.slice aa len cap] W fun e w' => e = .returned (.slice (some ⟨W.heap.size, 0, none⟩) 16 16) ∧ NmAt w' W.heap.size 16 (tileOf len f) ∧ Up W w' := by
  have HD : Hid (Byts W aa ab ao len cap f) := D
  clear D
  have HC1 : Hid (∀ w1, Up W w1 → 0 < (cells16 len f).length → ∃ ad, aa = some ad ∧ ∀ j v, (cells16 len f)[j]? = some v → w1.cell? (ad.add j) = some v) := fun w1 u1 hp => by
    rw [cells16_len] at hp
    have hm : Nat.min len 16 = min len 16 := rfl
    refine ⟨_, HD.out.ad (by omega), fun j v hj => ?_⟩
    have hj2 : j < Nat.min len 16 := by
      have := (List.getElem?_eq_some_iff.1 hj).1
      rw [cells16_len] at this
      exact this
    rw [cells16_at len f j hj2] at hj
    rw [Addr.add_lit, ← hj]
    have hc := HD.out.cell j (by omega)
    exact (u1.cell (World.block_lt_of_cell? _ _ hc)).trans hc
  have HC2 : Hid (∀ v ∈ cells16 len f, v.oneCell' = true) := fun v hv => by
    unfold cells16 at hv
    obtain ⟨k, _, rfl⟩ := List.mem_map.1 hv
    rfl
  go_enter Try.func30, Try.ntmps30
  go_wp2_with (first | (at_make; refine wpList_make_row _ rfl _ _ 23 rfl 5 Try.t5 (.int .u8 0) Try.underlying23 (by kernel_rfl) (by kernel_rfl) (by kernel_rfl) rfl .i64 .i64 16 rfl rfl (by decide) (by decide) ?_; have u1 : Up W (W.alloc (.cells (madeCells #[.int .u8 0] 16) 5)) := (Up.refl W).alloc _; have g1 := heap_alloc_new W (.cells (madeCells #[.int .u8 0] 16) 5); generalize World.alloc W _ = w1 at u1 g1 ⊢; have H1 : Hid _ := And.intro u1 g1; clear u1 g1) | (refine wpList_copy_splice rfl (.tmp 5) (.tmp 6) 23 23 rfl 5 Try.underlying23 (by kernel_rfl) (some ⟨W.heap.size, 0, none⟩) aa 16 16 len cap rfl rfl W.heap.size 0 (madeCells #[.int .u8 0] 16).toList 5 H1.out.2 (cells16 len f) (cells16_len len f) (fun hp => ⟨rfl, HC1.out w1 H1.out.1 hp⟩) (by rw [cells16_len, made16, List.length_replicate]; have : Nat.min len 16 = min len 16 := rfl; omega) HC2.out W.heap.size w1 (Below.refl _ w1) (Nat.le_refl _) ?_; intro w4 hg4 hb4))
  have H4 : Hid (NmAt w4 W.heap.size 16 (tileOf len f) ∧ Up W w4) := ⟨⟨_, _, hg4.out, by rw [List.size_toArray]; exact splice16_len len f, fun k hk => by rw [List.getElem?_toArray]; exact splice16 len f k hk⟩, ⟨hb4.os.trans H1.out.1.os, hb4.output.trans H1.out.1.output, Nat.le_trans H1.out.1.size hb4.size, fun k hk => (hb4.block k hk).trans (H1.out.1.block k hk)⟩⟩
  clear hg4 hb4 H1
  go_wp2_with fail
  go_ret
  exact ⟨rfl, H4.out⟩
end Go.Proofs.Ytnbhifbenfgeeaa
