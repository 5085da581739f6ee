/- The frame of one sprite alone; its numbers. -/
import Derived.Test.YtnbhifbenfgeeaaPsK
namespace Go.Proofs.Ytnbhifbenfgeeaa
open Go.RowKit
set_option linter.unusedVariables false
variable {b : Nat} {p : Pic}
theorem tileOf_b {len : Nat} {f : Nat → Int} (h : ∀ k, 0 ≤ f k ∧ f k ≤ 255) (k : Nat) : 0 ≤ tileOf len f k ∧ tileOf len f k ≤ 255 := by
  unfold tileOf
  split
  · exact h k
  · decide
theorem NmAt.byts {w : World} {g n : Nat} {T : Nat → Int} (h : NmAt w g n T) (hn : n ≤ maxLen) (hb : ∀ k, 0 ≤ T k ∧ T k ≤ 255) : Byts w (some ⟨g, 0, none⟩) g 0 n n T := by
  obtain ⟨cs, ty, h1, h2, h3⟩ := h.row
  refine ⟨Nat.le_refl _, hn, fun _ => rfl, hb, fun k hk => ?_⟩
  rw [cell_of_row _ _ _ _ _ _ h1, Nat.zero_add]
  exact h3 k hk
theorem sprShot_any {w : World} {rg pb tb ob : Nat} {ty ty2 : TypeId} {T : Nat → Int} {r c k : Int} (hr : 0 ≤ r ∧ r ≤ 255) (hc : 0 ≤ c ∧ c ≤ 255) (hk : 0 ≤ k ∧ k ≤ 255) (hT : ∀ m, 0 ≤ T m ∧ T m ≤ 255)
    (R : RgAt w rg loneR) (N : NmAt w tb 16 (tileOf 16 T)) (hp : w.heap[pb]? = some (.cells #[.int .i64 16, .slice (some ⟨tb, 0, none⟩) 16 16] ty (0, 0))) (ho : w.heap[ob]? = some (.cells #[.int .u8 r, .int .u8 c, .int .u8 1, .int .u8 k] ty2 (0, 0))) :
    Calls Try.prog 26 #[.agg #[.slice (some ⟨rg, 0, none⟩) 12 12, .slice (some ⟨ob, 0, none⟩) 4 4, .slice (some ⟨pb, 0, none⟩) 1 1]] w fun e w' => ∃ g, e = .returned (.tuple #[.slice (some ⟨g, 0, none⟩) 23040 23040, .bool true]) ∧ w.heap.size ≤ g ∧ NmAt w' g 23040 (fun i => sprPoint T r c k (i / 160) (i % 160)) ∧ Up w w' := by
  have lp : pb < w.heap.size := (Array.getElem?_eq_some_iff.1 hp).1
  have lo : ob < w.heap.size := (Array.getElem?_eq_some_iff.1 ho).1
  obtain ⟨M, hM⟩ : ∃ M, M = 40 := ⟨_, rfl⟩
  refine shotO_any (ob := ob) (oo := 0) (F := oneF r c k) (pb := pb) (po := 0) (P := fun _ => ⟨16, some ⟨tb, 0, none⟩, tb, 0, 16, 16, tileOf 16 T⟩) loneR_i64 (fun w' u i hi => (R.up u).cell i hi) (fun w' u => ?_) (fun w' u => ?_) (fun b q h => ⟨_, lone_lin (T := T) hM hr (fun m hm => ?_) b q h⟩)
  · have h2 := (u.block ob lo).trans ho
    refine ⟨by decide, by decide, fun _ => rfl, fun j => ?_, fun j hj => ?_⟩
    · unfold oneF
      split
      · exact hr
      · split
        · exact hc
        · split
          · decide
          · exact hk
    · rw [cell_of_row _ _ _ _ _ _ h2, Nat.zero_add]
      have : j = 0 ∨ j = 1 ∨ j = 2 ∨ j = 3 := by omega
      rcases this with rfl | rfl | rfl | rfl <;> rfl
  · have h2 := (u.block pb lp).trans hp
    refine ⟨by decide, by decide, fun _ => rfl, fun i => (show I64 16 by unfold I64; decide), fun i hi => ?_, fun i hi => ?_, fun i hi => (N.of_block (u.block _ N.lt)).byts (by decide) (tileOf_b hT)⟩
    · obtain rfl : i = 0 := by omega
      rw [cell_of_row _ _ _ _ _ _ h2]
      rfl
    · obtain rfl : i = 0 := by omega
      rw [cell_of_row _ _ _ _ _ _ h2]
      rfl
  · have := putB_tile (fun _ => 0) ⟨16, some ⟨tb, 0, none⟩, tb, 0, 16, 16, tileOf 16 T⟩ rfl m hm 16 (Nat.le_refl _)
    refine Eq.trans this ?_
    rw [if_pos hm]
    show tileOf 16 T m = T m
    unfold tileOf
    rw [if_pos hm]
theorem and1_u8 : ∀ x : Int, 0 ≤ x → x ≤ 255 → bits .and .u8 x 1 = x % 2 := byteAll (by decide +kernel)
theorem and1_i64 : ∀ x : Int, 0 ≤ x → x ≤ 255 → bits .and .i64 x 1 = x % 2 := byteAll (by decide +kernel)
theorem and64_i64 : ∀ x : Int, 0 ≤ x → x ≤ 255 → bits .and .i64 x 64 = bits .and .u8 x 64 := byteAll (by decide +kernel)
theorem and32_i64 : ∀ x : Int, 0 ≤ x → x ≤ 255 → bits .and .i64 x 32 = bits .and .u8 x 32 := byteAll (by decide +kernel)
theorem and16_i64 : ∀ x : Int, 0 ≤ x → x ≤ 255 → bits .and .i64 x 16 = bits .and .u8 x 16 := byteAll (by decide +kernel)
theorem div_b {l : Int} (h0 : 0 ≤ l) (h1 : l ≤ 255) (j : Nat) : 0 ≤ l / 2 ^ j ∧ l / 2 ^ j ≤ 255 := by
  have hp : (0 : Int) < 2 ^ j := Int.pow_pos (by decide)
  exact ⟨Int.ediv_nonneg h0 (Int.le_of_lt hp), Int.le_trans (Int.ediv_le_self _ h0) h1⟩
theorem numberI_sum {l h : Int} (l0 : 0 ≤ l) (l1 : l ≤ 255) (h0 : 0 ≤ h) (h1 : h ≤ 255) (j : Int) : numberI l h j = l / 2 ^ j.toNat % 2 + 2 * (h / 2 ^ j.toNat % 2) := by
  unfold numberI
  have a := div_b l0 l1 j.toNat
  have b := div_b h0 h1 j.toNat
  rw [and1_u8 _ a.1 a.2, and1_u8 _ b.1 b.2]
  have a2 : l / 2 ^ j.toNat % 2 = 0 ∨ l / 2 ^ j.toNat % 2 = 1 := by omega
  have b2 : h / 2 ^ j.toNat % 2 = 0 ∨ h / 2 ^ j.toNat % 2 = 1 := by omega
  rcases a2 with e | e <;> rcases b2 with e2 | e2 <;> rw [e, e2] <;> decide
end Go.Proofs.Ytnbhifbenfgeeaa
