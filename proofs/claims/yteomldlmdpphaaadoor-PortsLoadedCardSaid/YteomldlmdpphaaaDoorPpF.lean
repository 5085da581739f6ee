/- Load. -/
import Derived.Test.YteomldlmdpphaaaDoorPpG
import Derived.Deep.MidRow
import Derived.Laws.BitsAllLaws
namespace Go.Proofs.YteomldlmdpphaaaDoor
open Go.RowKit
set_option linter.unusedVariables false
set_option linter.unusedSimpArgs false
variable {b : Nat} {p : Po}
/-- what bytes say -/
def ldP (x : Nat → Int) : Po := ⟨x 0, x 1, x 2, x 3, x 4 + x 5 * 256, x 6, x 7, x 8, x 9, x 10, x 11 + x 12 * 256, x 13⟩
theorem nat_lor (a b : Nat) (ha : a < 256) : a ||| (b * 256) = a + b * 256 := by
  have := Nat.two_pow_add_eq_or_of_lt (i := 8) (b := a) (by omega) b
  rw [Nat.or_comm]
  have e : (2 : Nat) ^ 8 = 256 := by decide
  rw [e, Nat.mul_comm 256 b] at this
  omega
theorem or16' (a c : Int) (a0 : 0 ≤ a) (a1 : a ≤ 255) (c0 : 0 ≤ c) (c1 : c ≤ 255) : bits .or .u16 a (c * 256) = a + c * 256 := by
  obtain ⟨m, rfl⟩ := Int.eq_ofNat_of_zero_le a0
  obtain ⟨n, rfl⟩ := Int.eq_ofNat_of_zero_le c0
  have e : ((n : Int) * 256) = ((n * 256 : Nat) : Int) := by omega
  rw [e, u16_or_nat m (n * 256) (by omega) (by omega), nat_lor m n (by omega)]
  omega
theorem i64_or_nat' (a b : Nat) (ha : a < 65536) (hb : b < 65536) : bits .or .i64 (a : Int) (b : Int) = ((a ||| b : Nat) : Int) := by
  have hx : a ||| b < 2 ^ 16 := Nat.or_lt_two_pow (by omega) (by omega)
  show IntKind.i64.wrap ((BitVec.ofInt 64 (a : Int) ||| BitVec.ofInt 64 (b : Int)).toNat : Int) = _
  rw [BitVec.toNat_or, ofInt_u64 a (by omega), ofInt_u64 b (by omega)]
  simp [IntKind.wrap, IntKind.bits, IntKind.signed]
  omega
theorem or64' (a c : Int) (a0 : 0 ≤ a) (a1 : a ≤ 255) (c0 : 0 ≤ c) (c1 : c ≤ 255) : bits .or .i64 a (c * 256) = a + c * 256 := by
  obtain ⟨m, rfl⟩ := Int.eq_ofNat_of_zero_le a0
  obtain ⟨n, rfl⟩ := Int.eq_ofNat_of_zero_le c0
  have e : ((n : Int) * 256) = ((n * 256 : Nat) : Int) := by omega
  rw [e, i64_or_nat' m (n * 256) (by omega) (by omega), nat_lor m n (by omega)]
  omega
set_option maxRecDepth 100000 in
set_option maxHeartbeats 1000000 in
theorem load_long (v : Value) (W : World) (h : PoAt W b p v) (a : Option Addr) (n c : Nat) (hn : n ≠ 19) (hm : n ≤ 9223372036854775807) :
    Calls Tryd.prog 24 #[.pointer (some ⟨b, 0, none⟩), .slice a n c] W fun e w' => e = .returned (.int .i64 52) ∧ Up W w' := by
  have d : (((n : Int)) != 19) = true := by simp; omega
  go_enter Tryd.func24, Tryd.ntmps24
  go_wp2_with fail
  go_ret
  exact ⟨rfl, Up.refl _⟩
set_option maxRecDepth 100000 in
set_option maxHeartbeats 1000000 in
theorem load_19 (v : Value) (W : World) (h : PoAt W b p v) (g o c : Nat) (x : Nat → Int) (hx : ∀ j, j < 19 → W.cell? ⟨g, o + j, none⟩ = some (.int .u8 (x j))) (hb : ∀ j, 0 ≤ x j ∧ x j ≤ 255) (hc : 19 ≤ c) (hcm : c ≤ 9223372036854775807) :
    Calls Tryd.prog 24 #[.pointer (some ⟨b, 0, none⟩), .slice (some ⟨g, o, none⟩) 19 c] W fun e w' => ((mayB (ldP x) && zB (fun j => x (14 + j))) = true ∧ e = .returned (.int .i64 0) ∧ PoAt w' b (ldP x) (.slice none 0 0) ∧ Fr b W w') ∨ ((mayB (ldP x) && zB (fun j => x (14 + j))) = false ∧ e = .returned (.int .i64 52) ∧ Up W w') := by
  have c0 : W.cell? ⟨g, o, none⟩ = some (.int .u8 (x 0)) := hx 0 (by decide)
  have c1 := hx 1 (by decide)
  have c2 := hx 2 (by decide)
  have c3 := hx 3 (by decide)
  have c4 := hx 4 (by decide)
  have c5 := hx 5 (by decide)
  have c6 := hx 6 (by decide)
  have c7 := hx 7 (by decide)
  have c8 := hx 8 (by decide)
  have c9 := hx 9 (by decide)
  have c10 := hx 10 (by decide)
  have c11 := hx 11 (by decide)
  have c12 := hx 12 (by decide)
  have c13 := hx 13 (by decide)
  have H : Hid (PoAt W b p v) := h
  have f4 : IntKind.u16.wrap (x 4) = x 4 := by have := hb 4; simp [IntKind.wrap, IntKind.bits, IntKind.signed]; omega
  have f5 : IntKind.u16.wrap (x 5) = x 5 := by have := hb 5; simp [IntKind.wrap, IntKind.bits, IntKind.signed]; omega
  have f5' : IntKind.u16.wrap (x 5 * 256) = x 5 * 256 := by have := hb 5; simp [IntKind.wrap, IntKind.bits, IntKind.signed]; omega
  have f10 : IntKind.i64.wrap (x 10) = x 10 := by have := hb 10; simp [IntKind.wrap, IntKind.bits, IntKind.signed]; omega
  have f11 : IntKind.i64.wrap (x 11) = x 11 := by have := hb 11; simp [IntKind.wrap, IntKind.bits, IntKind.signed]; omega
  have f12 : IntKind.i64.wrap (x 12) = x 12 := by have := hb 12; simp [IntKind.wrap, IntKind.bits, IntKind.signed]; omega
  have f12' : IntKind.i64.wrap (x 12 * 256) = x 12 * 256 := by have := hb 12; simp [IntKind.wrap, IntKind.bits, IntKind.signed]; omega
  have b4 := or16' (x 4) (x 5) (hb 4).1 (hb 4).2 (hb 5).1 (hb 5).2
  have b11 := or64' (x 11) (x 12) (hb 11).1 (hb 11).2 (hb 12).1 (hb 12).2
  clear h
  go_enter Tryd.func24, Tryd.ntmps24
  go_wp2_with fail
  try dsimp only [List.append]
  refine wp_region_held_drew (S := fun w' => w'.cell? ⟨g, o, none⟩ = some (.int .u8 (x 0)) ∧ w'.cell? ⟨g, o + 1, none⟩ = some (.int .u8 (x 1)) ∧ w'.cell? ⟨g, o + 2, none⟩ = some (.int .u8 (x 2)) ∧ w'.cell? ⟨g, o + 3, none⟩ = some (.int .u8 (x 3)) ∧ w'.cell? ⟨g, o + 4, none⟩ = some (.int .u8 (x 4)) ∧ w'.cell? ⟨g, o + 5, none⟩ = some (.int .u8 (x 5)) ∧ w'.cell? ⟨g, o + 6, none⟩ = some (.int .u8 (x 6)) ∧ w'.cell? ⟨g, o + 7, none⟩ = some (.int .u8 (x 7)) ∧ w'.cell? ⟨g, o + 8, none⟩ = some (.int .u8 (x 8)) ∧ w'.cell? ⟨g, o + 9, none⟩ = some (.int .u8 (x 9)) ∧ w'.cell? ⟨g, o + 10, none⟩ = some (.int .u8 (x 10)) ∧ w'.cell? ⟨g, o + 11, none⟩ = some (.int .u8 (x 11)) ∧ w'.cell? ⟨g, o + 12, none⟩ = some (.int .u8 (x 12)) ∧ w'.cell? ⟨g, o + 13, none⟩ = some (.int .u8 (x 13))) (by kernel_rfl) ?_ (fun hHeld => ?_)
  · exact ⟨c0, c1, c2, c3, c4, c5, c6, c7, c8, c9, c10, c11, c12, c13⟩
  refine wpAnyH_take (i := 0) (v := ?_) (by simp only [List.getElem?_toArray, List.getElem?_cons_zero]; rfl) (by kernel_rfl) (by kernel_rfl) (by kernel_rfl) (by intro _ _ _ h; exact h) (Or.inl ⟨by rfl, ?_⟩) (by assumption) ?_
  rotate_left
  · (intro w hSw; (try dsimp only at hSw); go_simp <;> with_reducible rfl)
  try simp only [Act.put, List.setIfInBounds_toArray, List.set_cons_zero, List.set_cons_succ]
  refine wpAnyH_take (i := 1) (v := ?_) (by simp only [List.getElem?_toArray, List.getElem?_cons_succ, List.getElem?_cons_zero]; rfl) (by kernel_rfl) (by kernel_rfl) (by kernel_rfl) (by intro _ _ _ h; exact h) (Or.inl ⟨by rfl, ?_⟩) (by assumption) ?_
  rotate_left
  · (intro w hSw; (try dsimp only at hSw); go_simp <;> with_reducible rfl)
  try simp only [Act.put, List.setIfInBounds_toArray, List.set_cons_zero, List.set_cons_succ]
  refine wpAnyH_take (i := 2) (v := ?_) (by simp only [List.getElem?_toArray, List.getElem?_cons_succ, List.getElem?_cons_zero]; rfl) (by kernel_rfl) (by kernel_rfl) (by kernel_rfl) (by intro _ _ _ h; exact h) (Or.inl ⟨by rfl, ?_⟩) (by assumption) ?_
  rotate_left
  · (intro w hSw; (try dsimp only at hSw); go_simp <;> with_reducible rfl)
  try simp only [Act.put, List.setIfInBounds_toArray, List.set_cons_zero, List.set_cons_succ]
  refine wpAnyH_take (i := 3) (v := ?_) (by simp only [List.getElem?_toArray, List.getElem?_cons_succ, List.getElem?_cons_zero]; rfl) (by kernel_rfl) (by kernel_rfl) (by kernel_rfl) (by intro _ _ _ h; exact h) (Or.inl ⟨by rfl, ?_⟩) (by assumption) ?_
  rotate_left
  · (intro w hSw; (try dsimp only at hSw); go_simp <;> with_reducible rfl)
  try simp only [Act.put, List.setIfInBounds_toArray, List.set_cons_zero, List.set_cons_succ]
  refine wpAnyH_take (i := 4) (v := ?_) (by simp only [List.getElem?_toArray, List.getElem?_cons_succ, List.getElem?_cons_zero]; rfl) (by kernel_rfl) (by kernel_rfl) (by kernel_rfl) (by intro _ _ _ h; exact h) (Or.inl ⟨by rfl, ?_⟩) (by assumption) ?_
  rotate_left
  · (intro w hSw; (try dsimp only at hSw); go_simp <;> with_reducible rfl)
  try simp only [Act.put, List.setIfInBounds_toArray, List.set_cons_zero, List.set_cons_succ]
  refine wpAnyH_take (i := 5) (v := ?_) (by simp only [List.getElem?_toArray, List.getElem?_cons_succ, List.getElem?_cons_zero]; rfl) (by kernel_rfl) (by kernel_rfl) (by kernel_rfl) (by intro _ _ _ h; exact h) (Or.inl ⟨by rfl, ?_⟩) (by assumption) ?_
  rotate_left
  · (intro w hSw; (try dsimp only at hSw); go_simp <;> with_reducible rfl)
  try simp only [Act.put, List.setIfInBounds_toArray, List.set_cons_zero, List.set_cons_succ]
  refine wpAnyH_take (i := 6) (v := ?_) (by simp only [List.getElem?_toArray, List.getElem?_cons_succ, List.getElem?_cons_zero]; rfl) (by kernel_rfl) (by kernel_rfl) (by kernel_rfl) (by intro _ _ _ h; exact h) (Or.inl ⟨by rfl, ?_⟩) (by assumption) ?_
  rotate_left
  · (intro w hSw; (try dsimp only at hSw); go_simp <;> with_reducible rfl)
  try simp only [Act.put, List.setIfInBounds_toArray, List.set_cons_zero, List.set_cons_succ]
  refine wpAnyH_take (i := 7) (v := ?_) (by simp only [List.getElem?_toArray, List.getElem?_cons_succ, List.getElem?_cons_zero]; rfl) (by kernel_rfl) (by kernel_rfl) (by kernel_rfl) (by intro _ _ _ h; exact h) (Or.inl ⟨by rfl, ?_⟩) (by assumption) ?_
  rotate_left
  · (intro w hSw; (try dsimp only at hSw); go_simp <;> with_reducible rfl)
  try simp only [Act.put, List.setIfInBounds_toArray, List.set_cons_zero, List.set_cons_succ]
  refine wpAnyH_take (i := 8) (v := ?_) (by simp only [List.getElem?_toArray, List.getElem?_cons_succ, List.getElem?_cons_zero]; rfl) (by kernel_rfl) (by kernel_rfl) (by kernel_rfl) (by intro _ _ _ h; exact h) (Or.inl ⟨by rfl, ?_⟩) (by assumption) ?_
  rotate_left
  · (intro w hSw; (try dsimp only at hSw); go_simp <;> with_reducible rfl)
  try simp only [Act.put, List.setIfInBounds_toArray, List.set_cons_zero, List.set_cons_succ]
  refine wpAnyH_take (i := 9) (v := ?_) (by simp only [List.getElem?_toArray, List.getElem?_cons_succ, List.getElem?_cons_zero]; rfl) (by kernel_rfl) (by kernel_rfl) (by kernel_rfl) (by intro _ _ _ h; exact h) (Or.inl ⟨by rfl, ?_⟩) (by assumption) ?_
  rotate_left
  · (intro w hSw; (try dsimp only at hSw); go_simp <;> with_reducible rfl)
  try simp only [Act.put, List.setIfInBounds_toArray, List.set_cons_zero, List.set_cons_succ]
  refine wpAnyH_take (i := 10) (v := ?_) (by simp only [List.getElem?_toArray, List.getElem?_cons_succ, List.getElem?_cons_zero]; rfl) (by kernel_rfl) (by kernel_rfl) (by kernel_rfl) (by intro _ _ _ h; exact h) (Or.inl ⟨by rfl, ?_⟩) (by assumption) ?_
  rotate_left
  · (intro w hSw; (try dsimp only at hSw); go_simp <;> with_reducible rfl)
  try simp only [Act.put, List.setIfInBounds_toArray, List.set_cons_zero, List.set_cons_succ]
  refine wpAnyH_take (i := 11) (v := ?_) (by simp only [List.getElem?_toArray, List.getElem?_cons_succ, List.getElem?_cons_zero]; rfl) (by kernel_rfl) (by kernel_rfl) (by kernel_rfl) (by intro _ _ _ h; exact h) (Or.inl ⟨by rfl, ?_⟩) (by assumption) ?_
  rotate_left
  · (intro w hSw; (try dsimp only at hSw); go_simp <;> with_reducible rfl)
  try simp only [Act.put, List.setIfInBounds_toArray, List.set_cons_zero, List.set_cons_succ]
  refine wpAnyH_take (i := 12) (v := ?_) (by simp only [List.getElem?_toArray, List.getElem?_cons_succ, List.getElem?_cons_zero]; rfl) (by kernel_rfl) (by kernel_rfl) (by kernel_rfl) (by intro _ _ _ h; exact h) (Or.inl ⟨by rfl, ?_⟩) (by assumption) ?_
  rotate_left
  · (intro w hSw; (try dsimp only at hSw); go_simp <;> with_reducible rfl)
  try simp only [Act.put, List.setIfInBounds_toArray, List.set_cons_zero, List.set_cons_succ]
  refine wpAnyH_take (i := 13) (v := ?_) (by simp only [List.getElem?_toArray, List.getElem?_cons_succ, List.getElem?_cons_zero]; rfl) (by kernel_rfl) (by kernel_rfl) (by kernel_rfl) (by intro _ _ _ h; exact h) (Or.inl ⟨by rfl, ?_⟩) (by assumption) ?_
  rotate_left
  · (intro w hSw; (try dsimp only at hSw); go_simp <;> with_reducible rfl)
  try simp only [Act.put, List.setIfInBounds_toArray, List.set_cons_zero, List.set_cons_succ]
  refine wpAnyH_take (i := 14) (v := ?_) (by simp only [List.getElem?_toArray, List.getElem?_cons_succ, List.getElem?_cons_zero]; rfl) (by kernel_rfl) (by kernel_rfl) (by kernel_rfl) (by intro _ _ _ h; exact h) (Or.inl ⟨by rfl, ?_⟩) (by assumption) ?_
  rotate_left
  · (intro w hSw; (try dsimp only at hSw); go_simp <;> with_reducible rfl)
  try simp only [Act.put, List.setIfInBounds_toArray, List.set_cons_zero, List.set_cons_succ]
  refine wpAnyH_take (i := 15) (v := ?_) (by simp only [List.getElem?_toArray, List.getElem?_cons_succ, List.getElem?_cons_zero]; rfl) (by kernel_rfl) (by kernel_rfl) (by kernel_rfl) (by intro _ _ _ h; exact h) (Or.inl ⟨by rfl, ?_⟩) (by assumption) ?_
  rotate_left
  · (intro w hSw; (try dsimp only at hSw); go_simp <;> with_reducible rfl)
  try simp only [Act.put, List.setIfInBounds_toArray, List.set_cons_zero, List.set_cons_succ]
  refine wpAnyH_take (i := 16) (v := ?_) (by simp only [List.getElem?_toArray, List.getElem?_cons_succ, List.getElem?_cons_zero]; rfl) (by kernel_rfl) (by kernel_rfl) (by kernel_rfl) (by intro _ _ _ h; exact h) (Or.inl ⟨by rfl, ?_⟩) (by assumption) ?_
  rotate_left
  · (intro w hSw; (try dsimp only at hSw); go_simp <;> with_reducible rfl)
  try simp only [Act.put, List.setIfInBounds_toArray, List.set_cons_zero, List.set_cons_succ]
  refine wpAnyH_take (i := 17) (v := ?_) (by simp only [List.getElem?_toArray, List.getElem?_cons_succ, List.getElem?_cons_zero]; rfl) (by kernel_rfl) (by kernel_rfl) (by kernel_rfl) (by intro _ _ _ h; exact h) (Or.inl ⟨by rfl, ?_⟩) (by assumption) ?_
  rotate_left
  · (intro w hSw; (try dsimp only at hSw); go_simp <;> with_reducible rfl)
  try simp only [Act.put, List.setIfInBounds_toArray, List.set_cons_zero, List.set_cons_succ]
  refine wpAnyH_take (i := 18) (v := ?_) (by simp only [List.getElem?_toArray, List.getElem?_cons_succ, List.getElem?_cons_zero]; rfl) (by kernel_rfl) (by kernel_rfl) (by kernel_rfl) (by intro _ _ _ h; exact h) (Or.inl ⟨by rfl, ?_⟩) (by assumption) ?_
  rotate_left
  · (intro w hSw; (try dsimp only at hSw); go_simp <;> with_reducible rfl)
  try simp only [Act.put, List.setIfInBounds_toArray, List.set_cons_zero, List.set_cons_succ]
  refine wpAnyH_take (i := 19) (v := ?_) (by simp only [List.getElem?_toArray, List.getElem?_cons_succ, List.getElem?_cons_zero]; rfl) (by kernel_rfl) (by kernel_rfl) (by kernel_rfl) (by intro _ _ _ h; exact h) (Or.inl ⟨by rfl, ?_⟩) (by assumption) ?_
  rotate_left
  · (intro w hSw; (try dsimp only at hSw); go_simp <;> with_reducible rfl)
  try simp only [Act.put, List.setIfInBounds_toArray, List.set_cons_zero, List.set_cons_succ]
  refine wpAnyH_take (i := 20) (v := ?_) (by simp only [List.getElem?_toArray, List.getElem?_cons_succ, List.getElem?_cons_zero]; rfl) (by kernel_rfl) (by kernel_rfl) (by kernel_rfl) (by intro _ _ _ h; exact h) (Or.inl ⟨by rfl, ?_⟩) (by assumption) ?_
  rotate_left
  · (intro w hSw; (try dsimp only at hSw); go_simp <;> with_reducible rfl)
  try simp only [Act.put, List.setIfInBounds_toArray, List.set_cons_zero, List.set_cons_succ]
  refine wpAnyH_take (i := 21) (v := ?_) (by simp only [List.getElem?_toArray, List.getElem?_cons_succ, List.getElem?_cons_zero]; rfl) (by kernel_rfl) (by kernel_rfl) (by kernel_rfl) (by intro _ _ _ h; exact h) (Or.inl ⟨by rfl, ?_⟩) (by assumption) ?_
  rotate_left
  · (intro w hSw; (try dsimp only at hSw); go_simp <;> with_reducible rfl)
  try simp only [Act.put, List.setIfInBounds_toArray, List.set_cons_zero, List.set_cons_succ]
  refine wpAnyH_take (i := 22) (v := ?_) (by simp only [List.getElem?_toArray, List.getElem?_cons_succ, List.getElem?_cons_zero]; rfl) (by kernel_rfl) (by kernel_rfl) (by kernel_rfl) (by intro _ _ _ h; exact h) (Or.inl ⟨by rfl, ?_⟩) (by assumption) ?_
  rotate_left
  · (intro w hSw; (try dsimp only at hSw); go_simp <;> with_reducible rfl)
  try simp only [Act.put, List.setIfInBounds_toArray, List.set_cons_zero, List.set_cons_succ]
  refine wpAnyH_take (i := 23) (v := ?_) (by simp only [List.getElem?_toArray, List.getElem?_cons_succ, List.getElem?_cons_zero]; rfl) (by kernel_rfl) (by kernel_rfl) (by kernel_rfl) (by intro _ _ _ h; exact h) (Or.inl ⟨by rfl, ?_⟩) (by assumption) ?_
  rotate_left
  · (intro w hSw; (try dsimp only at hSw); go_simp <;> with_reducible rfl)
  try simp only [Act.put, List.setIfInBounds_toArray, List.set_cons_zero, List.set_cons_succ]
  refine wpAnyH_take (i := 24) (v := ?_) (by simp only [List.getElem?_toArray, List.getElem?_cons_succ, List.getElem?_cons_zero]; rfl) (by kernel_rfl) (by kernel_rfl) (by kernel_rfl) (by intro _ _ _ h; exact h) (Or.inl ⟨by rfl, ?_⟩) (by assumption) ?_
  rotate_left
  · (intro w hSw; (try dsimp only at hSw); go_simp <;> with_reducible rfl)
  try simp only [Act.put, List.setIfInBounds_toArray, List.set_cons_zero, List.set_cons_succ]
  refine wpAnyH_take (i := 25) (v := ?_) (by simp only [List.getElem?_toArray, List.getElem?_cons_succ, List.getElem?_cons_zero]; rfl) (by kernel_rfl) (by kernel_rfl) (by kernel_rfl) (by intro _ _ _ h; exact h) (Or.inl ⟨by rfl, ?_⟩) (by assumption) ?_
  rotate_left
  · (intro w hSw; (try dsimp only at hSw); go_simp <;> with_reducible rfl)
  try simp only [Act.put, List.setIfInBounds_toArray, List.set_cons_zero, List.set_cons_succ]
  refine wpAnyH_take (i := 26) (v := ?_) (by simp only [List.getElem?_toArray, List.getElem?_cons_succ, List.getElem?_cons_zero]; rfl) (by kernel_rfl) (by kernel_rfl) (by kernel_rfl) (by intro _ _ _ h; exact h) (Or.inl ⟨by rfl, ?_⟩) (by assumption) ?_
  rotate_left
  · (intro w hSw; (try dsimp only at hSw); go_simp <;> with_reducible rfl)
  try simp only [Act.put, List.setIfInBounds_toArray, List.set_cons_zero, List.set_cons_succ]
  refine wpAnyH_take (i := 27) (v := ?_) (by simp only [List.getElem?_toArray, List.getElem?_cons_succ, List.getElem?_cons_zero]; rfl) (by kernel_rfl) (by kernel_rfl) (by kernel_rfl) (by intro _ _ _ h; exact h) (Or.inl ⟨by rfl, ?_⟩) (by assumption) ?_
  rotate_left
  · (intro w hSw; (try dsimp only at hSw); go_simp <;> with_reducible rfl)
  try simp only [Act.put, List.setIfInBounds_toArray, List.set_cons_zero, List.set_cons_succ]
  refine wpAnyH_take (i := 28) (v := ?_) (by simp only [List.getElem?_toArray, List.getElem?_cons_succ, List.getElem?_cons_zero]; rfl) (by kernel_rfl) (by kernel_rfl) (by kernel_rfl) (by intro _ _ _ h; exact h) (Or.inl ⟨by rfl, ?_⟩) (by assumption) ?_
  rotate_left
  · (intro w hSw; (try dsimp only at hSw); go_simp <;> with_reducible rfl)
  try simp only [Act.put, List.setIfInBounds_toArray, List.set_cons_zero, List.set_cons_succ]
  refine wpAnyH_take (i := 29) (v := ?_) (by simp only [List.getElem?_toArray, List.getElem?_cons_succ, List.getElem?_cons_zero]; rfl) (by kernel_rfl) (by kernel_rfl) (by kernel_rfl) (by intro _ _ _ h; exact h) (Or.inl ⟨by rfl, ?_⟩) (by assumption) ?_
  rotate_left
  · (intro w hSw; (try dsimp only at hSw); go_simp <;> with_reducible rfl)
  try simp only [Act.put, List.setIfInBounds_toArray, List.set_cons_zero, List.set_cons_succ]
  refine wpAnyH_take (i := 30) (v := ?_) (by simp only [List.getElem?_toArray, List.getElem?_cons_succ, List.getElem?_cons_zero]; rfl) (by kernel_rfl) (by kernel_rfl) (by kernel_rfl) (by intro _ _ _ h; exact h) (Or.inl ⟨by rfl, ?_⟩) (by assumption) ?_
  rotate_left
  · (intro w hSw; (try dsimp only at hSw); go_simp <;> with_reducible rfl)
  try simp only [Act.put, List.setIfInBounds_toArray, List.set_cons_zero, List.set_cons_succ]
  refine wpAnyH_take (i := 31) (v := ?_) (by simp only [List.getElem?_toArray, List.getElem?_cons_succ, List.getElem?_cons_zero]; rfl) (by kernel_rfl) (by kernel_rfl) (by kernel_rfl) (by intro _ _ _ h; exact h) (Or.inl ⟨by rfl, ?_⟩) (by assumption) ?_
  rotate_left
  · (intro w hSw; (try dsimp only at hSw); go_simp <;> with_reducible rfl)
  try simp only [Act.put, List.setIfInBounds_toArray, List.set_cons_zero, List.set_cons_succ]
  refine wpAnyH_take (i := 32) (v := ?_) (by simp only [List.getElem?_toArray, List.getElem?_cons_succ, List.getElem?_cons_zero]; rfl) (by kernel_rfl) (by kernel_rfl) (by kernel_rfl) (by intro _ _ _ h; exact h) (Or.inl ⟨by rfl, ?_⟩) (by assumption) ?_
  rotate_left
  · (intro w hSw; (try dsimp only at hSw); go_simp <;> with_reducible rfl)
  try simp only [Act.put, List.setIfInBounds_toArray, List.set_cons_zero, List.set_cons_succ]
  refine wpAnyH_take (i := 33) (v := ?_) (by simp only [List.getElem?_toArray, List.getElem?_cons_succ, List.getElem?_cons_zero]; rfl) (by kernel_rfl) (by kernel_rfl) (by kernel_rfl) (by intro _ _ _ h; exact h) (Or.inl ⟨by rfl, ?_⟩) (by assumption) ?_
  rotate_left
  · (intro w hSw; (try dsimp only at hSw); go_simp <;> with_reducible rfl)
  try simp only [Act.put, List.setIfInBounds_toArray, List.set_cons_zero, List.set_cons_succ]
  refine wpAnyH_take (i := 34) (v := ?_) (by simp only [List.getElem?_toArray, List.getElem?_cons_succ, List.getElem?_cons_zero]; rfl) (by kernel_rfl) (by kernel_rfl) (by kernel_rfl) (by intro _ _ _ h; exact h) (Or.inl ⟨by rfl, ?_⟩) (by assumption) ?_
  rotate_left
  · (intro w hSw; (try dsimp only at hSw); go_simp <;> with_reducible rfl)
  try simp only [Act.put, List.setIfInBounds_toArray, List.set_cons_zero, List.set_cons_succ]
  refine wpAnyH_take (i := 35) (v := ?_) (by simp only [List.getElem?_toArray, List.getElem?_cons_succ, List.getElem?_cons_zero]; rfl) (by kernel_rfl) (by kernel_rfl) (by kernel_rfl) (by intro _ _ _ h; exact h) (Or.inl ⟨by rfl, ?_⟩) (by assumption) ?_
  rotate_left
  · (intro w hSw; (try dsimp only at hSw); go_simp <;> with_reducible rfl)
  try simp only [Act.put, List.setIfInBounds_toArray, List.set_cons_zero, List.set_cons_succ]
  refine wpAnyH_take (i := 36) (v := ?_) (by simp only [List.getElem?_toArray, List.getElem?_cons_succ, List.getElem?_cons_zero]; rfl) (by kernel_rfl) (by kernel_rfl) (by kernel_rfl) (by intro _ _ _ h; exact h) (Or.inl ⟨by rfl, ?_⟩) (by assumption) ?_
  rotate_left
  · (intro w hSw; (try dsimp only at hSw); go_simp <;> with_reducible rfl)
  try simp only [Act.put, List.setIfInBounds_toArray, List.set_cons_zero, List.set_cons_succ]
  refine wpAnyH_take (i := 37) (v := ?_) (by simp only [List.getElem?_toArray, List.getElem?_cons_succ, List.getElem?_cons_zero]; rfl) (by kernel_rfl) (by kernel_rfl) (by kernel_rfl) (by intro _ _ _ h; exact h) (Or.inl ⟨by rfl, ?_⟩) (by assumption) ?_
  rotate_left
  · (intro w hSw; (try dsimp only at hSw); go_simp <;> with_reducible rfl)
  try simp only [Act.put, List.setIfInBounds_toArray, List.set_cons_zero, List.set_cons_succ]
  refine wpAnyH_take (i := 38) (v := ?_) (by simp only [List.getElem?_toArray, List.getElem?_cons_succ, List.getElem?_cons_zero]; rfl) (by kernel_rfl) (by kernel_rfl) (by kernel_rfl) (by intro _ _ _ h; exact h) (Or.inl ⟨by rfl, ?_⟩) (by assumption) ?_
  rotate_left
  · (intro w hSw; (try dsimp only at hSw); go_simp <;> with_reducible rfl)
  try simp only [Act.put, List.setIfInBounds_toArray, List.set_cons_zero, List.set_cons_succ]
  refine wpAnyH_take (i := 39) (v := ?_) (by simp only [List.getElem?_toArray, List.getElem?_cons_succ, List.getElem?_cons_zero]; rfl) (by kernel_rfl) (by kernel_rfl) (by kernel_rfl) (by intro _ _ _ h; exact h) (Or.inl ⟨by rfl, ?_⟩) (by assumption) ?_
  rotate_left
  · (intro w hSw; (try dsimp only at hSw); go_simp <;> with_reducible rfl)
  try simp only [Act.put, List.setIfInBounds_toArray, List.set_cons_zero, List.set_cons_succ]
  refine wpAnyH_take (i := 40) (v := ?_) (by simp only [List.getElem?_toArray, List.getElem?_cons_succ, List.getElem?_cons_zero]; rfl) (by kernel_rfl) (by kernel_rfl) (by kernel_rfl) (by intro _ _ _ h; exact h) (Or.inl ⟨by rfl, ?_⟩) (by assumption) ?_
  rotate_left
  · (intro w hSw; (try dsimp only at hSw); go_simp <;> with_reducible rfl)
  try simp only [Act.put, List.setIfInBounds_toArray, List.set_cons_zero, List.set_cons_succ]
  refine wpAnyH_take (i := 41) (v := ?_) (by simp only [List.getElem?_toArray, List.getElem?_cons_succ, List.getElem?_cons_zero]; rfl) (by kernel_rfl) (by kernel_rfl) (by kernel_rfl) (by intro _ _ _ h; exact h) (Or.inl ⟨by rfl, ?_⟩) (by assumption) ?_
  rotate_left
  · (intro w hSw; (try dsimp only at hSw); go_simp <;> with_reducible rfl)
  try simp only [Act.put, List.setIfInBounds_toArray, List.set_cons_zero, List.set_cons_succ]
  refine wpAnyH_take (i := 42) (v := ?_) (by simp only [List.getElem?_toArray, List.getElem?_cons_succ, List.getElem?_cons_zero]; rfl) (by kernel_rfl) (by kernel_rfl) (by kernel_rfl) (by intro _ _ _ h; exact h) (Or.inl ⟨by rfl, ?_⟩) (by assumption) ?_
  rotate_left
  · (intro w hSw; (try dsimp only at hSw); go_simp <;> with_reducible rfl)
  try simp only [Act.put, List.setIfInBounds_toArray, List.set_cons_zero, List.set_cons_succ]
  refine wpAnyH_take (i := 43) (v := ?_) (by simp only [List.getElem?_toArray, List.getElem?_cons_succ, List.getElem?_cons_zero]; rfl) (by kernel_rfl) (by kernel_rfl) (by kernel_rfl) (by intro _ _ _ h; exact h) (Or.inl ⟨by rfl, ?_⟩) (by assumption) ?_
  rotate_left
  · (intro w hSw; (try dsimp only at hSw); go_simp <;> with_reducible rfl)
  try simp only [Act.put, List.setIfInBounds_toArray, List.set_cons_zero, List.set_cons_succ]
  refine wpAnyH_take (i := 44) (v := ?_) (by simp only [List.getElem?_toArray, List.getElem?_cons_succ, List.getElem?_cons_zero]; rfl) (by kernel_rfl) (by kernel_rfl) (by kernel_rfl) (by intro _ _ _ h; exact h) (Or.inl ⟨by rfl, ?_⟩) (by assumption) ?_
  rotate_left
  · (intro w hSw; (try dsimp only at hSw); go_simp <;> with_reducible rfl)
  try simp only [Act.put, List.setIfInBounds_toArray, List.set_cons_zero, List.set_cons_succ]
  refine wpAnyH_take (i := 45) (v := ?_) (by simp only [List.getElem?_toArray, List.getElem?_cons_succ, List.getElem?_cons_zero]; rfl) (by kernel_rfl) (by kernel_rfl) (by kernel_rfl) (by intro _ _ _ h; exact h) (Or.inl ⟨by rfl, ?_⟩) (by assumption) ?_
  rotate_left
  · (intro w hSw; (try dsimp only at hSw); go_simp <;> with_reducible rfl)
  try simp only [Act.put, List.setIfInBounds_toArray, List.set_cons_zero, List.set_cons_succ]
  refine wpAnyH_take (i := 46) (v := ?_) (by simp only [List.getElem?_toArray, List.getElem?_cons_succ, List.getElem?_cons_zero]; rfl) (by kernel_rfl) (by kernel_rfl) (by kernel_rfl) (by intro _ _ _ h; exact h) (Or.inl ⟨by rfl, ?_⟩) (by assumption) ?_
  rotate_left
  · (intro w hSw; (try dsimp only at hSw); go_simp <;> with_reducible rfl)
  try simp only [Act.put, List.setIfInBounds_toArray, List.set_cons_zero, List.set_cons_succ]
  refine wpAnyH_take (i := 47) (v := ?_) (by simp only [List.getElem?_toArray, List.getElem?_cons_succ, List.getElem?_cons_zero]; rfl) (by kernel_rfl) (by kernel_rfl) (by kernel_rfl) (by intro _ _ _ h; exact h) (Or.inl ⟨by rfl, ?_⟩) (by assumption) ?_
  rotate_left
  · (intro w hSw; (try dsimp only at hSw); go_simp <;> with_reducible rfl)
  try simp only [Act.put, List.setIfInBounds_toArray, List.set_cons_zero, List.set_cons_succ]
  refine wpAnyH_take (i := 48) (v := ?_) (by simp only [List.getElem?_toArray, List.getElem?_cons_succ, List.getElem?_cons_zero]; rfl) (by kernel_rfl) (by kernel_rfl) (by kernel_rfl) (by intro _ _ _ h; exact h) (Or.inl ⟨by rfl, ?_⟩) (by assumption) ?_
  rotate_left
  · (intro w hSw; (try dsimp only at hSw); go_simp <;> with_reducible rfl)
  try simp only [Act.put, List.setIfInBounds_toArray, List.set_cons_zero, List.set_cons_succ]
  refine wpAnyH_take (i := 49) (v := ?_) (by simp only [List.getElem?_toArray, List.getElem?_cons_succ, List.getElem?_cons_zero]; rfl) (by kernel_rfl) (by kernel_rfl) (by kernel_rfl) (by intro _ _ _ h; exact h) (Or.inl ⟨by rfl, ?_⟩) (by assumption) ?_
  rotate_left
  · (intro w hSw; (try dsimp only at hSw); go_simp <;> with_reducible rfl)
  try simp only [Act.put, List.setIfInBounds_toArray, List.set_cons_zero, List.set_cons_succ]
  refine wpAnyH_take (i := 50) (v := ?_) (by simp only [List.getElem?_toArray, List.getElem?_cons_succ, List.getElem?_cons_zero]; rfl) (by kernel_rfl) (by kernel_rfl) (by kernel_rfl) (by intro _ _ _ h; exact h) (Or.inl ⟨by rfl, ?_⟩) (by assumption) ?_
  rotate_left
  · (intro w hSw; (try dsimp only at hSw); go_simp <;> with_reducible rfl)
  try simp only [Act.put, List.setIfInBounds_toArray, List.set_cons_zero, List.set_cons_succ]
  refine wpAnyH_take (i := 51) (v := ?_) (by simp only [List.getElem?_toArray, List.getElem?_cons_succ, List.getElem?_cons_zero]; rfl) (by kernel_rfl) (by kernel_rfl) (by kernel_rfl) (by intro _ _ _ h; exact h) (Or.inl ⟨by rfl, ?_⟩) (by assumption) ?_
  rotate_left
  · (intro w hSw; (try dsimp only at hSw); go_simp <;> with_reducible rfl)
  try simp only [Act.put, List.setIfInBounds_toArray, List.set_cons_zero, List.set_cons_succ]
  refine wpAnyH_ready (rs := [52]) (by kernel_rfl) (by simp) ?_
  refine AllReadyH.cons (by simp only [List.getElem?_toArray, List.getElem?_cons_succ, List.getElem?_cons_zero]; rfl) (fun Kq hK => ?_) AllReadyH.nil
  go_simp
  generalize hw1 : World.drew (World.alloc W _) = w1
  have u1 : Up W w1 := by rw [← hw1]; exact ((Up.refl W).alloc _).drew
  have L1 : PoAt w1 W.heap.size ⟨0, 0, 0, 0, 0, 0, 0, 0, 0, 0, 0, 0⟩ (.slice none 0 0) := by rw [← hw1]; exact heap_alloc_new W _
  clear hw1
  have j : ∀ k, W.cell? ⟨g, o + k, none⟩ = w1.cell? ⟨g, o + k, none⟩ := fun k => (u1.cell (World.block_lt_of_cell? _ _ c0)).symm
  have j0 : W.cell? ⟨g, o, none⟩ = w1.cell? ⟨g, o, none⟩ := j 0
  have K1 : w1.cell? ⟨g, o, none⟩ = some (.int .u8 (x 0)) ∧ w1.cell? ⟨g, o + 1, none⟩ = some (.int .u8 (x 1)) ∧ w1.cell? ⟨g, o + 2, none⟩ = some (.int .u8 (x 2)) ∧ w1.cell? ⟨g, o + 3, none⟩ = some (.int .u8 (x 3)) ∧ w1.cell? ⟨g, o + 4, none⟩ = some (.int .u8 (x 4)) ∧ w1.cell? ⟨g, o + 5, none⟩ = some (.int .u8 (x 5)) ∧ w1.cell? ⟨g, o + 6, none⟩ = some (.int .u8 (x 6)) ∧ w1.cell? ⟨g, o + 7, none⟩ = some (.int .u8 (x 7)) ∧ w1.cell? ⟨g, o + 8, none⟩ = some (.int .u8 (x 8)) ∧ w1.cell? ⟨g, o + 9, none⟩ = some (.int .u8 (x 9)) ∧ w1.cell? ⟨g, o + 10, none⟩ = some (.int .u8 (x 10)) ∧ w1.cell? ⟨g, o + 11, none⟩ = some (.int .u8 (x 11)) ∧ w1.cell? ⟨g, o + 12, none⟩ = some (.int .u8 (x 12)) ∧ w1.cell? ⟨g, o + 13, none⟩ = some (.int .u8 (x 13)) := ⟨j0 ▸ c0, (j 1) ▸ c1, (j 2) ▸ c2, (j 3) ▸ c3, (j 4) ▸ c4, (j 5) ▸ c5, (j 6) ▸ c6, (j 7) ▸ c7, (j 8) ▸ c8, (j 9) ▸ c9, (j 10) ▸ c10, (j 11) ▸ c11, (j 12) ▸ c12, (j 13) ▸ c13⟩
  refine hK.out _ _ K1 (fun _ => ?_)
  clear hK Kq
  try simp only [Act.put, List.setIfInBounds_toArray, List.set_cons_zero, List.set_cons_succ]
  refine wpAnyH_ready (rs := [53]) (by kernel_rfl) (by simp) ?_
  refine AllReadyH.cons (by simp only [List.getElem?_toArray, List.getElem?_cons_succ, List.getElem?_cons_zero]; rfl) (fun Kq hK => ?_) AllReadyH.nil
  rw [if_pos (by rfl)]
  refine wp_store_mid _ _ _ rfl W.heap.size 0 ((ldP x).cells (.slice none 0 0)) rfl rfl ?_ (by kernel_rfl) ?_ ?_
  · intro j hj
    have hcl : w1.cell? ⟨W.heap.size, 0 + j, none⟩ = _ := L1.cell (0 + j)
    refine ⟨?_, L1.fz _⟩
    rw [hcl, Nat.zero_add]
    have hj' : j < 13 := hj
    have : j = 0 ∨ j = 1 ∨ j = 2 ∨ j = 3 ∨ j = 4 ∨ j = 5 ∨ j = 6 ∨ j = 7 ∨ j = 8 ∨ j = 9 ∨ j = 10 ∨ j = 11 ∨ j = 12 := by omega
    rcases this with rfl | rfl | rfl | rfl | rfl | rfl | rfl | rfl | rfl | rfl | rfl | rfl | rfl <;> rfl
  · simp [Po.cells, ldP, Value.oneCell']
  have L2 : PoAt (w1.setCells W.heap.size 0 ((ldP x).cells (.slice none 0 0)).toList) W.heap.size (ldP x) (.slice none 0 0) := (PoAt.set (q := ldP x) (v' := .slice none 0 0) (PoAt.set (q := ⟨x 0, x 1, x 2, x 3, x 4 + x 5 * 256, x 6, x 7, x 8, x 9, x 10, x 11 + x 12 * 256, x 13⟩) (v' := .slice none 0 0) (PoAt.set (q := ⟨x 0, x 1, x 2, x 3, x 4 + x 5 * 256, x 6, x 7, x 8, x 9, x 10, x 11 + x 12 * 256, 0⟩) (v' := .slice none 0 0) (PoAt.set (q := ⟨x 0, x 1, x 2, x 3, x 4 + x 5 * 256, x 6, x 7, x 8, x 9, x 10, 0, 0⟩) (v' := .slice none 0 0) (PoAt.set (q := ⟨x 0, x 1, x 2, x 3, x 4 + x 5 * 256, x 6, x 7, x 8, x 9, 0, 0, 0⟩) (v' := .slice none 0 0) (PoAt.set (q := ⟨x 0, x 1, x 2, x 3, x 4 + x 5 * 256, x 6, x 7, x 8, 0, 0, 0, 0⟩) (v' := .slice none 0 0) (PoAt.set (q := ⟨x 0, x 1, x 2, x 3, x 4 + x 5 * 256, x 6, x 7, 0, 0, 0, 0, 0⟩) (v' := .slice none 0 0) (PoAt.set (q := ⟨x 0, x 1, x 2, x 3, x 4 + x 5 * 256, x 6, 0, 0, 0, 0, 0, 0⟩) (v' := .slice none 0 0) (PoAt.set (q := ⟨x 0, x 1, x 2, x 3, x 4 + x 5 * 256, 0, 0, 0, 0, 0, 0, 0⟩) (v' := .slice none 0 0) (PoAt.set (q := ⟨x 0, x 1, x 2, x 3, 0, 0, 0, 0, 0, 0, 0, 0⟩) (v' := .slice none 0 0) (PoAt.set (q := ⟨x 0, x 1, x 2, 0, 0, 0, 0, 0, 0, 0, 0, 0⟩) (v' := .slice none 0 0) (PoAt.set (q := ⟨x 0, x 1, 0, 0, 0, 0, 0, 0, 0, 0, 0, 0⟩) (v' := .slice none 0 0) (PoAt.set (q := ⟨x 0, 0, 0, 0, 0, 0, 0, 0, 0, 0, 0, 0⟩) (v' := .slice none 0 0) L1 0 _ rfl) 1 _ rfl) 2 _ rfl) 3 _ rfl) 4 _ rfl) 5 _ rfl) 6 _ rfl) 7 _ rfl) 8 _ rfl) 9 _ rfl) 10 _ rfl) 11 _ rfl) 12 _ rfl)
  have u2 : Up W (w1.setCells W.heap.size 0 ((ldP x).cells (.slice none 0 0)).toList) := up_setCells u1 (Nat.le_refl _) _ 0
  generalize World.setCells w1 _ _ _ = w2 at L2 u2 ⊢
  have K2 : ∀ k, k < 19 → w2.cell? ⟨g, o + k, none⟩ = some (.int .u8 (x k)) := fun k hk => (u2.cell (World.block_lt_of_cell? _ _ c0)).trans (hx k hk)
  refine hK.out _ _ ⟨K2 0 (by decide), K2 1 (by decide), K2 2 (by decide), K2 3 (by decide), K2 4 (by decide), K2 5 (by decide), K2 6 (by decide), K2 7 (by decide), K2 8 (by decide), K2 9 (by decide), K2 10 (by decide), K2 11 (by decide), K2 12 (by decide), K2 13 (by decide)⟩ (fun _ => ?_)
  clear hK Kq
  try simp only [Act.put, List.setIfInBounds_toArray, List.set_cons_zero, List.set_cons_succ]
  refine wpAnyH_done (by kernel_rfl) ?_ _
  have oI : (ldP x).In := ⟨hb 10, by have := hb 11; have := hb 12; show 0 ≤ x 11 + x 12 * 256 ∧ x 11 + x 12 * 256 ≤ 65535; omega⟩
  have HMB : Hid _ := mayBe_any oI (.slice none 0 0) w2 L2
  have HL2 : Hid _ := And.intro L2 (And.intro u2 K2)
  generalize hq : ldP x = q at *
  have HQ : Hid (ldP x = q) := hq
  clear hq
  clear K1 K2 L1 L2 u1 u2 c0 c1 c2 c3 c4 c5 c6 c7 c8 c9 c10 c11 c12 c13 f4 f5 f5' f10 f11 f12 f12' b4 b11 hHeld j j0
  go_wp2_with fail
  refine Calls.mono HMB.out ?_
  rintro e w3 ⟨rfl, u3⟩
  have L3 := HL2.out.1.up u3
  have U3 := HL2.out.2.1.trans u3
  have K3 : ∀ k, k < 19 → w3.cell? ⟨g, o + k, none⟩ = some (.int .u8 (x k)) := fun k hk => (u3.cell (World.block_lt_of_cell? _ _ (HL2.out.2.2 k hk))).trans (HL2.out.2.2 k hk)
  have H3 : Hid _ := And.intro L3 (And.intro U3 K3)
  clear HMB HL2 u3 L3 U3 K3 oI
  by_cases hm : mayB q = true
  · have HMq : Hid (mayB q = true) := hm
    rw [hm]
    clear hm
    have HZ : Hid _ := zeros_any g (o + 14) (c - 14) (fun j => x (14 + j)) w3 (fun j hj => by rw [Nat.add_assoc]; exact H3.out.2.2 (14 + j) (by omega)) (by omega) (by omega)
    have cc : (14 : Int) ≤ 19 := by decide
    go_wp2_with fail
    refine Calls.mono HZ.out ?_
    rintro e w4 ⟨rfl, u4⟩
    have L4 := H3.out.1.up u4
    have U4 := H3.out.2.1.trans u4
    have H4 : Hid _ := And.intro L4 U4
    clear HZ H3 u4
    by_cases hz : zB (fun j => x (14 + j)) = true
    · have HZq : Hid (zB (fun j => x (14 + j)) = true) := hz
      rw [hz]
      clear hz
      obtain ⟨k0, k1, k2, k3, k4, k5, k6, k7, k8, k9, k10, k11, k12⟩ := L4.all
      have PB := H.out.up U4
      obtain ⟨i0, i1, i2, i3, i4, i5, i6, i7, i8, i9, i10, i11, i12⟩ := PB.all
      have z0 := PB.fz 0
      have z1 := PB.fz 1
      have z2 := PB.fz 2
      have z3 := PB.fz 3
      have z4 := PB.fz 4
      have z5 := PB.fz 5
      have z6 := PB.fz 6
      have z7 := PB.fz 7
      have z8 := PB.fz 8
      have z9 := PB.fz 9
      have z10 := PB.fz 10
      have z11 := PB.fz 11
      have z12 := PB.fz 12
      have HPB : Hid (PoAt w4 b p v) := PB
      clear PB L4 U4
      go_wp2_with fail
      go_ret
      exact Or.inl ⟨by rw [HQ.out, HMq.out, HZq.out]; rfl, rfl, by rw [HQ.out]; exact (PoAt.set (q := q) (v' := .slice none 0 0) (PoAt.set (q := ⟨q.bu, q.ro, q.sh, q.li, q.co, q.ti, q.ag, q.ct, q.rq, q.al, q.tr, q.se⟩) (v' := v) (PoAt.set (q := ⟨q.bu, q.ro, q.sh, q.li, q.co, q.ti, q.ag, q.ct, q.rq, q.al, q.tr, p.se⟩) (v' := v) (PoAt.set (q := ⟨q.bu, q.ro, q.sh, q.li, q.co, q.ti, q.ag, q.ct, q.rq, q.al, p.tr, p.se⟩) (v' := v) (PoAt.set (q := ⟨q.bu, q.ro, q.sh, q.li, q.co, q.ti, q.ag, q.ct, q.rq, p.al, p.tr, p.se⟩) (v' := v) (PoAt.set (q := ⟨q.bu, q.ro, q.sh, q.li, q.co, q.ti, q.ag, q.ct, p.rq, p.al, p.tr, p.se⟩) (v' := v) (PoAt.set (q := ⟨q.bu, q.ro, q.sh, q.li, q.co, q.ti, q.ag, p.ct, p.rq, p.al, p.tr, p.se⟩) (v' := v) (PoAt.set (q := ⟨q.bu, q.ro, q.sh, q.li, q.co, q.ti, p.ag, p.ct, p.rq, p.al, p.tr, p.se⟩) (v' := v) (PoAt.set (q := ⟨q.bu, q.ro, q.sh, q.li, q.co, p.ti, p.ag, p.ct, p.rq, p.al, p.tr, p.se⟩) (v' := v) (PoAt.set (q := ⟨q.bu, q.ro, q.sh, q.li, p.co, p.ti, p.ag, p.ct, p.rq, p.al, p.tr, p.se⟩) (v' := v) (PoAt.set (q := ⟨q.bu, q.ro, q.sh, p.li, p.co, p.ti, p.ag, p.ct, p.rq, p.al, p.tr, p.se⟩) (v' := v) (PoAt.set (q := ⟨q.bu, q.ro, p.sh, p.li, p.co, p.ti, p.ag, p.ct, p.rq, p.al, p.tr, p.se⟩) (v' := v) (PoAt.set (q := ⟨q.bu, p.ro, p.sh, p.li, p.co, p.ti, p.ag, p.ct, p.rq, p.al, p.tr, p.se⟩) (v' := v) HPB.out 0 _ rfl) 1 _ rfl) 2 _ rfl) 3 _ rfl) 4 _ rfl) 5 _ rfl) 6 _ rfl) 7 _ rfl) 8 _ rfl) 9 _ rfl) 10 _ rfl) 11 _ rfl) 12 _ rfl), (Fr.ofUp H4.out.2).setCell.setCell.setCell.setCell.setCell.setCell.setCell.setCell.setCell.setCell.setCell.setCell.setCell⟩
    · rw [Bool.not_eq_true] at hz
      have HZq : Hid (zB (fun j => x (14 + j)) = false) := hz
      rw [hz]
      clear hz L4 U4
      go_wp2_with fail
      go_ret
      exact Or.inr ⟨by rw [HQ.out, HMq.out, HZq.out]; rfl, rfl, H4.out.2⟩
  · rw [Bool.not_eq_true] at hm
    have HMq : Hid (mayB q = false) := hm
    rw [hm]
    clear hm
    go_wp2_with fail
    go_ret
    exact Or.inr ⟨by rw [HQ.out, HMq.out]; rfl, rfl, H3.out.2.1⟩
end Go.Proofs.YteomldlmdpphaaaDoor
