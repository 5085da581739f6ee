/- What is refused. -/
import Derived.Test.YteomldlmdpphaaaDoorPpH
namespace Go.Proofs.YteomldlmdpphaaaDoor
open Go.RowKit
set_option linter.unusedVariables false
variable {b : Nat} {p : Po}
set_option maxRecDepth 100000 in
theorem step_low (c : Int) (c0 : c < 0) (W : World) :
    Calls Tryd.prog 17 #[.pointer (some ⟨b, 0, none⟩), .int .i64 c] W fun e w' => e = .returned (.int .i64 1) ∧ Up W w' := by
  have d1 : decide (c < 0) = true := decide_eq_true c0
  go_enter Tryd.func17, Tryd.ntmps17
  go_wp2_with fail
  go_ret
  exact ⟨rfl, (Up.refl W).alloc _⟩
set_option maxRecDepth 100000 in
theorem step_high (c : Int) (c0 : 1000000 < c) (W : World) :
    Calls Tryd.prog 17 #[.pointer (some ⟨b, 0, none⟩), .int .i64 c] W fun e w' => e = .returned (.int .i64 1) ∧ Up W w' := by
  have d1 : decide (c < 0) = false := decide_eq_false (by omega)
  have d2 : decide (1000000 < c) = true := decide_eq_true c0
  go_enter Tryd.func17, Tryd.ntmps17
  go_wp2_with fail
  go_ret
  exact ⟨rfl, (Up.refl W).alloc _⟩
set_option maxRecDepth 100000 in
theorem press_high (c : Int) (c0 : 255 < c) (W : World) :
    Calls Tryd.prog 20 #[.pointer (some ⟨b, 0, none⟩), .int .i64 c] W fun e w' => e = .returned (.int .i64 1) ∧ Up W w' := by
  have d1 : decide (c < 0) = false := decide_eq_false (by omega)
  have d2 : decide (255 < c) = true := decide_eq_true c0
  go_enter Tryd.func20, Tryd.ntmps20
  go_wp2_with fail
  go_ret
  exact ⟨rfl, ((Up.refl W).alloc _).alloc _⟩
theorem isRequest_high (r : Int) (r1 : 4 < r) (W : World) : Calls Tryd.prog 30 #[.int .i64 r] W fun e w' => e = .returned (.bool false) ∧ w' = W := by
  have d1 : decide (0 ≤ r) = true := decide_eq_true (by omega)
  have d2 : decide (r ≤ 4) = false := decide_eq_false (by omega)
  go_enter Tryd.func30, Tryd.ntmps30
  go_wp2
  go_ret
  exact ⟨by first | rfl | exact retB (by simp [d1, d2]), rfl⟩
theorem isRequest_low (r : Int) (r1 : r < 0) (W : World) : Calls Tryd.prog 30 #[.int .i64 r] W fun e w' => e = .returned (.bool false) ∧ w' = W := by
  have d1 : decide (0 ≤ r) = false := decide_eq_false (by omega)
  go_enter Tryd.func30, Tryd.ntmps30
  go_wp2
  go_ret
  exact ⟨by first | rfl | exact retB (by simp [d1]), rfl⟩
set_option maxRecDepth 100000 in
theorem raise_high (c : Int) (c0 : 4 < c) (W : World) :
    Calls Tryd.prog 22 #[.pointer (some ⟨b, 0, none⟩), .int .i64 c] W fun e w' => e = .returned (.int .i64 1) ∧ Up W w' := by
  have HI : Hid _ := isRequest_high c c0 W
  go_enter Tryd.func22, Tryd.ntmps22
  go_wp2_with fail
  refine Calls.mono HI.out ?_
  rintro e w' ⟨rfl, hw'⟩
  obtain rfl := hw'.symm
  go_wp2_with fail
  go_ret
  exact ⟨rfl, Up.refl W⟩
set_option maxRecDepth 100000 in
theorem take_low (c : Int) (c0 : c < 0) (W : World) :
    Calls Tryd.prog 16 #[.pointer (some ⟨b, 0, none⟩), .int .i64 c] W fun e w' => e = .returned (.int .i64 1) ∧ Up W w' := by
  have HI : Hid _ := isRequest_low c c0 W
  go_enter Tryd.func16, Tryd.ntmps16
  go_wp2_with fail
  refine Calls.mono HI.out ?_
  rintro e w' ⟨rfl, hw'⟩
  obtain rfl := hw'.symm
  go_wp2_with fail
  go_ret
  exact ⟨rfl, Up.refl W⟩
set_option maxRecDepth 100000 in
theorem write_high (c : Int) (c0 : 255 < c) (W : World) :
    Calls Tryd.prog 15 #[.pointer (some ⟨b, 0, none⟩), .int .i64 65281, .int .i64 c] W fun e w' => e = .returned (.int .i64 1) ∧ Up W w' := by
  have d1 : decide (c < 0) = false := decide_eq_false (by omega)
  have d2 : decide (255 < c) = true := decide_eq_true c0
  have HP : Hid (∀ W, Calls Tryd.prog 29 #[.int .i64 65281] W fun e w' => e = .returned (.tuple #[.agg #[.func (.func 53) #[] #[], .func (.func 54) #[] #[]], .bool true]) ∧ Up W w') := fun W => at65281 W
  go_enter Tryd.func15, Tryd.ntmps15
  go_wp2_with fail
  refine (HP.out _).mono ?_
  rintro e w2 ⟨rfl, hu2⟩
  have HU : Hid _ := hu2
  clear hu2
  go_wp2_with fail
  go_ret
  exact ⟨rfl, HU.out.alloc _⟩
set_option maxRecDepth 100000 in
theorem portAt_no (a : Int) (h : a < 65280 ∨ 65295 < a) (W : World) : Calls Tryd.prog 29 #[.int .i64 a] W fun e w' => e = .returned (.tuple #[.agg #[.nilFunc, .nilFunc], .bool false]) ∧ Up W w' := by
  by_cases h1 : a < 65280
  · have d1 : decide (a < 65280) = true := decide_eq_true h1
    go_enter Tryd.func29, Tryd.ntmps29
    go_wp2_with fail
    refine bodyPost_ret (v := .tuple #[.agg #[.nilFunc, .nilFunc], .bool false]) (results_row_tmp Tryd.results29 _ _ W.heap.size 54 #[.nilFunc, .nilFunc] (0, 0) _ rfl (heap_alloc_new W _) Tryd.underlying54 rfl (by kernel_rfl)) rfl ⟨rfl, (Up.refl W).alloc _⟩
  · have d1 : decide (a < 65280) = false := decide_eq_false h1
    have d2 : decide (65295 < a) = true := decide_eq_true (by omega)
    go_enter Tryd.func29, Tryd.ntmps29
    go_wp2_with fail
    refine bodyPost_ret (v := .tuple #[.agg #[.nilFunc, .nilFunc], .bool false]) (results_row_tmp Tryd.results29 _ _ W.heap.size 54 #[.nilFunc, .nilFunc] (0, 0) _ rfl (heap_alloc_new W _) Tryd.underlying54 rfl (by kernel_rfl)) rfl ⟨rfl, (Up.refl W).alloc _⟩
set_option maxRecDepth 100000 in
theorem write_far (a x : Int) (h : a < 65280 ∨ 65295 < a) (W : World) :
    Calls Tryd.prog 15 #[.pointer (some ⟨b, 0, none⟩), .int .i64 a, .int .i64 x] W fun e w' => e = .returned (.int .i64 51) ∧ Up W w' := by
  have HP : Hid (∀ W, Calls Tryd.prog 29 #[.int .i64 a] W fun e w' => e = .returned (.tuple #[.agg #[.nilFunc, .nilFunc], .bool false]) ∧ Up W w') := fun W => portAt_no a h W
  clear h
  go_enter Tryd.func15, Tryd.ntmps15
  go_wp2_with fail
  refine (HP.out _).mono ?_
  rintro e w2 ⟨rfl, hu2⟩
  have HU : Hid _ := hu2
  clear hu2
  go_wp2_with fail
  go_ret
  exact ⟨rfl, HU.out.alloc _⟩
set_option maxRecDepth 100000 in
theorem read_far (a : Int) (h : a < 65280 ∨ 65295 < a) (W : World) :
    Calls Tryd.prog 19 #[.pointer (some ⟨b, 0, none⟩), .int .i64 a] W fun e w' => e = .returned (.tuple #[.int .i64 0, .int .i64 51]) ∧ Up W w' := by
  have HP : Hid (∀ W, Calls Tryd.prog 29 #[.int .i64 a] W fun e w' => e = .returned (.tuple #[.agg #[.nilFunc, .nilFunc], .bool false]) ∧ Up W w') := fun W => portAt_no a h W
  clear h
  go_enter Tryd.func19, Tryd.ntmps19
  go_wp2_with fail
  refine (HP.out _).mono ?_
  rintro e w2 ⟨rfl, hu2⟩
  have HU : Hid _ := hu2
  clear hu2
  go_wp2_with fail
  go_ret2
  exact ⟨rfl, HU.out.alloc _⟩
/-- bytes in bounds -/
theorem ok_of_may (x : Nat → Int) (hb : ∀ j, 0 ≤ x j ∧ x j ≤ 255) (h : mayB (ldP x) = true) : (ldP x).Ok := by
  have a1 : ∀ z : Int, 0 ≤ z → z ≤ 255 → (bits .andNot .u8 z 48 != 0) = false → z = 0 ∨ z = 16 ∨ z = 32 ∨ z = 48 := byteAll (by decide +kernel)
  have a2 : ∀ z : Int, 0 ≤ z → z ≤ 255 → (bits .andNot .u8 z 129 != 0) = false → z = 0 ∨ z = 1 ∨ z = 128 ∨ z = 129 := byteAll (by decide +kernel)
  have a3 : ∀ z : Int, 0 ≤ z → z ≤ 255 → (bits .andNot .u8 z 7 != 0) = false → z ≤ 7 := byteAll (by decide +kernel)
  have a4 : ∀ z : Int, 0 ≤ z → z ≤ 255 → (bits .andNot .u8 z 31 != 0) = false → z ≤ 31 := byteAll (by decide +kernel)
  have hh : mayB (ldP x) = (!((bits .andNot .u8 (x 1) 48 != 0) || (bits .andNot .u8 (x 3) 129 != 0) || (bits .andNot .u8 (x 8) 7 != 0) || (bits .andNot .u8 (x 9) 31 != 0)) && !(decide (4 < x 10) || decide (4096 < x 11 + x 12 * 256)) && (if x 11 + x 12 * 256 == 0 then (x 3 != 129) && (x 13 == 0) else x 3 == 129)) := rfl
  rw [hh, Bool.and_eq_true, Bool.and_eq_true, Bool.not_eq_true', Bool.not_eq_true', Bool.or_eq_false_iff, Bool.or_eq_false_iff, Bool.or_eq_false_iff, Bool.or_eq_false_iff, decide_eq_false_iff_not, decide_eq_false_iff_not] at h
  obtain ⟨⟨⟨⟨⟨h1, h2⟩, h3⟩, h4⟩, h5, h6⟩, _⟩ := h
  have b := hb
  exact ⟨hb 0, a1 _ (hb 1).1 (hb 1).2 h1, hb 2, a2 _ (hb 3).1 (hb 3).2 h2, by have := hb 4; have := hb 5; show 0 ≤ x 4 + x 5 * 256 ∧ x 4 + x 5 * 256 ≤ 65535; omega, hb 6, hb 7, ⟨(hb 8).1, a3 _ (hb 8).1 (hb 8).2 h3⟩, ⟨(hb 9).1, a4 _ (hb 9).1 (hb 9).2 h4⟩, ⟨(hb 10).1, by show x 10 ≤ 4; omega⟩, by have := hb 11; have := hb 12; show 0 ≤ x 11 + x 12 * 256 ∧ x 11 + x 12 * 256 ≤ 4096; omega, hb 13⟩
/-- any bytes -/
theorem Pb.loadAny {W0 : World} {K : List (Nat × Obj)} {zs : List Int} {W : World} (h : Pb W0 K b p zs W) (a : Option Addr) (n c : Nat) (x : Nat → Int) (g o : Nat) (ha : 0 < n → a = some ⟨g, o, none⟩) (hx : ∀ j, j < n → W.cell? ⟨g, o + j, none⟩ = some (.int .u8 (x j))) (hb : ∀ j, 0 ≤ x j ∧ x j ≤ 255) (hc : n ≤ c) (hcm : c ≤ 9223372036854775807) :
    Calls Tryd.prog 24 #[.pointer (some ⟨b, 0, none⟩), .slice a n c] W fun e w' => (e = .returned (.int .i64 0) ∧ ∃ q, Pb W0 K b q [] w') ∨ (e = .returned (.int .i64 52) ∧ Up W w') := by
  obtain ⟨v, h1, _⟩ := h.row
  by_cases hn : n = 19
  · subst hn
    obtain rfl := ha (by decide)
    refine (load_19 v W h1 g o c x hx hb hc hcm).mono ?_
    rintro e w' (⟨hm, he, hp, hf⟩ | ⟨hm, he, hu⟩)
    · rw [Bool.and_eq_true] at hm
      exact Or.inl ⟨he, _, Fr.toPb h (ok_of_may x hb hm.1) hp hf⟩
    · exact Or.inr ⟨he, hu⟩
  · exact (load_long v W h1 a n c hn (by omega)).mono fun e w' ⟨he, hu⟩ => Or.inr ⟨he, hu⟩
end Go.Proofs.YteomldlmdpphaaaDoor
