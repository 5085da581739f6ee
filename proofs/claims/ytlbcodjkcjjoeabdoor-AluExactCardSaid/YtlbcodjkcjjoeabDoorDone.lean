/- One job of AluExact: the program's answer is the document's, whatever the job. Condition: the table of bits holds the powers of 2. -/
import Derived.Test.YtlbcodjkcjjoeabDoorRefW
import Derived.Test.YtlbcodjkcjjoeabDoorAluT
namespace Go.Proofs.YtlbcodjkcjjoeabDoor
open Go.ChangeShapes Go.WideShapes Go.ChangeAt Go.RowKit
set_option linter.unusedVariables false
theorem u16_lo (a : Int) : 0 ≤ IntKind.u16.wrap a := by rw [IntKind.wrap_u16]; omega
theorem u16_hi (a : Int) : IntKind.u16.wrap a ≤ 65535 := by rw [IntKind.wrap_u16]; omega
theorem LaidB.kept {w w' : World} (h : LaidB w) (g : Kept w w') : LaidB w' :=
  ⟨Nat.lt_of_lt_of_le h.1 g.2, fun i hi => (g.cell h.1).trans (h.2 i hi)⟩
theorem box1 (w : World) (v0 v1 v2 v3 v4 : Value) : (w.alloc (.cells #[v0, v1, v2, v3, v4] 31)).cell? ⟨w.heap.size, 1, none⟩ = some v1 := by simp
theorem box2 (w : World) (v0 v1 v2 v3 v4 : Value) : (w.alloc (.cells #[v0, v1, v2, v3, v4] 31)).cell? ⟨w.heap.size, 2, none⟩ = some v2 := by simp
theorem box3 (w : World) (v0 v1 v2 v3 v4 : Value) : (w.alloc (.cells #[v0, v1, v2, v3, v4] 31)).cell? ⟨w.heap.size, 3, none⟩ = some v3 := by simp
theorem box4 (w : World) (v0 v1 v2 v3 v4 : Value) : (w.alloc (.cells #[v0, v1, v2, v3, v4] 31)).cell? ⟨w.heap.size, 4, none⟩ = some v4 := by simp

set_option maxRecDepth 100000 in
set_option maxHeartbeats 2000000 in
theorem done0 (k o a b f : Int) (w : World) (hL : LaidB w) (hk : -9223372036854775808 ≤ k) (hk2 : k ≤ 9223372036854775807) (hp : pickI k 9 = 0) :
    Calls Tryd.prog 9 #[.agg #[.int .i64 k, .int .i64 o, .int .i64 a, .int .i64 b, .int .i64 f]] w fun e w' => e = .returned (.bool true) ∧ Kept w w' := by
  have hB0 := hL.grown (Grown.alloc (Grown.refl w) #[.int .i64 k, .int .i64 o, .int .i64 a, .int .i64 b, .int .i64 f] 31)
  go_enter Tryd.func9, Tryd.ntmps9
  go_wp2_with (first | (go_at_call 5; refine (pick_any _ _ _ hk hk2 (by omega) (by omega)).mono ?_; rintro e wp ⟨rfl, rfl⟩) | (go_at_call 6; refine (arith_any _ _ _ _ _ (by omega) (by omega) (by omega) (by omega) (by omega) (by omega)).mono ?_; rintro e wa ⟨rfl, hga⟩; have kk := Kept.ofGrown hga; have d1 := (kk.cell (o := 1) (by simp)).trans (box1 w _ _ _ _ _); have d2 := (kk.cell (o := 2) (by simp)).trans (box2 w _ _ _ _ _); have d3 := (kk.cell (o := 3) (by simp)).trans (box3 w _ _ _ _ _); have d4 := (kk.cell (o := 4) (by simp)).trans (box4 w _ _ _ _ _)) | (go_at_call 27; refine (ref_arith _ _ _ _ _ (by omega) (by omega) (by omega) (by omega) (by omega) (by omega)).mono ?_; rintro e wb ⟨rfl, hkb⟩))
  go_ret
  exact ⟨rfl, ((Kept.ofGrown (Grown.alloc (Grown.refl _) _ _)).step kk).step hkb⟩

set_option maxRecDepth 100000 in
set_option maxHeartbeats 2000000 in
theorem done1 (k o a b f : Int) (w : World) (hL : LaidB w) (hk : -9223372036854775808 ≤ k) (hk2 : k ≤ 9223372036854775807) (hp : pickI k 9 = 1) :
    Calls Tryd.prog 9 #[.agg #[.int .i64 k, .int .i64 o, .int .i64 a, .int .i64 b, .int .i64 f]] w fun e w' => e = .returned (.bool true) ∧ Kept w w' := by
  have hB0 := hL.grown (Grown.alloc (Grown.refl w) #[.int .i64 k, .int .i64 o, .int .i64 a, .int .i64 b, .int .i64 f] 31)
  go_enter Tryd.func9, Tryd.ntmps9
  go_wp2_with (first | (go_at_call 5; refine (pick_any _ _ _ hk hk2 (by omega) (by omega)).mono ?_; rintro e wp ⟨rfl, rfl⟩) | (go_at_call 28; refine (step_any _ _ _ _ (by omega) (by omega) (by omega) (by omega)).mono ?_; rintro e wa ⟨rfl, hga⟩; have kk := Kept.ofGrown hga; have d1 := (kk.cell (o := 1) (by simp)).trans (box1 w _ _ _ _ _); have d2 := (kk.cell (o := 2) (by simp)).trans (box2 w _ _ _ _ _); have d3 := (kk.cell (o := 3) (by simp)).trans (box3 w _ _ _ _ _); have d4 := (kk.cell (o := 4) (by simp)).trans (box4 w _ _ _ _ _)) | (go_at_call 29; refine (ref_step _ _ _ _ (by omega) (by omega) (by omega) (by omega)).mono ?_; rintro e wb ⟨rfl, rfl⟩))
  go_ret
  exact ⟨rfl, (Kept.ofGrown (Grown.alloc (Grown.refl _) _ _)).step kk⟩

set_option maxRecDepth 100000 in
set_option maxHeartbeats 2000000 in
theorem done2 (k o a b f : Int) (w : World) (hL : LaidB w) (hk : -9223372036854775808 ≤ k) (hk2 : k ≤ 9223372036854775807) (hp : pickI k 9 = 2) :
    Calls Tryd.prog 9 #[.agg #[.int .i64 k, .int .i64 o, .int .i64 a, .int .i64 b, .int .i64 f]] w fun e w' => e = .returned (.bool true) ∧ Kept w w' := by
  have hB0 := hL.grown (Grown.alloc (Grown.refl w) #[.int .i64 k, .int .i64 o, .int .i64 a, .int .i64 b, .int .i64 f] 31)
  go_enter Tryd.func9, Tryd.ntmps9
  go_wp2_with (first | (go_at_call 5; refine (pick_any _ _ _ hk hk2 (by omega) (by omega)).mono ?_; rintro e wp ⟨rfl, rfl⟩) | (go_at_call 30; refine (shift_any _ _ _ _ (by exact hB0) (by omega) (by omega) (by omega) (by omega)).mono ?_; rintro e wa ⟨rfl, hga⟩; have kk := Kept.ofGrown hga; have d1 := (kk.cell (o := 1) (by simp)).trans (box1 w _ _ _ _ _); have d2 := (kk.cell (o := 2) (by simp)).trans (box2 w _ _ _ _ _); have d3 := (kk.cell (o := 3) (by simp)).trans (box3 w _ _ _ _ _); have d4 := (kk.cell (o := 4) (by simp)).trans (box4 w _ _ _ _ _)) | (go_at_call 31; refine (ref_shift _ _ _ _ (by omega) (by omega) (by omega) (by omega)).mono ?_; rintro e wb ⟨rfl, hkb⟩))
  go_ret
  exact ⟨rfl, ((Kept.ofGrown (Grown.alloc (Grown.refl _) _ _)).step kk).step hkb⟩

set_option maxRecDepth 100000 in
set_option maxHeartbeats 2000000 in
theorem done3 (k o a b f : Int) (w : World) (hL : LaidB w) (hk : -9223372036854775808 ≤ k) (hk2 : k ≤ 9223372036854775807) (hp : pickI k 9 = 3) :
    Calls Tryd.prog 9 #[.agg #[.int .i64 k, .int .i64 o, .int .i64 a, .int .i64 b, .int .i64 f]] w fun e w' => e = .returned (.bool true) ∧ Kept w w' := by
  have hB0 := hL.grown (Grown.alloc (Grown.refl w) #[.int .i64 k, .int .i64 o, .int .i64 a, .int .i64 b, .int .i64 f] 31)
  go_enter Tryd.func9, Tryd.ntmps9
  go_wp2_with (first | (go_at_call 5; refine (pick_any _ _ _ hk hk2 (by omega) (by omega)).mono ?_; rintro e wp ⟨rfl, rfl⟩) | (go_at_call 8; refine (turn_any _ _ _ _ (by exact hB0) (by omega) (by omega) (by omega) (by omega)).mono ?_; rintro e wa ⟨rfl, hga⟩; have kk := Kept.ofGrown hga; have d1 := (kk.cell (o := 1) (by simp)).trans (box1 w _ _ _ _ _); have d2 := (kk.cell (o := 2) (by simp)).trans (box2 w _ _ _ _ _); have d3 := (kk.cell (o := 3) (by simp)).trans (box3 w _ _ _ _ _); have d4 := (kk.cell (o := 4) (by simp)).trans (box4 w _ _ _ _ _)) | (go_at_call 32; refine (ref_turn _ _ _ _ (by omega) (by omega) (by omega) (by omega)).mono ?_; rintro e wb ⟨rfl, hkb⟩))
  go_ret
  exact ⟨rfl, ((Kept.ofGrown (Grown.alloc (Grown.refl _) _ _)).step kk).step hkb⟩

set_option maxRecDepth 100000 in
set_option maxHeartbeats 2000000 in
theorem done4 (k o a b f : Int) (w : World) (hL : LaidB w) (hk : -9223372036854775808 ≤ k) (hk2 : k ≤ 9223372036854775807) (hp : pickI k 9 = 4) :
    Calls Tryd.prog 9 #[.agg #[.int .i64 k, .int .i64 o, .int .i64 a, .int .i64 b, .int .i64 f]] w fun e w' => e = .returned (.bool true) ∧ Kept w w' := by
  have hB0 := hL.grown (Grown.alloc (Grown.refl w) #[.int .i64 k, .int .i64 o, .int .i64 a, .int .i64 b, .int .i64 f] 31)
  go_enter Tryd.func9, Tryd.ntmps9
  go_wp2_with (first | (go_at_call 5; refine (pick_any _ _ _ hk hk2 (by omega) (by omega)).mono ?_; rintro e wp ⟨rfl, rfl⟩) | (go_at_call 33; refine (bit_any _ _ _ _ (by exact hB0) (by omega) (by omega) (by omega) (by omega)).mono ?_; rintro e wa ⟨rfl, rfl⟩) | (go_at_call 34; refine (ref_bit _ _ _ _ (by omega) (by omega) (by omega) (by omega)).mono ?_; rintro e wb ⟨rfl, hkb⟩))
  go_ret
  exact ⟨rfl, (Kept.ofGrown (Grown.alloc (Grown.refl _) _ _)).step hkb⟩

set_option maxRecDepth 100000 in
set_option maxHeartbeats 2000000 in
theorem done5 (k o a b f : Int) (w : World) (hL : LaidB w) (hk : -9223372036854775808 ≤ k) (hk2 : k ≤ 9223372036854775807) (hp : pickI k 9 = 5) :
    Calls Tryd.prog 9 #[.agg #[.int .i64 k, .int .i64 o, .int .i64 a, .int .i64 b, .int .i64 f]] w fun e w' => e = .returned (.bool true) ∧ Kept w w' := by
  have hB0 := hL.grown (Grown.alloc (Grown.refl w) #[.int .i64 k, .int .i64 o, .int .i64 a, .int .i64 b, .int .i64 f] 31)
  go_enter Tryd.func9, Tryd.ntmps9
  go_wp2_with (first | (go_at_call 5; refine (pick_any _ _ _ hk hk2 (by omega) (by omega)).mono ?_; rintro e wp ⟨rfl, rfl⟩) | (go_at_call 35; refine (res_any _ _ _ (by exact hB0) (by omega) (by omega)).mono ?_; rintro e wa ⟨rfl, rfl⟩) | (go_at_call 36; refine (ref_res _ _ _ (by omega) (by omega)).mono ?_; rintro e wb ⟨rfl, hkb⟩))
  go_ret
  exact ⟨rfl, (Kept.ofGrown (Grown.alloc (Grown.refl _) _ _)).step hkb⟩

set_option maxRecDepth 100000 in
set_option maxHeartbeats 2000000 in
theorem done6 (k o a b f : Int) (w : World) (hL : LaidB w) (hk : -9223372036854775808 ≤ k) (hk2 : k ≤ 9223372036854775807) (hp : pickI k 9 = 6) :
    Calls Tryd.prog 9 #[.agg #[.int .i64 k, .int .i64 o, .int .i64 a, .int .i64 b, .int .i64 f]] w fun e w' => e = .returned (.bool true) ∧ Kept w w' := by
  have hB0 := hL.grown (Grown.alloc (Grown.refl w) #[.int .i64 k, .int .i64 o, .int .i64 a, .int .i64 b, .int .i64 f] 31)
  go_enter Tryd.func9, Tryd.ntmps9
  go_wp2_with (first | (go_at_call 5; refine (pick_any _ _ _ hk hk2 (by omega) (by omega)).mono ?_; rintro e wp ⟨rfl, rfl⟩) | (go_at_call 37; refine (set_any _ _ _ (by exact hB0) (by omega) (by omega)).mono ?_; rintro e wa ⟨rfl, rfl⟩) | (go_at_call 38; refine (ref_set _ _ _ (by omega) (by omega)).mono ?_; rintro e wb ⟨rfl, hkb⟩))
  go_ret
  exact ⟨rfl, (Kept.ofGrown (Grown.alloc (Grown.refl _) _ _)).step hkb⟩

set_option maxRecDepth 100000 in
set_option maxHeartbeats 2000000 in
theorem done7 (k o a b f : Int) (w : World) (hL : LaidB w) (hk : -9223372036854775808 ≤ k) (hk2 : k ≤ 9223372036854775807) (hp : pickI k 9 = 7) :
    Calls Tryd.prog 9 #[.agg #[.int .i64 k, .int .i64 o, .int .i64 a, .int .i64 b, .int .i64 f]] w fun e w' => e = .returned (.bool true) ∧ Kept w w' := by
  have hB0 := hL.grown (Grown.alloc (Grown.refl w) #[.int .i64 k, .int .i64 o, .int .i64 a, .int .i64 b, .int .i64 f] 31)
  go_enter Tryd.func9, Tryd.ntmps9
  go_wp2_with (first | (go_at_call 5; refine (pick_any _ _ _ hk hk2 (by omega) (by omega)).mono ?_; rintro e wp ⟨rfl, rfl⟩) | (go_at_call 39; refine (addword_any _ _ _ _ (u16_lo _) (u16_hi _) (u16_lo _) (u16_hi _) (by omega) (by omega)).mono ?_; rintro e wa ⟨rfl, rfl⟩) | (go_at_call 40; refine (ref_addword _ _ _ _ (u16_lo _) (u16_hi _) (u16_lo _) (u16_hi _) (by omega) (by omega)).mono ?_; rintro e wb ⟨rfl, hkb⟩))
  go_ret
  exact ⟨rfl, (Kept.ofGrown (Grown.alloc (Grown.refl _) _ _)).step hkb⟩

set_option maxRecDepth 100000 in
set_option maxHeartbeats 2000000 in
theorem done8 (k o a b f : Int) (w : World) (hL : LaidB w) (hk : -9223372036854775808 ≤ k) (hk2 : k ≤ 9223372036854775807) (hp : pickI k 9 = 8) :
    Calls Tryd.prog 9 #[.agg #[.int .i64 k, .int .i64 o, .int .i64 a, .int .i64 b, .int .i64 f]] w fun e w' => e = .returned (.bool true) ∧ Kept w w' := by
  have hB0 := hL.grown (Grown.alloc (Grown.refl w) #[.int .i64 k, .int .i64 o, .int .i64 a, .int .i64 b, .int .i64 f] 31)
  go_enter Tryd.func9, Tryd.ntmps9
  go_wp2_with (first | (go_at_call 5; refine (pick_any _ _ _ hk hk2 (by omega) (by omega)).mono ?_; rintro e wp ⟨rfl, rfl⟩) | (go_at_call 41; refine (addoffset_any _ _ _ (u16_lo _) (u16_hi _) (by omega) (by omega)).mono ?_; rintro e wa ⟨rfl, rfl⟩) | (go_at_call 42; refine (ref_addoffset _ _ _ (u16_lo _) (u16_hi _) (by omega) (by omega)).mono ?_; rintro e wb ⟨rfl, hkb⟩))
  go_ret
  exact ⟨rfl, (Kept.ofGrown (Grown.alloc (Grown.refl _) _ _)).step hkb⟩

theorem done_any (k o a b f : Int) (w : World) (hL : LaidB w) (hk : -9223372036854775808 ≤ k) (hk2 : k ≤ 9223372036854775807) :
    Calls Tryd.prog 9 #[.agg #[.int .i64 k, .int .i64 o, .int .i64 a, .int .i64 b, .int .i64 f]] w fun e w' => e = .returned (.bool true) ∧ Kept w w' := by
  have h0 := pickI_lo k 9 (by omega)
  have h1 := pickI_hi k 9 (by omega)
  have hh : pickI k 9 = 0 ∨ pickI k 9 = 1 ∨ pickI k 9 = 2 ∨ pickI k 9 = 3 ∨ pickI k 9 = 4 ∨ pickI k 9 = 5 ∨ pickI k 9 = 6 ∨ pickI k 9 = 7 ∨ pickI k 9 = 8 := by omega
  rcases hh with h | h | h | h | h | h | h | h | h
  · exact done0 k o a b f w hL hk hk2 h
  · exact done1 k o a b f w hL hk hk2 h
  · exact done2 k o a b f w hL hk hk2 h
  · exact done3 k o a b f w hL hk hk2 h
  · exact done4 k o a b f w hL hk hk2 h
  · exact done5 k o a b f w hL hk hk2 h
  · exact done6 k o a b f w hL hk hk2 h
  · exact done7 k o a b f w hL hk hk2 h
  · exact done8 k o a b f w hL hk hk2 h
end Go.Proofs.YtlbcodjkcjjoeabDoor
