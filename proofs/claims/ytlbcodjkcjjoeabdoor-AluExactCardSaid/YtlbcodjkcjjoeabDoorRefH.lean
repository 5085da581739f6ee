/- What the reference's AND, XOR, OR come to, and its Arith as a whole, as contracts over the translation. Conditions: bytes are 0 to 255. -/
import Derived.Test.YtlbcodjkcjjoeabDoorRefF
namespace Go.Proofs.YtlbcodjkcjjoeabDoor
open Go.ChangeShapes Go.WideShapes Go.ChangeAt Go.RowKit
set_option linter.unusedVariables false

theorem and_snoc (A B : Nat) (x y : Bool) (k : Nat) (hx : x = bitB A k) (hy : y = bitB B k) (u : Bool) (hu : u = (x && y)) :
    ((List.range k).map fun j => Value.bool (bitB A j && bitB B j)) ++ [.bool u] = (List.range (k + 1)).map fun j => Value.bool (bitB A j && bitB B j) := by
  rw [List.range_succ, List.map_append, hu, hx, hy]; rfl
set_option maxRecDepth 100000 in
set_option maxHeartbeats 4000000 in
theorem ref_arith4 (A B : Nat) (f : Int) (w : World) (hA : A ≤ 255) (hB : B ≤ 255) (hf : 0 ≤ f) (hf2 : f ≤ 255) :
    Calls Tryd.prog 27 #[.int .i64 4, .int .u8 A, .int .u8 B, .int .u8 f] w fun e w' => e = .returned (.tuple #[.int .u8 (arR 4 A B f), .int .u8 (arF 4 A B f)]) ∧ Kept w w' := by
  go_enter Tryd.func27, Tryd.ntmps27
  go_wp2_with fail
  refine (bits8 A _ (by omega)).mono ?_
  rintro e w1 ⟨sx, rfl, hx, k1⟩
  go_wp2_with fail
  refine (bits8 B _ (by omega)).mono ?_
  rintro e w2 ⟨sy, rfl, hy, k2⟩
  have hx2 := hx.kept k2
  have K := k1.step k2
  clear hx k1 k2
  obtain ⟨bx, capx, rfl, hbx, hcx, hcellx⟩ := hx2
  obtain ⟨byy, capy, rfl, hby, hcy, hcelly⟩ := hy
  have HX : Hid (∀ i, i < 8 → w2.cell? ⟨bx, i, none⟩ = some (.bool (bitB A i))) := hcellx
  have HY : Hid (∀ i, i < 8 → w2.cell? ⟨byy, i, none⟩ = some (.bool (bitB B i))) := hcelly
  clear hcellx hcelly
  go_wp2_with (go_at_call 55; refine (has_any _ _ _ hf hf2 (by omega) (by omega)).mono ?_; rintro e w' ⟨rfl, rfl⟩)
  go_loopw [13, 21, 22] (fun v i _ wr => ∃ k : Nat, k ≤ 8 ∧ i = .int .i64 k ∧ wr.ownsRow w'.heap.size 4 1 v k ((List.range k).map fun j => Value.bool (bitB A j && bitB B j)) ∧ Below w'.heap.size w' wr) (fun _ i _ _ => 8 - (intOf i).toNat)
  case atStart => exact ⟨0, by omega, rfl, World.ownsRow_nil _ _ _ _, Below.refl _ _⟩
  case round =>
    obtain ⟨k, hk, rfl, hos, hbel⟩ := hrel
    by_cases hlt : k < 8
    · have hxc := (hbel.cell (p := ⟨bx, k, none⟩) hbx).trans (HX.out k hlt)
      have hyc := (hbel.cell (p := ⟨byy, k, none⟩) hby).trans (HY.out k hlt)
      obtain ⟨x, ex⟩ : ∃ x, x = bitB A k := ⟨_, rfl⟩
      obtain ⟨y, ey⟩ : ∃ y, y = bitB B k := ⟨_, rfl⟩
      rw [← ex] at hxc
      rw [← ey] at hyc
      have HS : Hid (∀ u, u = (x && y) → ((List.range k).map fun j => Value.bool (bitB A j && bitB B j)) ++ [.bool u] = (List.range (k + 1)).map fun j => Value.bool (bitB A j && bitB B j)) := and_snoc A B x y k ex ey
      have hsz := hbel.size
      clear ex ey
      cases x <;> cases y
      all_goals
        go_wp2_with (at_builtin; refine app _ rfl (.tmp 113) (.tmp 136) rfl w'.heap.size _ _ _ rfl hos _ rfl (by omega) hsz ?_; intro v1 w1 ho1 hb1 hk1; rw [HS.out _ (by decide)] at ho1; have hbel1 : Below w'.heap.size w' w1 := hbel.trans hb1; clear hos hbel hb1 hk1 hxc hyc)
        go_roundw
        case rel => exact ⟨k + 1, by omega, by go_num, ho1, hbel1⟩
        case measure => simp [intOf]; omega
    · obtain rfl : k = 8 := by omega
      have hrow := brow_of_owns hos (by decide)
      go_wp2_with (first | (go_at_call 57; refine (number8 _ _ _ hrow).mono ?_; rintro e w' ⟨V, rfl, rfl, hV, eV⟩) | (go_at_call 58; refine (flags_any _ _ _ _ _).mono ?_; rintro e w' ⟨rfl, rfl⟩))
      go_ret2
      have fR := andFin A B V eV.out hA hB
      exact ⟨ret2 fR (by rw [fR]; rfl), K.step (Kept.ofBelow hbel)⟩

theorem xor_snoc (A B : Nat) (x y : Bool) (k : Nat) (hx : x = bitB A k) (hy : y = bitB B k) (u : Bool) (hu : u = (x ^^ y)) :
    ((List.range k).map fun j => Value.bool (bitB A j ^^ bitB B j)) ++ [.bool u] = (List.range (k + 1)).map fun j => Value.bool (bitB A j ^^ bitB B j) := by
  rw [List.range_succ, List.map_append, hu, hx, hy]; rfl
set_option maxRecDepth 100000 in
set_option maxHeartbeats 4000000 in
theorem ref_arith5 (A B : Nat) (f : Int) (w : World) (hA : A ≤ 255) (hB : B ≤ 255) (hf : 0 ≤ f) (hf2 : f ≤ 255) :
    Calls Tryd.prog 27 #[.int .i64 5, .int .u8 A, .int .u8 B, .int .u8 f] w fun e w' => e = .returned (.tuple #[.int .u8 (arR 5 A B f), .int .u8 (arF 5 A B f)]) ∧ Kept w w' := by
  go_enter Tryd.func27, Tryd.ntmps27
  go_wp2_with fail
  refine (bits8 A _ (by omega)).mono ?_
  rintro e w1 ⟨sx, rfl, hx, k1⟩
  go_wp2_with fail
  refine (bits8 B _ (by omega)).mono ?_
  rintro e w2 ⟨sy, rfl, hy, k2⟩
  have hx2 := hx.kept k2
  have K := k1.step k2
  clear hx k1 k2
  obtain ⟨bx, capx, rfl, hbx, hcx, hcellx⟩ := hx2
  obtain ⟨byy, capy, rfl, hby, hcy, hcelly⟩ := hy
  have HX : Hid (∀ i, i < 8 → w2.cell? ⟨bx, i, none⟩ = some (.bool (bitB A i))) := hcellx
  have HY : Hid (∀ i, i < 8 → w2.cell? ⟨byy, i, none⟩ = some (.bool (bitB B i))) := hcelly
  clear hcellx hcelly
  go_wp2_with (go_at_call 55; refine (has_any _ _ _ hf hf2 (by omega) (by omega)).mono ?_; rintro e w' ⟨rfl, rfl⟩)
  go_loopw [13, 21, 22] (fun v i _ wr => ∃ k : Nat, k ≤ 8 ∧ i = .int .i64 k ∧ wr.ownsRow w'.heap.size 4 1 v k ((List.range k).map fun j => Value.bool (bitB A j ^^ bitB B j)) ∧ Below w'.heap.size w' wr) (fun _ i _ _ => 8 - (intOf i).toNat)
  case atStart => exact ⟨0, by omega, rfl, World.ownsRow_nil _ _ _ _, Below.refl _ _⟩
  case round =>
    obtain ⟨k, hk, rfl, hos, hbel⟩ := hrel
    by_cases hlt : k < 8
    · have hxc := (hbel.cell (p := ⟨bx, k, none⟩) hbx).trans (HX.out k hlt)
      have hyc := (hbel.cell (p := ⟨byy, k, none⟩) hby).trans (HY.out k hlt)
      obtain ⟨x, ex⟩ : ∃ x, x = bitB A k := ⟨_, rfl⟩
      obtain ⟨y, ey⟩ : ∃ y, y = bitB B k := ⟨_, rfl⟩
      rw [← ex] at hxc
      rw [← ey] at hyc
      have HS : Hid (∀ u, u = (x ^^ y) → ((List.range k).map fun j => Value.bool (bitB A j ^^ bitB B j)) ++ [.bool u] = (List.range (k + 1)).map fun j => Value.bool (bitB A j ^^ bitB B j)) := xor_snoc A B x y k ex ey
      have hsz := hbel.size
      clear ex ey
      cases x <;> cases y
      all_goals
        go_wp2_with (at_builtin; refine app _ rfl (.tmp 113) (.tmp 136) rfl w'.heap.size _ _ _ rfl hos _ rfl (by omega) hsz ?_; intro v1 w1 ho1 hb1 hk1; rw [HS.out _ (by decide)] at ho1; have hbel1 : Below w'.heap.size w' w1 := hbel.trans hb1; clear hos hbel hb1 hk1 hxc hyc)
        go_roundw
        case rel => exact ⟨k + 1, by omega, by go_num, ho1, hbel1⟩
        case measure => simp [intOf]; omega
    · obtain rfl : k = 8 := by omega
      have hrow := brow_of_owns hos (by decide)
      go_wp2_with (first | (go_at_call 57; refine (number8 _ _ _ hrow).mono ?_; rintro e w' ⟨V, rfl, rfl, hV, eV⟩) | (go_at_call 58; refine (flags_any _ _ _ _ _).mono ?_; rintro e w' ⟨rfl, rfl⟩))
      go_ret2
      have fR := xorFin A B V eV.out hA hB
      exact ⟨ret2 fR (by rw [fR]; rfl), K.step (Kept.ofBelow hbel)⟩

theorem or_snoc (A B : Nat) (x y : Bool) (k : Nat) (hx : x = bitB A k) (hy : y = bitB B k) (u : Bool) (hu : u = (x || y)) :
    ((List.range k).map fun j => Value.bool (bitB A j || bitB B j)) ++ [.bool u] = (List.range (k + 1)).map fun j => Value.bool (bitB A j || bitB B j) := by
  rw [List.range_succ, List.map_append, hu, hx, hy]; rfl
set_option maxRecDepth 100000 in
set_option maxHeartbeats 4000000 in
theorem ref_arith6 (A B : Nat) (f : Int) (w : World) (hA : A ≤ 255) (hB : B ≤ 255) (hf : 0 ≤ f) (hf2 : f ≤ 255) :
    Calls Tryd.prog 27 #[.int .i64 6, .int .u8 A, .int .u8 B, .int .u8 f] w fun e w' => e = .returned (.tuple #[.int .u8 (arR 6 A B f), .int .u8 (arF 6 A B f)]) ∧ Kept w w' := by
  go_enter Tryd.func27, Tryd.ntmps27
  go_wp2_with fail
  refine (bits8 A _ (by omega)).mono ?_
  rintro e w1 ⟨sx, rfl, hx, k1⟩
  go_wp2_with fail
  refine (bits8 B _ (by omega)).mono ?_
  rintro e w2 ⟨sy, rfl, hy, k2⟩
  have hx2 := hx.kept k2
  have K := k1.step k2
  clear hx k1 k2
  obtain ⟨bx, capx, rfl, hbx, hcx, hcellx⟩ := hx2
  obtain ⟨byy, capy, rfl, hby, hcy, hcelly⟩ := hy
  have HX : Hid (∀ i, i < 8 → w2.cell? ⟨bx, i, none⟩ = some (.bool (bitB A i))) := hcellx
  have HY : Hid (∀ i, i < 8 → w2.cell? ⟨byy, i, none⟩ = some (.bool (bitB B i))) := hcelly
  clear hcellx hcelly
  go_wp2_with (go_at_call 55; refine (has_any _ _ _ hf hf2 (by omega) (by omega)).mono ?_; rintro e w' ⟨rfl, rfl⟩)
  go_loopw [13, 21, 22] (fun v i _ wr => ∃ k : Nat, k ≤ 8 ∧ i = .int .i64 k ∧ wr.ownsRow w'.heap.size 4 1 v k ((List.range k).map fun j => Value.bool (bitB A j || bitB B j)) ∧ Below w'.heap.size w' wr) (fun _ i _ _ => 8 - (intOf i).toNat)
  case atStart => exact ⟨0, by omega, rfl, World.ownsRow_nil _ _ _ _, Below.refl _ _⟩
  case round =>
    obtain ⟨k, hk, rfl, hos, hbel⟩ := hrel
    by_cases hlt : k < 8
    · have hxc := (hbel.cell (p := ⟨bx, k, none⟩) hbx).trans (HX.out k hlt)
      have hyc := (hbel.cell (p := ⟨byy, k, none⟩) hby).trans (HY.out k hlt)
      obtain ⟨x, ex⟩ : ∃ x, x = bitB A k := ⟨_, rfl⟩
      obtain ⟨y, ey⟩ : ∃ y, y = bitB B k := ⟨_, rfl⟩
      rw [← ex] at hxc
      rw [← ey] at hyc
      have HS : Hid (∀ u, u = (x || y) → ((List.range k).map fun j => Value.bool (bitB A j || bitB B j)) ++ [.bool u] = (List.range (k + 1)).map fun j => Value.bool (bitB A j || bitB B j)) := or_snoc A B x y k ex ey
      have hsz := hbel.size
      clear ex ey
      cases x <;> cases y
      all_goals
        go_wp2_with (at_builtin; refine app _ rfl (.tmp 113) (.tmp 136) rfl w'.heap.size _ _ _ rfl hos _ rfl (by omega) hsz ?_; intro v1 w1 ho1 hb1 hk1; rw [HS.out _ (by decide)] at ho1; have hbel1 : Below w'.heap.size w' w1 := hbel.trans hb1; clear hos hbel hb1 hk1 hxc hyc)
        go_roundw
        case rel => exact ⟨k + 1, by omega, by go_num, ho1, hbel1⟩
        case measure => simp [intOf]; omega
    · obtain rfl : k = 8 := by omega
      have hrow := brow_of_owns hos (by decide)
      go_wp2_with (first | (go_at_call 57; refine (number8 _ _ _ hrow).mono ?_; rintro e w' ⟨V, rfl, rfl, hV, eV⟩) | (go_at_call 58; refine (flags_any _ _ _ _ _).mono ?_; rintro e w' ⟨rfl, rfl⟩))
      go_ret2
      have fR := orFin A B V eV.out hA hB
      exact ⟨ret2 fR (by rw [fR]; rfl), K.step (Kept.ofBelow hbel)⟩

theorem ref_arith (op : Int) (a b f : Int) (w : World) (ha : 0 ≤ a) (ha2 : a ≤ 255) (hb : 0 ≤ b) (hb2 : b ≤ 255) (hf : 0 ≤ f) (hf2 : f ≤ 255) :
    Calls Tryd.prog 27 #[.int .i64 op, .int .u8 a, .int .u8 b, .int .u8 f] w fun e w' => e = .returned (.tuple #[.int .u8 (arR op a b f), .int .u8 (arF op a b f)]) ∧ Kept w w' := by
  obtain ⟨A, rfl⟩ := Int.eq_ofNat_of_zero_le ha
  obtain ⟨B, rfl⟩ := Int.eq_ofNat_of_zero_le hb
  have hA : A ≤ 255 := by omega
  have hB : B ≤ 255 := by omega
  by_cases h : op < 0 ∨ 8 ≤ op
  · exact ref_arithNone op A B f w h hA hB hf hf2
  · have hh : op = 0 ∨ op = 1 ∨ op = 2 ∨ op = 3 ∨ op = 4 ∨ op = 5 ∨ op = 6 ∨ op = 7 := by omega
    rcases hh with rfl | rfl | rfl | rfl | rfl | rfl | rfl | rfl
    · exact ref_arith0 A B f w hA hB hf hf2
    · exact ref_arith1 A B f w hA hB hf hf2
    · exact ref_arith2 A B f w hA hB hf hf2
    · exact ref_arith3 A B f w hA hB hf hf2
    · exact ref_arith4 A B f w hA hB hf hf2
    · exact ref_arith5 A B f w hA hB hf hf2
    · exact ref_arith6 A B f w hA hB hf hf2
    · exact ref_arith7 A B f w hA hB hf hf2
end Go.Proofs.YtlbcodjkcjjoeabDoor
