/- ArenaStrangers: what it uses. -/
import Derived.Test.YteijdcidemajfaaAsE
import Derived.Test.YteijdcidemajfaaArY
namespace Go.Proofs.Yteijdcidemajfaa
open Go.RowKit
set_option linter.unusedVariables false
variable {K : Nat → Prop} {w w' W : World} {pb g xb b : Nat} {f : Nat → Int}
/-- four arenas; the first one has a buffer -/
structure Sg (W : World) (K : Nat → Prop) (pb b : Nat) (f : Nat → Int) (w : World) : Prop where
  at' : ∃ P blk, Pb W K pb P w ∧ P.ars = [some ⟨100, [⟨b, 1, 16, blk, f⟩]⟩, some ⟨100, []⟩, some ⟨100, []⟩, some ⟨100, []⟩, none]
  bn : b ≤ 3
theorem Sg.more (h : Sg W K pb b f w) (u : Up w w') : Sg W K pb b f w' := by
  obtain ⟨P, blk, h1, h2⟩ := h.at'
  exact ⟨⟨P, blk, h1.more u, h2⟩, h.bn⟩
theorem Sg.up (h : Sg W K pb b f w) : Up W w := by
  obtain ⟨P, blk, h1, h2⟩ := h.at'
  exact h1.up
theorem Hs.held {V : Value} (h : Hs W K pb 2 100 V 4 4 w) : ∃ g cap, V = .slice (some ⟨g, 0, none⟩) 4 cap ∧ 4 ≤ cap ∧ cap ≤ 9223372036854775807 ∧ w.cell? ⟨g, 0, none⟩ = some (.int .i64 0) ∧ w.cell? ⟨g, 3, none⟩ = some (.int .i64 1) ∧ K g := by
  rcases own_cases h.own with ⟨hv, hn, _⟩ | ⟨g, cap, hv, h2, h3, h4, h5⟩
  · omega
  · have ho := h.own
    rw [hv] at ho
    have e0 := own_cell ho 0 (by omega)
    have e3 := own_cell ho 3 (by omega)
    rw [Nat.zero_add] at e0 e3
    exact ⟨g, cap, hv, h2, by unfold maxLen at h3; omega, e0, e3, h.kv g h5⟩
theorem Hs.takeB {V : Value} (h : Hs W K pb 2 100 V 4 4 w) {pk : Int} (hpk : I64 pk) : Calls Try.prog 15 #[.pointer (some ⟨pb, 0, none⟩), .int .i64 0, .int .i64 16, .int .i64 pk] w fun e w' => ∃ b : Nat, e = .returned (.tuple #[.agg #[.int .i64 (b : Int), .int .i64 1, .int .i64 16], .int .i64 0]) ∧ Sg W K pb b (fun _ => 0) w' ∧ FK K w w' := by
  obtain ⟨P, h1, h2, h3⟩ := h.at'
  have hx : P.cls[1]? = some ⟨16, 2, 2, [2, 3]⟩ := by rw [h3]; rfl
  have ha : P.ars[0]? = some (some ⟨100, []⟩) := by rw [h2]; rfl
  have hlo := pickI_lo pk 2 (by decide)
  have hhi := pickI_hi pk 2 (by decide)
  obtain ⟨r, hr⟩ := Int.eq_ofNat_of_zero_le hlo
  have hr2 : r = 0 ∨ r = 1 := by omega
  refine (h1.take (i := 0) (c := 1) (r := r) (buf := 2 + r) (size := 16) (pk := pk) ⟨by decide, by decide⟩ hpk ha ⟨by decide, by decide⟩ (by decide) ?_ hx (by decide) hr ?_).mono fun e w' ⟨e1, ⟨blk, e2⟩, e3⟩ => ⟨2 + r, e1, ⟨⟨_, blk, e2, ?_⟩, by omega⟩, e3⟩
  · unfold Pl.classFor
    rw [h3]
    rfl
  · rcases hr2 with rfl | rfl <;> rfl
  · unfold Pl.taken Pl.setArn Pl.setFree
    dsimp only
    rw [h2]
    rfl
theorem Sg.add (h : Sg W K pb b f w) (u : Up w w') {c : Nat} (h1 : w.heap.size ≤ c) (h2 : c < w'.heap.size) : Sg W (fun b => K b ∨ b = c) pb b f w' := by
  obtain ⟨P, blk, g1, g2⟩ := h.at'
  exact ⟨⟨P, blk, g1.moreK u (fun b hb => hb.imp id (fun e => by omega)) (fun b hb => Or.inl (g1.ko b hb)), g2⟩, h.bn⟩
theorem Sg.store (h : Sg W K pb b (fun _ => 0) w) {gb : Nat} {fb : Nat → Int} (D : Byts w (some ⟨gb, 0, none⟩) gb 0 3 3 fb) (hk : K gb) : Calls Try.prog 19 #[.pointer (some ⟨pb, 0, none⟩), .int .i64 0, .int .i64 (b : Int), .int .i64 0, .slice (some ⟨gb, 0, none⟩) 3 3] w fun e w' => e = .returned (.int .i64 0) ∧ Sg W K pb b (fun j => if 0 ≤ j ∧ j < 0 + 3 then fb (j - 0) else 0) w' ∧ FK K w w' := by
  obtain ⟨P, blk, g1, g2⟩ := h.at'
  have ha : P.ars[0]? = some (some ⟨100, [⟨b, 1, 16, blk, fun _ => 0⟩]⟩) := by rw [g2]; rfl
  have hp : (⟨100, [⟨b, 1, 16, blk, fun _ => 0⟩]⟩ : Arn).place (b : Int) = 0 := by
    unfold Arn.place
    exact findIdx_hit (x := ⟨b, 1, 16, blk, fun _ => 0⟩) rfl (by simp) fun j y hj => absurd hj (by omega)
  have hb := h.bn
  refine (g1.store (i := 0) (p := 0) (A0 := 0) (b := (b : Int)) ⟨by omega, by omega⟩ (by decide) ha hp rfl (by show 0 + 3 ≤ 16; decide) D (fun _ => hk)).mono fun e w' ⟨e1, e2, e3⟩ => ⟨e1, ⟨⟨_, blk, e2, ?_⟩, h.bn⟩, e3⟩
  unfold Pl.stored Pl.setArn
  dsimp only
  rw [g2]
  rfl
/-- a buffer that an arena has not, an arena that is not open -/
theorem Sg.spanNo (h : Sg W K pb b f w) : ∃ P, Pb W K pb P w ∧ (∀ at' n, P.span 1 (b : Int) at' n = .err 97) ∧ (∀ k at' n : Int, k ≠ (b : Int) → P.span 0 k at' n = .err 97) ∧ (∀ k x at' n : Int, (k < 0 ∨ 4 ≤ k) → P.span k x at' n = .err 94) ∧ (∀ k : Int, (k < 0 ∨ 4 ≤ k) → P.arn k = none) ∧ P.ars[1]? = some (some ⟨100, []⟩) ∧ (∃ blk, P.ars[0]? = some (some ⟨100, [⟨b, 1, 16, blk, f⟩]⟩) ∧ P.span 0 (b : Int) 0 16 = .ok ⟨b, 1, 16, blk, f⟩ 0 16) := by
  obtain ⟨P, blk, g1, g2⟩ := h.at'
  have a0 : P.arn 0 = some ⟨100, [⟨b, 1, 16, blk, f⟩]⟩ := Pl.arn_nat (i := 0) (by rw [g2]; rfl)
  have a1 : P.arn 1 = some ⟨100, []⟩ := Pl.arn_nat (i := 1) (by rw [g2]; rfl)
  have an : ∀ k : Int, (k < 0 ∨ 4 ≤ k) → P.arn k = none := fun k hk => by
    unfold Pl.arn
    by_cases h0 : 0 ≤ k
    · rw [if_pos h0, g2]
      obtain ⟨m, hm⟩ : ∃ m, k.toNat = m + 4 := ⟨k.toNat - 4, by omega⟩
      rw [hm]
      cases m with
      | zero => rfl
      | succ m => rfl
    · rw [if_neg h0]
  refine ⟨P, g1, fun at' n => ?_, fun k at' n hk => ?_, fun k x at' n hk => ?_, an, by rw [g2]; rfl, blk, by rw [g2]; rfl, ?_⟩
  · unfold Pl.span
    rw [a1]
    rfl
  · unfold Pl.span
    rw [a0]
    have : (⟨100, [⟨b, 1, 16, blk, f⟩]⟩ : Arn).place k = 1 := by
      unfold Arn.place
      refine findIdx_none fun j y hy => ?_
      cases j with
      | zero =>
        simp at hy
        subst hy
        exact beq_eq_false_iff_ne.2 (fun e => hk e.symm)
      | succ j => simp at hy
    dsimp only
    rw [this]
    rfl
  · unfold Pl.span
    rw [an k hk]
  · unfold Pl.span
    rw [a0]
    have hp : (⟨100, [⟨b, 1, 16, blk, f⟩]⟩ : Arn).place (b : Int) = 0 := by
      unfold Arn.place
      exact findIdx_hit (x := ⟨b, 1, 16, blk, f⟩) rfl (by simp) fun j y hj => absurd hj (by omega)
    dsimp only
    rw [hp]
    rfl
theorem Sg.loadErr (h : Sg W K pb b f w) {id k e0 : Int} (hid : I64 id) (hk : I64 k) (hc : (id = 1 ∧ k = (b : Int) ∧ e0 = 97) ∨ (id = 0 ∧ k ≠ (b : Int) ∧ e0 = 97) ∨ ((id < 0 ∨ 4 ≤ id) ∧ e0 = 94)) : Calls Try.prog 20 #[.pointer (some ⟨pb, 0, none⟩), .int .i64 id, .int .i64 k, .int .i64 0, .int .i64 1] w fun e w' => e = .returned (.tuple #[.slice none 0 0, .int .i64 e0]) ∧ Up w w' := by
  obtain ⟨P, g1, s1, s2, s3, _⟩ := h.spanNo
  refine (g1.loadErr (e0 := e0) hid hk ⟨by decide, by decide⟩ ⟨by decide, by decide⟩ ?_).mono fun e w' ⟨e1, e2⟩ => ⟨e1, e2⟩
  rcases hc with ⟨rfl, rfl, rfl⟩ | ⟨rfl, hk, rfl⟩ | ⟨hi, rfl⟩
  · exact s1 _ _
  · exact s2 _ _ _ hk
  · exact s3 _ _ _ _ hi
theorem Sg.storeErr (h : Sg W K pb b f w) {id k e0 : Int} {ba : Option Addr} {bl bc : Nat} (hbl : bl ≤ 9223372036854775807) (hid : I64 id) (hk : I64 k) (hc : (id = 1 ∧ k = (b : Int) ∧ e0 = 97) ∨ (id = 0 ∧ k ≠ (b : Int) ∧ e0 = 97) ∨ ((id < 0 ∨ 4 ≤ id) ∧ e0 = 94)) : Calls Try.prog 19 #[.pointer (some ⟨pb, 0, none⟩), .int .i64 id, .int .i64 k, .int .i64 0, .slice ba bl bc] w fun e w' => e = .returned (.int .i64 e0) ∧ Up w w' := by
  obtain ⟨P, g1, s1, s2, s3, _⟩ := h.spanNo
  refine (g1.storeErr (e0 := e0) hid hk ⟨by decide, by decide⟩ hbl ?_).mono fun e w' ⟨e1, e2⟩ => ⟨e1, e2⟩
  rcases hc with ⟨rfl, rfl, rfl⟩ | ⟨rfl, hk, rfl⟩ | ⟨hi, rfl⟩
  · exact s1 _ _
  · exact s2 _ _ _ hk
  · exact s3 _ _ _ _ hi
theorem Sg.giveErr (h : Sg W K pb b f w) {id k e0 : Int} (hid : I64 id) (hk : I64 k) (hc : (id = 1 ∧ k = (b : Int) ∧ e0 = 97) ∨ (id = 0 ∧ k ≠ (b : Int) ∧ e0 = 97) ∨ ((id < 0 ∨ 4 ≤ id) ∧ e0 = 94)) : Calls Try.prog 18 #[.pointer (some ⟨pb, 0, none⟩), .int .i64 id, .int .i64 k] w fun e w' => e = .returned (.int .i64 e0) ∧ Up w w' := by
  obtain ⟨P, g1, s1, s2, s3, s4, s5, blk, s6, _⟩ := h.spanNo
  rcases hc with ⟨rfl, rfl, rfl⟩ | ⟨rfl, hk', rfl⟩ | ⟨hi, rfl⟩
  · exact (g1.giveErr (i := 1) hk s5 (by show ¬ _ < 0; omega)).mono fun e w' ⟨e1, e2⟩ => ⟨e1, e2⟩
  · refine (g1.giveErr (i := 0) hk s6 ?_).mono fun e w' ⟨e1, e2⟩ => ⟨e1, e2⟩
    have : (⟨100, [⟨b, 1, 16, blk, f⟩]⟩ : Arn).place k = 1 := by
      unfold Arn.place
      refine findIdx_none fun j y hy => ?_
      cases j with
      | zero =>
        simp at hy
        subst hy
        exact beq_eq_false_iff_ne.2 (fun e => hk' e.symm)
      | succ j => simp at hy
    rw [this]
    show ¬ 1 < 1
    decide
  · obtain ⟨R, A, hp⟩ := g1.at'
    exact (give_none hid hk hp g1.ok (s4 _ hi)).mono fun e w' ⟨e1, e2⟩ => ⟨e1, e2⟩
theorem Sg.noArena (h : Sg W K pb b f w) {id : Int} (hid : I64 id) (hi : id < 0 ∨ 4 ≤ id) :
    (Calls Try.prog 15 #[.pointer (some ⟨pb, 0, none⟩), .int .i64 id, .int .i64 1, .int .i64 0] w fun e w' => e = .returned (.tuple #[.agg #[.int .i64 0, .int .i64 0, .int .i64 0], .int .i64 94]) ∧ Up w w') ∧
    (Calls Try.prog 13 #[.pointer (some ⟨pb, 0, none⟩), .int .i64 id] w fun e w' => e = .returned (.tuple #[.int .i64 0, .int .i64 94]) ∧ w' = w) ∧
    (Calls Try.prog 16 #[.pointer (some ⟨pb, 0, none⟩), .int .i64 id] w fun e w' => e = .returned (.tuple #[.int .i64 0, .int .i64 94]) ∧ w' = w) ∧
    (Calls Try.prog 17 #[.pointer (some ⟨pb, 0, none⟩), .int .i64 id] w fun e w' => e = .returned (.slice none 0 0) ∧ w' = w) := by
  obtain ⟨P, g1, s1, s2, s3, s4, _⟩ := h.spanNo
  obtain ⟨R, A, hp⟩ := g1.at'
  exact ⟨(take_none hid hp g1.ok (s4 _ hi)).mono fun e w' ⟨e1, e2⟩ => ⟨e1, e2⟩, g1.closeNone hid (s4 _ hi), g1.usedNone hid (s4 _ hi), leases_none hid hp g1.ok (s4 _ hi)⟩
set_option maxRecDepth 100000 in
theorem Sg.load (h : Sg W K pb b f w) : Calls Try.prog 20 #[.pointer (some ⟨pb, 0, none⟩), .int .i64 0, .int .i64 (b : Int), .int .i64 0, .int .i64 16] w fun e w' => ∃ g cap, e = .returned (.tuple #[.slice (some ⟨g, 0, none⟩) 16 cap, .int .i64 0]) ∧ 16 ≤ cap ∧ cap ≤ 9223372036854775807 ∧ (∀ k, k < 16 → w'.cell? ⟨g, k, none⟩ = some (.int .u8 (f k))) ∧ Up w w' := by
  obtain ⟨P, g1, s1, s2, s3, s4, s5, blk, s6, s7⟩ := h.spanNo
  have hb := h.bn
  refine (g1.load (id := 0) (b := (b : Int)) (at' := 0) (n := 16) (l := ⟨b, 1, 16, blk, f⟩) (A0 := 0) (N0 := 16) ⟨by decide, by decide⟩ ⟨by omega, by omega⟩ ⟨by decide, by decide⟩ ⟨by decide, by decide⟩ s7).mono fun e w' ⟨g, cap, e1, e2, e3, e4⟩ => ⟨g, cap, e1, e3.nc, by have := e3.cm; unfold maxLen at this; omega, fun k hk => ?_, e4⟩
  have := e3.cell k hk
  rw [this]
  show some (Value.int .u8 (f (0 + k))) = _
  rw [Nat.zero_add]
end Go.Proofs.Yteijdcidemajfaa
