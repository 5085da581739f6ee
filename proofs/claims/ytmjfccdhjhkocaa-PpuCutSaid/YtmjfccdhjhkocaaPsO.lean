/- Up to ten sprites, sorted. -/
import Derived.Test.YtmjfccdhjhkocaaPsN
import Derived.Deep.RegionHeld3
import Derived.Deep.MidRow
namespace Go.Proofs.Ytmjfccdhjhkocaa
open Go.RowKit
set_option linter.unusedVariables false
variable {b : Nat} {p : Pic}
theorem LsAt.rangeS {w : World} {g : Nat} {l : List Spr} (h : LsAt w g l) {j : Nat} {s : Spr} (hj : l[j]? = some s) : w.rangeAt g (j * 4) [.int .u8 s.row, .int .u8 s.col, .int .u8 s.tile, .int .u8 s.flg] := by
  obtain ⟨cs, ty, h1, h2, h3⟩ := h.row
  intro k v hv
  rw [cell_of_row _ _ _ _ _ _ h1]
  have hk : k < 4 := by have := (List.getElem?_eq_some_iff.1 hv).1; simpa using this
  rw [show j * 4 + k = 4 * j + k by omega, h3 j s hj k hk]
  have hk' : k = 0 ∨ k = 1 ∨ k = 2 ∨ k = 3 := by omega
  rcases hk' with rfl | rfl | rfl | rfl <;> exact hv
theorem Fr.cellsS {W w : World} {g : Nat} (h : Fr g W w) : ∀ (vs : List Value) (o : Nat), Fr g W (w.setCells g o vs) := by
  intro vs
  induction vs generalizing w with
  | nil => intro o; exact h
  | cons v vs ih => intro o; exact ih (h.setCell (k := o) (v := v)) (o + 1)
set_option maxRecDepth 100000 in
set_option maxHeartbeats 4000000 in
theorem insertionS_any (g n : Nat) (hn : n ≤ 10) (l : List Spr) (hl : l.length = n) (W : World) (h : LsAt W g l) : Calls Try.prog 94 #[.slice (some ⟨g, 0, none⟩) n 10, .int .i64 0, .int .i64 (n : Int), .func (.func 82) #[] #[]] W fun e w' => e = .returned (.tuple #[]) ∧ LsAt w' g (sortTo n l) ∧ Fr g W w' := by
  have H0 : Hid (LsAt W g (sortTo 1 l) ∧ Fr g W W) := ⟨h, Fr.refl _ _⟩
  have HC : Hid (∀ (s t : Spr) W, Calls Try.prog 82 #[.agg #[.int .u8 s.row, .int .u8 s.col, .int .u8 s.tile, .int .u8 s.flg], .agg #[.int .u8 t.row, .int .u8 t.col, .int .u8 t.tile, .int .u8 t.flg]] W fun e w' => e = .returned (.int .i64 (cmpI s.col t.col)) ∧ Up W w') := fun s t W => cmpS_any s t W
  have HL : Hid (l.length = n) := hl
  clear h hl
  go_enter Try.func94, Try.ntmps94
  go_wp2_with fail
  go_loopw [8] (fun I wr => ∃ i : Nat, 1 ≤ i ∧ (i ≤ n ∨ i = 1) ∧ I = .int .i64 i ∧ Hid (LsAt wr g (sortTo i l) ∧ Fr g W wr)) (fun I _ => n - (intOf I).toNat)
  case atStart => exact ⟨1, by omega, Or.inr rfl, rfl, H0⟩
  case round =>
    clear H0
    obtain ⟨i, hi1, hi2, rfl, M0⟩ := hrel
    by_cases hlt : i < n
    · have d1 : decide ((i : Int) < (n : Int)) = true := decide_eq_true (by omega)
      have e1 : (i : Int) < (n : Int) := by omega
      have M1 : Hid (insTo i (sortTo i l) = sortTo (i + 1) l ∧ (sortTo i l).length = n ∧ LsAt wr g (sortTo i l) ∧ Fr g W wr) := ⟨rfl, by rw [sortTo_len]; exact HL.out, M0.out⟩
      clear M0
      go_wp2_with fail
      go_loopw [9] (fun J wr => ∃ (j : Nat) (m : List Spr), j ≤ i ∧ J = .int .i64 j ∧ Hid (insTo j m = sortTo (i + 1) l ∧ m.length = n ∧ LsAt wr g m ∧ Fr g W wr)) (fun J _ => (intOf J).toNat)
      case atStart => exact ⟨i, _, by omega, rfl, M1⟩
      case round =>
        clear M1
        obtain ⟨j, m, hj, rfl, M2⟩ := hrel
        by_cases hj0 : j = 0
        · subst hj0
          have M3 : Hid (LsAt wr g (sortTo (i + 1) l) ∧ Fr g W wr) := ⟨by have := M2.out.1; rw [← this]; exact M2.out.2.2.1, M2.out.2.2.2⟩
          clear M2
          go_wp2_with fail
          go_quiet (fail)
          go_wp2_with fail
          refine ⟨⟨i + 1, by omega, Or.inl (by omega), ?_, ⟨M3.out.1.of_block ((Up.drewN _ _).block _ M3.out.1.lt), M3.out.2.trans (Fr.ofUp (Up.drewN _ _))⟩⟩, ?_⟩
          · first | rfl | (simp; done)
          · simp [intOf]
            omega
        · obtain ⟨J, hJ⟩ : ∃ J, j = J + 1 := ⟨j - 1, by omega⟩
          obtain ⟨s, hs⟩ : ∃ s, m[J + 1]? = some s := ⟨_, List.getElem?_eq_getElem (by have := M2.out.2.1; omega)⟩
          obtain ⟨t, ht⟩ : ∃ t, m[J]? = some t := ⟨_, List.getElem?_eq_getElem (by have := M2.out.2.1; omega)⟩
          have HJ : Hid (insTo j m = if s.col < t.col then insTo J (swapL m J s t) else m) := by
            show insTo j m = _
            rw [hJ]
            show (match m[J + 1]?, m[J]? with | some s, some t => if s.col < t.col then insTo J (swapL m J s t) else m | _, _ => m) = _
            rw [hs, ht]
          have q0 : decide ((0 : Int) < (j : Int)) = true := decide_eq_true (by omega)
          have q1 : ((j : Int) - 1).toNat = J := by omega
          have qw : IntKind.i64.wrap ((j : Int) - 1) = (J : Int) := by rw [show (j : Int) - 1 = (J : Int) by omega]; simp [IntKind.wrap, IntKind.bits, IntKind.signed]; omega
          have q6 : (J : Int) < (n : Int) := by omega
          have q7 : J < 10 := by omega
          have q8 : j < 10 := by omega
          have q5 : decide (0 < j) = true := decide_eq_true (by omega)
          have q2 : (0 : Int) < (j : Int) := by omega
          have q3 : (j : Int) < (n : Int) := by omega
          have HK : Hid (∀ w' : World, w'.heap[g]? = wr.heap[g]? → w'.rangeAt g (j * 4) [.int .u8 s.row, .int .u8 s.col, .int .u8 s.tile, .int .u8 s.flg] ∧ w'.rangeAt g (J * 4) [.int .u8 t.row, .int .u8 t.col, .int .u8 t.tile, .int .u8 t.flg]) := fun w' e => ⟨by rw [hJ]; exact (M2.out.2.2.1.of_block e).rangeS hs, (M2.out.2.2.1.of_block e).rangeS ht⟩
          have HU : Hid (Up wr wr.drew) := (Up.refl _).drew
          have HST : Hid (m[J + 1]? = some s ∧ m[J]? = some t ∧ j = J + 1) := ⟨hs, ht, hJ⟩
          clear hs ht hJ hj0
          go_wp2_with fail
          refine wp_region_held_drew (S := fun w' => w'.rangeAt g (j * 4) [.int .u8 s.row, .int .u8 s.col, .int .u8 s.tile, .int .u8 s.flg] ∧ w'.rangeAt g (J * 4) [.int .u8 t.row, .int .u8 t.col, .int .u8 t.tile, .int .u8 t.flg]) (by kernel_rfl) ?_ (fun hHeld => ?_)
          · (try dsimp only); exact HK.out _ rfl
          refine wpAnyH_take (i := 0) (v := ?_) (by simp only [List.getElem?_toArray, List.getElem?_cons_zero]; rfl) (by kernel_rfl) (by kernel_rfl) (by kernel_rfl) (by intro _ _ _ h; exact h) (Or.inl ⟨by rfl, ?_⟩) (by assumption) ?_
          rotate_left
          · (intro w hSw; (try dsimp only at hSw); go_simp <;> with_reducible rfl)
          try simp only [Act.put, List.setIfInBounds_toArray, List.set_cons_zero, List.set_cons_succ]
          refine wpAnyH_take (i := 1) (v := ?_) (by simp only [List.getElem?_toArray, List.getElem?_cons_succ, List.getElem?_cons_zero]; rfl) (by kernel_rfl) (by kernel_rfl) (by kernel_rfl) (by intro _ _ _ h; exact h) (Or.inl ⟨by rfl, ?_⟩) (by assumption) ?_
          rotate_left
          · (intro w hSw; (try dsimp only at hSw); go_simp <;> with_reducible rfl)
          try simp only [Act.put, List.setIfInBounds_toArray, List.set_cons_zero, List.set_cons_succ]
          refine wpAnyH_take (i := 2) (v := ?_) (by simp only [List.getElem?_toArray, List.getElem?_cons_succ, List.getElem?_cons_zero]; rfl) (by kernel_rfl) (by kernel_rfl) (by kernel_rfl) (by intro _ _ _ h; exact h) (Or.inl ⟨by rfl, ?_⟩) (by assumption) ?_
          rotate_left
          · (intro w hSw; (try dsimp only at hSw); go_simp <;> with_reducible rfl)
          try simp only [Act.put, List.setIfInBounds_toArray, List.set_cons_zero, List.set_cons_succ]
          try simp only [q5]
          refine wpAnyH_take (i := 3) (v := ?_) (by simp only [List.getElem?_toArray, List.getElem?_cons_succ, List.getElem?_cons_zero]; rfl) (by kernel_rfl) (by kernel_rfl) (by kernel_rfl) (by intro _ _ _ h; exact h) (Or.inl ⟨by rfl, ?_⟩) (by assumption) ?_
          rotate_left
          · (intro w hSw; (try dsimp only at hSw); go_simp <;> with_reducible rfl)
          try simp only [Act.put, List.setIfInBounds_toArray, List.set_cons_zero, List.set_cons_succ]
          refine wpAnyH_take (i := 4) (v := ?_) (by simp only [List.getElem?_toArray, List.getElem?_cons_succ, List.getElem?_cons_zero]; rfl) (by kernel_rfl) (by kernel_rfl) (by kernel_rfl) (by intro _ _ _ h; exact h) (Or.inl ⟨by rfl, ?_⟩) (by assumption) ?_
          rotate_left
          · (intro w hSw; (try dsimp only at hSw); go_simp <;> with_reducible rfl)
          try simp only [Act.put, List.setIfInBounds_toArray, List.set_cons_zero, List.set_cons_succ]
          refine wpAnyH_take (i := 5) (v := ?_) (by simp only [List.getElem?_toArray, List.getElem?_cons_succ, List.getElem?_cons_zero]; rfl) (by kernel_rfl) (by kernel_rfl) (by kernel_rfl) (by intro _ _ _ h; exact h) (Or.inl ⟨by rfl, ?_⟩) (by assumption) ?_
          rotate_left
          · (intro w hSw; (try dsimp only at hSw); go_simp <;> with_reducible rfl)
          try simp only [Act.put, List.setIfInBounds_toArray, List.set_cons_zero, List.set_cons_succ]
          refine wpAnyH_take (i := 6) (v := ?_) (by simp only [List.getElem?_toArray, List.getElem?_cons_succ, List.getElem?_cons_zero]; rfl) (by kernel_rfl) (by kernel_rfl) (by kernel_rfl) (by intro _ _ _ h; exact h) (Or.inl ⟨by rfl, ?_⟩) (by assumption) ?_
          rotate_left
          · (intro w hSw; (try dsimp only at hSw); go_simp <;> with_reducible rfl)
          try simp only [Act.put, List.setIfInBounds_toArray, List.set_cons_zero, List.set_cons_succ]
          refine wpAnyH_take (i := 7) (v := ?_) (by simp only [List.getElem?_toArray, List.getElem?_cons_succ, List.getElem?_cons_zero]; rfl) (by kernel_rfl) (by kernel_rfl) (by kernel_rfl) (by intro _ _ _ h; exact h) (Or.inl ⟨by rfl, ?_⟩) (by assumption) ?_
          rotate_left
          · (intro w hSw; (try dsimp only at hSw); go_simp <;> with_reducible rfl)
          try simp only [Act.put, List.setIfInBounds_toArray, List.set_cons_zero, List.set_cons_succ]
          refine wpAnyH_take (i := 8) (v := .agg [.int .u8 s.row, .int .u8 s.col, .int .u8 s.tile, .int .u8 s.flg].toArray) (by simp only [List.getElem?_toArray, List.getElem?_cons_succ, List.getElem?_cons_zero]; rfl) (by kernel_rfl) (by kernel_rfl) (by kernel_rfl) (by intro _ _ _ h; exact h) (yieldsIf_load_mid (by rfl) 100 _ rfl g (j * 4) rfl [.int .u8 s.row, .int .u8 s.col, .int .u8 s.tile, .int .u8 s.flg] _ (fun w hw => hw.1) Try.underlying100 rfl (by kernel_rfl)) (by assumption) ?_
          try simp only [Act.put, List.setIfInBounds_toArray, List.set_cons_zero, List.set_cons_succ]
          refine wpAnyH_take (i := 9) (v := ?_) (by simp only [List.getElem?_toArray, List.getElem?_cons_succ, List.getElem?_cons_zero]; rfl) (by kernel_rfl) (by kernel_rfl) (by kernel_rfl) (by intro _ _ _ h; exact h) (Or.inl ⟨by rfl, ?_⟩) (by assumption) ?_
          rotate_left
          · (intro w hSw; (try dsimp only at hSw); go_simp <;> with_reducible rfl)
          try simp only [Act.put, List.setIfInBounds_toArray, List.set_cons_zero, List.set_cons_succ]
          refine wpAnyH_take (i := 10) (v := ?_) (by simp only [List.getElem?_toArray, List.getElem?_cons_succ, List.getElem?_cons_zero]; rfl) (by kernel_rfl) (by kernel_rfl) (by kernel_rfl) (by intro _ _ _ h; exact h) (Or.inl ⟨by rfl, ?_⟩) (by assumption) ?_
          rotate_left
          · (intro w hSw; (try dsimp only at hSw); go_simp <;> with_reducible rfl)
          try simp only [Act.put, List.setIfInBounds_toArray, List.set_cons_zero, List.set_cons_succ]
          refine wpAnyH_take (i := 11) (v := ?_) (by simp only [List.getElem?_toArray, List.getElem?_cons_succ, List.getElem?_cons_zero]; rfl) (by kernel_rfl) (by kernel_rfl) (by kernel_rfl) (by intro _ _ _ h; exact h) (Or.inl ⟨by rfl, ?_⟩) (by assumption) ?_
          rotate_left
          · (intro w hSw; (try dsimp only at hSw); go_simp <;> with_reducible rfl)
          try simp only [Act.put, List.setIfInBounds_toArray, List.set_cons_zero, List.set_cons_succ]
          try simp only [qw]
          refine wpAnyH_take (i := 12) (v := ?_) (by simp only [List.getElem?_toArray, List.getElem?_cons_succ, List.getElem?_cons_zero]; rfl) (by kernel_rfl) (by kernel_rfl) (by kernel_rfl) (by intro _ _ _ h; exact h) (Or.inl ⟨by rfl, ?_⟩) (by assumption) ?_
          rotate_left
          · (intro w hSw; (try dsimp only at hSw); go_simp <;> with_reducible rfl)
          try simp only [Act.put, List.setIfInBounds_toArray, List.set_cons_zero, List.set_cons_succ]
          refine wpAnyH_take (i := 13) (v := .agg [.int .u8 t.row, .int .u8 t.col, .int .u8 t.tile, .int .u8 t.flg].toArray) (by simp only [List.getElem?_toArray, List.getElem?_cons_succ, List.getElem?_cons_zero]; rfl) (by kernel_rfl) (by kernel_rfl) (by kernel_rfl) (by intro _ _ _ h; exact h) (yieldsIf_load_mid (by rfl) 100 _ rfl g (J * 4) rfl [.int .u8 t.row, .int .u8 t.col, .int .u8 t.tile, .int .u8 t.flg] _ (fun w hw => hw.2) Try.underlying100 rfl (by kernel_rfl)) (by assumption) ?_
          try simp only [Act.put, List.setIfInBounds_toArray, List.set_cons_zero, List.set_cons_succ]
          refine wpAnyH_ready (rs := [14]) (by kernel_rfl) (by simp) ?_
          refine AllReadyH.cons (by simp only [List.getElem?_toArray, List.getElem?_cons_succ, List.getElem?_cons_zero]; rfl) (fun K hK => ?_) AllReadyH.nil
          go_simp
          refine (HC.out s t _).mono ?_
          rintro e w5 ⟨rfl, u5⟩
          refine hK.out _ _ ?_ (fun _ => ?_)
          · (try dsimp only); exact HK.out _ ((HU.out.trans u5).block _ M2.out.2.2.1.lt)
          clear hK K
          try simp only [Act.put, List.setIfInBounds_toArray, List.set_cons_zero, List.set_cons_succ]
          have H5 : Hid (LsAt w5 g m ∧ Fr g W w5) := ⟨M2.out.2.2.1.of_block ((HU.out.trans u5).block _ M2.out.2.2.1.lt), M2.out.2.2.2.trans (Fr.ofUp (HU.out.trans u5))⟩
          by_cases hc : s.col < t.col
          · have ec : cmpI s.col t.col = -1 := if_pos hc
            rw [ec]
            refine wpAnyH_take (i := 15) (v := ?_) (by simp only [List.getElem?_toArray, List.getElem?_cons_succ, List.getElem?_cons_zero]; rfl) (by kernel_rfl) (by kernel_rfl) (by kernel_rfl) (by intro _ _ _ h; exact h) (Or.inl ⟨by rfl, ?_⟩) (by assumption) ?_
            rotate_left
            · (intro w hSw; (try dsimp only at hSw); go_simp <;> with_reducible rfl)
            try simp only [Act.put, List.setIfInBounds_toArray, List.set_cons_zero, List.set_cons_succ]
            refine wpAnyH_take (i := 16) (v := ?_) (by simp only [List.getElem?_toArray, List.getElem?_cons_succ, List.getElem?_cons_zero]; rfl) (by kernel_rfl) (by kernel_rfl) (by kernel_rfl) (by intro _ _ _ h; exact h) (Or.inl ⟨by rfl, ?_⟩) (by assumption) ?_
            rotate_left
            · (intro w hSw; (try dsimp only at hSw); go_simp <;> with_reducible rfl)
            try simp only [Act.put, List.setIfInBounds_toArray, List.set_cons_zero, List.set_cons_succ]
            refine wpAnyH_done (by kernel_rfl) ?_ _
            go_wp2_with fail
            have H6 : Hid (LsAt w5.drew g m ∧ Fr g W w5.drew) := ⟨H5.out.1.of_block rfl, H5.out.2.trans (Fr.ofUp (Up.refl _).drew)⟩
            have HR6 : Hid (w5.drew.rangeAt g (j * 4) [.int .u8 s.row, .int .u8 s.col, .int .u8 s.tile, .int .u8 s.flg] ∧ w5.drew.rangeAt g (J * 4) [.int .u8 t.row, .int .u8 t.col, .int .u8 t.tile, .int .u8 t.flg]) := ⟨by have := H6.out.1.rangeS HST.out.1; rw [← HST.out.2.2] at this; exact this, H6.out.1.rangeS HST.out.2.1⟩
            have HT6 : Hid (w5.drew.there g (j * 4) 4) := by have := H6.out.1.there j q8; rw [Nat.zero_add] at this; exact this
            have hm5 : m.length = n := M2.out.2.1
            have H7 : Hid (LsAt (w5.drew.setCells g (j * 4) [.int .u8 t.row, .int .u8 t.col, .int .u8 t.tile, .int .u8 t.flg]) g (m.set j t)) := by have := H6.out.1.put j (by rw [hm5]; omega) (by omega) t; rw [Nat.zero_add] at this; exact this
            have HT7 : Hid ((w5.drew.setCells g (j * 4) [.int .u8 t.row, .int .u8 t.col, .int .u8 t.tile, .int .u8 t.flg]).there g (J * 4) 4) := by have := H7.out.there J q7; rw [Nat.zero_add] at this; exact this
            have H8 : Hid (LsAt ((w5.drew.setCells g (j * 4) [.int .u8 t.row, .int .u8 t.col, .int .u8 t.tile, .int .u8 t.flg]).setCells g (J * 4) [.int .u8 s.row, .int .u8 s.col, .int .u8 s.tile, .int .u8 s.flg]) g ((m.set j t).set J s)) := by have := H7.out.put J (by rw [List.length_set, hm5]; omega) (by rw [List.length_set]; omega) s; rw [Nat.zero_add] at this; exact this
            have qj := HST.out.2.2
            have HEnd : Hid (insTo J (swapL m J s t) = sortTo (i + 1) l ∧ (swapL m J s t).length = n ∧ LsAt ((w5.drew.setCells g (j * 4) [.int .u8 t.row, .int .u8 t.col, .int .u8 t.tile, .int .u8 t.flg]).setCells g (J * 4) [.int .u8 s.row, .int .u8 s.col, .int .u8 s.tile, .int .u8 s.flg]) g (swapL m J s t) ∧ Fr g W ((w5.drew.setCells g (j * 4) [.int .u8 t.row, .int .u8 t.col, .int .u8 t.tile, .int .u8 t.flg]).setCells g (J * 4) [.int .u8 s.row, .int .u8 s.col, .int .u8 s.tile, .int .u8 s.flg])) := by
              refine ⟨?_, by rw [swapL_len]; exact hm5, ?_, (H6.out.2.cellsS _ _).cellsS _ _⟩
              · have := M2.out.1
                rw [HJ.out, if_pos hc] at this
                exact this
              · have h8 := H8.out
                have e8 : (m.set j t).set J s = swapL m J s t := by unfold swapL; rw [qj]
                rw [e8] at h8
                exact h8
            clear H7 H8 H5 H6 M2 qj
            refine wp_region_held_drew (S := fun _ => True) (by kernel_rfl) trivial (fun hHeld => ?_)
            refine wpAnyH_take (i := 0) (v := ?_) (by simp only [List.getElem?_toArray, List.getElem?_cons_zero]; rfl) (by kernel_rfl) (by kernel_rfl) (by kernel_rfl) (by intro _ _ _ h; exact h) (Or.inl ⟨by rfl, ?_⟩) (by assumption) ?_
            rotate_left
            · (intro w hSw; (try dsimp only at hSw); go_simp <;> with_reducible rfl)
            try simp only [Act.put, List.setIfInBounds_toArray, List.set_cons_zero, List.set_cons_succ]
            refine wpAnyH_take (i := 1) (v := ?_) (by simp only [List.getElem?_toArray, List.getElem?_cons_succ, List.getElem?_cons_zero]; rfl) (by kernel_rfl) (by kernel_rfl) (by kernel_rfl) (by intro _ _ _ h; exact h) (Or.inl ⟨by rfl, ?_⟩) (by assumption) ?_
            rotate_left
            · (intro w hSw; (try dsimp only at hSw); go_simp <;> with_reducible rfl)
            try simp only [Act.put, List.setIfInBounds_toArray, List.set_cons_zero, List.set_cons_succ]
            refine wpAnyH_take (i := 2) (v := ?_) (by simp only [List.getElem?_toArray, List.getElem?_cons_succ, List.getElem?_cons_zero]; rfl) (by kernel_rfl) (by kernel_rfl) (by kernel_rfl) (by intro _ _ _ h; exact h) (Or.inl ⟨by rfl, ?_⟩) (by assumption) ?_
            rotate_left
            · (intro w hSw; (try dsimp only at hSw); go_simp <;> with_reducible rfl)
            try simp only [Act.put, List.setIfInBounds_toArray, List.set_cons_zero, List.set_cons_succ]
            refine wpAnyH_take (i := 3) (v := ?_) (by simp only [List.getElem?_toArray, List.getElem?_cons_succ, List.getElem?_cons_zero]; rfl) (by kernel_rfl) (by kernel_rfl) (by kernel_rfl) (by intro _ _ _ h; exact h) (Or.inl ⟨by rfl, ?_⟩) (by assumption) ?_
            rotate_left
            · (intro w hSw; (try dsimp only at hSw); go_simp <;> with_reducible rfl)
            try simp only [Act.put, List.setIfInBounds_toArray, List.set_cons_zero, List.set_cons_succ]
            refine wpAnyH_take (i := 4) (v := ?_) (by simp only [List.getElem?_toArray, List.getElem?_cons_succ, List.getElem?_cons_zero]; rfl) (by kernel_rfl) (by kernel_rfl) (by kernel_rfl) (by intro _ _ _ h; exact h) (Or.inl ⟨by rfl, ?_⟩) (by assumption) ?_
            rotate_left
            · (intro w hSw; (try dsimp only at hSw); go_simp <;> with_reducible rfl)
            try simp only [Act.put, List.setIfInBounds_toArray, List.set_cons_zero, List.set_cons_succ]
            try simp only [qw]
            refine wpAnyH_take (i := 5) (v := ?_) (by simp only [List.getElem?_toArray, List.getElem?_cons_succ, List.getElem?_cons_zero]; rfl) (by kernel_rfl) (by kernel_rfl) (by kernel_rfl) (by intro _ _ _ h; exact h) (Or.inl ⟨by rfl, ?_⟩) (by assumption) ?_
            rotate_left
            · (intro w hSw; (try dsimp only at hSw); go_simp <;> with_reducible rfl)
            try simp only [Act.put, List.setIfInBounds_toArray, List.set_cons_zero, List.set_cons_succ]
            refine wpAnyH_take (i := 6) (v := ?_) (by simp only [List.getElem?_toArray, List.getElem?_cons_succ, List.getElem?_cons_zero]; rfl) (by kernel_rfl) (by kernel_rfl) (by kernel_rfl) (by intro _ _ _ h; exact h) (Or.inl ⟨by rfl, ?_⟩) (by assumption) ?_
            rotate_left
            · (intro w hSw; (try dsimp only at hSw); go_simp <;> with_reducible rfl)
            try simp only [Act.put, List.setIfInBounds_toArray, List.set_cons_zero, List.set_cons_succ]
            refine wpAnyH_take (i := 7) (v := ?_) (by simp only [List.getElem?_toArray, List.getElem?_cons_succ, List.getElem?_cons_zero]; rfl) (by kernel_rfl) (by kernel_rfl) (by kernel_rfl) (by intro _ _ _ h; exact h) (Or.inl ⟨by rfl, ?_⟩) (by assumption) ?_
            rotate_left
            · (intro w hSw; (try dsimp only at hSw); go_simp <;> with_reducible rfl)
            try simp only [Act.put, List.setIfInBounds_toArray, List.set_cons_zero, List.set_cons_succ]
            try simp only [qw]
            refine wpAnyH_take (i := 8) (v := ?_) (by simp only [List.getElem?_toArray, List.getElem?_cons_succ, List.getElem?_cons_zero]; rfl) (by kernel_rfl) (by kernel_rfl) (by kernel_rfl) (by intro _ _ _ h; exact h) (Or.inl ⟨by rfl, ?_⟩) (by assumption) ?_
            rotate_left
            · (intro w hSw; (try dsimp only at hSw); go_simp <;> with_reducible rfl)
            try simp only [Act.put, List.setIfInBounds_toArray, List.set_cons_zero, List.set_cons_succ]
            refine wpAnyH_take (i := 10) (v := ?_) (by simp only [List.getElem?_toArray, List.getElem?_cons_succ, List.getElem?_cons_zero]; rfl) (by kernel_rfl) (by kernel_rfl) (by kernel_rfl) (by intro _ _ _ h; exact h) (Or.inl ⟨by rfl, ?_⟩) (by assumption) ?_
            rotate_left
            · (intro w hSw; (try dsimp only at hSw); go_simp <;> with_reducible rfl)
            try simp only [Act.put, List.setIfInBounds_toArray, List.set_cons_zero, List.set_cons_succ]
            refine wpAnyH_take (i := 11) (v := ?_) (by simp only [List.getElem?_toArray, List.getElem?_cons_succ, List.getElem?_cons_zero]; rfl) (by kernel_rfl) (by kernel_rfl) (by kernel_rfl) (by intro _ _ _ h; exact h) (Or.inl ⟨by rfl, ?_⟩) (by assumption) ?_
            rotate_left
            · (intro w hSw; (try dsimp only at hSw); go_simp <;> with_reducible rfl)
            try simp only [Act.put, List.setIfInBounds_toArray, List.set_cons_zero, List.set_cons_succ]
            refine wpAnyH_take (i := 12) (v := ?_) (by simp only [List.getElem?_toArray, List.getElem?_cons_succ, List.getElem?_cons_zero]; rfl) (by kernel_rfl) (by kernel_rfl) (by kernel_rfl) (by intro _ _ _ h; exact h) (Or.inl ⟨by rfl, ?_⟩) (by assumption) ?_
            rotate_left
            · (intro w hSw; (try dsimp only at hSw); go_simp <;> with_reducible rfl)
            try simp only [Act.put, List.setIfInBounds_toArray, List.set_cons_zero, List.set_cons_succ]
            refine wpAnyH_ready (rs := [9, 13]) (by decide +kernel) (by simp) ?_
            refine AllReadyH.cons (by simp only [List.getElem?_toArray, List.getElem?_cons_succ, List.getElem?_cons_zero]; rfl) (fun K hK => ?_) (AllReadyH.cons (by simp only [List.getElem?_toArray, List.getElem?_cons_succ, List.getElem?_cons_zero]; rfl) (fun K hK => ?_) AllReadyH.nil)
            · rw [if_pos (by rfl)]
              refine wp_load_mid 100 _ rfl g (J * 4) rfl [.int .u8 t.row, .int .u8 t.col, .int .u8 t.tile, .int .u8 t.flg] _ HR6.out.2 Try.underlying100 rfl (by kernel_rfl) ?_
              refine hK.out _ _ trivial (fun _ => ?_)
              clear hK K
              try simp only [Act.put, List.setIfInBounds_toArray, List.set_cons_zero, List.set_cons_succ]
              refine wpAnyH_ready (rs := [13]) (by decide +kernel) (by simp) ?_
              refine AllReadyH.cons (by simp only [List.getElem?_toArray, List.getElem?_cons_succ, List.getElem?_cons_zero]; rfl) (fun K hK => ?_) AllReadyH.nil
              rw [if_pos (by rfl)]
              refine wp_load_mid 100 _ rfl g (j * 4) rfl [.int .u8 s.row, .int .u8 s.col, .int .u8 s.tile, .int .u8 s.flg] _ HR6.out.1 Try.underlying100 rfl (by kernel_rfl) ?_
              refine hK.out _ _ trivial (fun _ => ?_)
              clear hK K
              try simp only [Act.put, List.setIfInBounds_toArray, List.set_cons_zero, List.set_cons_succ]
              refine wpAnyH_take (i := 14) (v := ?_) (by simp only [List.getElem?_toArray, List.getElem?_cons_succ, List.getElem?_cons_zero]; rfl) (by kernel_rfl) (by kernel_rfl) (by kernel_rfl) (by intro _ _ _ h; exact h) (Or.inl ⟨by rfl, ?_⟩) (by assumption) ?_
              rotate_left
              · (intro w hSw; (try dsimp only at hSw); go_simp <;> with_reducible rfl)
              try simp only [Act.put, List.setIfInBounds_toArray, List.set_cons_zero, List.set_cons_succ]
              refine wpAnyH_ready (rs := [15]) (by decide +kernel) (by simp) ?_
              refine AllReadyH.cons (by simp only [List.getElem?_toArray, List.getElem?_cons_succ, List.getElem?_cons_zero]; rfl) (fun K hK => ?_) AllReadyH.nil
              rw [if_pos (by rfl)]
              refine wp_store_mid 100 _ _ rfl g (j * 4) #[.int .u8 t.row, .int .u8 t.col, .int .u8 t.tile, .int .u8 t.flg] rfl rfl (HT6.out) (by kernel_rfl) (by simp [Value.oneCell']) ?_
              refine hK.out _ _ trivial (fun _ => ?_)
              clear hK K
              simp only [Act.put]
              refine wpAnyH_take (i := 16) (v := ?_) (by simp only [List.getElem?_toArray, List.getElem?_cons_succ, List.getElem?_cons_zero]; rfl) (by kernel_rfl) (by kernel_rfl) (by kernel_rfl) (by intro _ _ _ h; exact h) (Or.inl ⟨by rfl, ?_⟩) (by assumption) ?_
              rotate_left
              · (intro w hSw; (try dsimp only at hSw); go_simp <;> with_reducible rfl)
              try simp only [Act.put, List.setIfInBounds_toArray, List.set_cons_zero, List.set_cons_succ]
              refine wpAnyH_ready (rs := [17]) (by decide +kernel) (by simp) ?_
              refine AllReadyH.cons (by simp only [List.getElem?_toArray, List.getElem?_cons_succ, List.getElem?_cons_zero]; rfl) (fun K hK => ?_) AllReadyH.nil
              rw [if_pos (by rfl)]
              refine wp_store_mid 100 _ _ rfl g (J * 4) #[.int .u8 s.row, .int .u8 s.col, .int .u8 s.tile, .int .u8 s.flg] rfl rfl (HT7.out) (by kernel_rfl) (by simp [Value.oneCell']) ?_
              refine hK.out _ _ trivial (fun _ => ?_)
              clear hK K
              simp only [Act.put]
              refine wpAnyH_done (by kernel_rfl) ?_ _
              go_wp2_with fail
              have qj := HST.out.2.2
              refine ⟨⟨J, swapL m J s t, by omega, rfl, HEnd.out⟩, ?_⟩
              simp [intOf]
              omega
            · rw [if_pos (by rfl)]
              refine wp_load_mid 100 _ rfl g (j * 4) rfl [.int .u8 s.row, .int .u8 s.col, .int .u8 s.tile, .int .u8 s.flg] _ HR6.out.1 Try.underlying100 rfl (by kernel_rfl) ?_
              refine hK.out _ _ trivial (fun _ => ?_)
              clear hK K
              try simp only [Act.put, List.setIfInBounds_toArray, List.set_cons_zero, List.set_cons_succ]
              refine wpAnyH_ready (rs := [9]) (by decide +kernel) (by simp) ?_
              refine AllReadyH.cons (by simp only [List.getElem?_toArray, List.getElem?_cons_succ, List.getElem?_cons_zero]; rfl) (fun K hK => ?_) AllReadyH.nil
              rw [if_pos (by rfl)]
              refine wp_load_mid 100 _ rfl g (J * 4) rfl [.int .u8 t.row, .int .u8 t.col, .int .u8 t.tile, .int .u8 t.flg] _ HR6.out.2 Try.underlying100 rfl (by kernel_rfl) ?_
              refine hK.out _ _ trivial (fun _ => ?_)
              clear hK K
              try simp only [Act.put, List.setIfInBounds_toArray, List.set_cons_zero, List.set_cons_succ]
              refine wpAnyH_take (i := 14) (v := ?_) (by simp only [List.getElem?_toArray, List.getElem?_cons_succ, List.getElem?_cons_zero]; rfl) (by kernel_rfl) (by kernel_rfl) (by kernel_rfl) (by intro _ _ _ h; exact h) (Or.inl ⟨by rfl, ?_⟩) (by assumption) ?_
              rotate_left
              · (intro w hSw; (try dsimp only at hSw); go_simp <;> with_reducible rfl)
              try simp only [Act.put, List.setIfInBounds_toArray, List.set_cons_zero, List.set_cons_succ]
              refine wpAnyH_ready (rs := [15]) (by decide +kernel) (by simp) ?_
              refine AllReadyH.cons (by simp only [List.getElem?_toArray, List.getElem?_cons_succ, List.getElem?_cons_zero]; rfl) (fun K hK => ?_) AllReadyH.nil
              rw [if_pos (by rfl)]
              refine wp_store_mid 100 _ _ rfl g (j * 4) #[.int .u8 t.row, .int .u8 t.col, .int .u8 t.tile, .int .u8 t.flg] rfl rfl (HT6.out) (by kernel_rfl) (by simp [Value.oneCell']) ?_
              refine hK.out _ _ trivial (fun _ => ?_)
              clear hK K
              simp only [Act.put]
              refine wpAnyH_take (i := 16) (v := ?_) (by simp only [List.getElem?_toArray, List.getElem?_cons_succ, List.getElem?_cons_zero]; rfl) (by kernel_rfl) (by kernel_rfl) (by kernel_rfl) (by intro _ _ _ h; exact h) (Or.inl ⟨by rfl, ?_⟩) (by assumption) ?_
              rotate_left
              · (intro w hSw; (try dsimp only at hSw); go_simp <;> with_reducible rfl)
              try simp only [Act.put, List.setIfInBounds_toArray, List.set_cons_zero, List.set_cons_succ]
              refine wpAnyH_ready (rs := [17]) (by decide +kernel) (by simp) ?_
              refine AllReadyH.cons (by simp only [List.getElem?_toArray, List.getElem?_cons_succ, List.getElem?_cons_zero]; rfl) (fun K hK => ?_) AllReadyH.nil
              rw [if_pos (by rfl)]
              refine wp_store_mid 100 _ _ rfl g (J * 4) #[.int .u8 s.row, .int .u8 s.col, .int .u8 s.tile, .int .u8 s.flg] rfl rfl (HT7.out) (by kernel_rfl) (by simp [Value.oneCell']) ?_
              refine hK.out _ _ trivial (fun _ => ?_)
              clear hK K
              simp only [Act.put]
              refine wpAnyH_done (by kernel_rfl) ?_ _
              go_wp2_with fail
              have qj := HST.out.2.2
              refine ⟨⟨J, swapL m J s t, by omega, rfl, HEnd.out⟩, ?_⟩
              simp [intOf]
              omega
          · have ec : decide (cmpI s.col t.col < 0) = false := decide_eq_false (by unfold cmpI; rw [if_neg hc]; split <;> decide)
            generalize cmpI s.col t.col = CC at ec ⊢
            refine wpAnyH_take (i := 15) (v := ?_) (by simp only [List.getElem?_toArray, List.getElem?_cons_succ, List.getElem?_cons_zero]; rfl) (by kernel_rfl) (by kernel_rfl) (by kernel_rfl) (by intro _ _ _ h; exact h) (Or.inl ⟨by rfl, ?_⟩) (by assumption) ?_
            rotate_left
            · (intro w hSw; (try dsimp only at hSw); go_simp <;> with_reducible rfl)
            try simp only [Act.put, List.setIfInBounds_toArray, List.set_cons_zero, List.set_cons_succ]
            try simp only [ec]
            refine wpAnyH_take (i := 16) (v := ?_) (by simp only [List.getElem?_toArray, List.getElem?_cons_succ, List.getElem?_cons_zero]; rfl) (by kernel_rfl) (by kernel_rfl) (by kernel_rfl) (by intro _ _ _ h; exact h) (Or.inl ⟨by rfl, ?_⟩) (by assumption) ?_
            rotate_left
            · (intro w hSw; (try dsimp only at hSw); go_simp <;> with_reducible rfl)
            try simp only [Act.put, List.setIfInBounds_toArray, List.set_cons_zero, List.set_cons_succ]
            refine wpAnyH_done (by kernel_rfl) ?_ _
            have M3 : Hid (LsAt w5 g (sortTo (i + 1) l) ∧ Fr g W w5) := ⟨by have := M2.out.1; rw [HJ.out, if_neg hc] at this; rw [← this]; exact H5.out.1, H5.out.2⟩
            clear M2 H5
            go_wp2_with fail
            refine ⟨⟨i + 1, by omega, Or.inl (by omega), ?_, M3⟩, ?_⟩
            · first | rfl | (simp; done)
            · simp [intOf]
              omega
    · have d1 : decide ((i : Int) < (n : Int)) = false := decide_eq_false (by omega)
      have M1 : Hid (LsAt wr g (sortTo n l) ∧ Fr g W wr) := ⟨by
        by_cases e : i = n
        · rw [← e]; exact M0.out.1
        · have e0 : n = 0 := by omega
          have e1 : i = 1 := by omega
          have := M0.out.1
          rw [e1] at this
          rw [e0]
          exact this, M0.out.2⟩
      clear M0
      go_wp2_with fail
      go_end0
      exact ⟨rfl, M1.out⟩
end Go.Proofs.Ytmjfccdhjhkocaa
