/- What the reference's Bit, Res, Set and AddWord come to, as contracts over the translation. Conditions: bytes are 0 to 255, words 0 to 65535. -/
import Derived.Test.YtlbcodjkcjjoeabDoorRefU
import Derived.Deep.QuietTactic
import Derived.BigQuiet
namespace Go.Proofs.YtlbcodjkcjjoeabDoor
open Go.ChangeShapes Go.WideShapes Go.ChangeAt Go.RowKit
set_option linter.unusedVariables false
theorem row_facts {w : World} {B : Nat} {v : Value} {n : Nat} {f : Nat → Bool} (h : w.ownsRow B 4 1 v n ((List.range n).map fun j => Value.bool (f j))) (hn : 0 < n) :
    ∃ g cap, v = .slice (some ⟨g, 0, none⟩) n cap ∧ B ≤ g ∧ g < w.heap.size ∧ n ≤ cap ∧ (∀ i, i < n → w.cell? ⟨g, i, none⟩ = some (.bool (f i))) ∧ ∀ i, w.frozen? ⟨g, i, none⟩ = false := by
  obtain ⟨b, cap, rfl, hb, hc, hcell⟩ := brow_of_owns h hn
  rcases h.2 with ⟨h0, _⟩ | ⟨g, cap', cur, he, hB, hg, _⟩
  · cases h0
  · cases he
    exact ⟨b, cap, rfl, hB, hb, hc, hcell, fun i => by simp [World.frozen?, hg]⟩
theorem bits8own (V : Nat) (w : World) (hV : V ≤ 65535) :
    Calls Tryd.prog 54 #[.int .i64 V, .int .i64 8] w fun e w' => ∃ s, e = .returned s ∧ w'.ownsRow w.heap.size 4 1 s 8 ((List.range 8).map fun j => Value.bool (bitB V j)) ∧ Below w.heap.size w w' := bits_own V 8 w hV (by decide) (by decide)
theorem brow_set {w : World} {g cap : Nat} {f : Nat → Bool} (hg : g < w.heap.size) (hc : 8 ≤ cap) (hcell : ∀ i, i < 8 → w.cell? ⟨g, i, none⟩ = some (.bool (f i))) (k : Nat) (hk : k < 8) (on : Bool) :
    BRow (w.setCell ⟨g, k, none⟩ (.bool on)) (.slice (some ⟨g, 0, none⟩) 8 cap) 8 (fun i => if i = k then on else f i) := by
  refine ⟨g, cap, rfl, by simpa [World.setCell] using hg, hc, fun i hi => ?_⟩
  show _ = some (Value.bool (if i = k then on else f i))
  by_cases h : i = k
  · subst h
    rw [if_pos rfl]
    exact World.cell?_setCell_same _ _ _ (hcell i hi)
  · rw [if_neg h, World.cell?_setCell_other _ _ _ _ (by intro e; exact h (by cases e; rfl))]
    exact hcell i hi

theorem ref_bit (n a f : Int) (w : World) (ha : 0 ≤ a) (ha2 : a ≤ 255) (hf : 0 ≤ f) (hf2 : f ≤ 255) :
    Calls Tryd.prog 34 #[.int .i64 n, .int .u8 a, .int .u8 f] w fun e w' => e = .returned (.int .u8 (biF n a f)) ∧ Kept w w' := by
  obtain ⟨A, rfl⟩ := Int.eq_ofNat_of_zero_le ha
  have hA : A ≤ 255 := by omega
  by_cases h0 : n < 0 ∨ 8 ≤ n
  · have e1 : Hid (biF n A f = f / 16 * 16) := by show biF n A f = _; unfold biF; rw [if_pos h0]
    rcases h0 with h0 | h0
    · go_enter Tryd.func34, Tryd.ntmps34
      go_wp2_with (go_at_call 60; refine (clean_any _ _ hf hf2).mono ?_; rintro e wf ⟨rfl, rfl⟩)
      go_ret
      exact ⟨ret1 e1.out.symm, Kept.refl _⟩
    · go_enter Tryd.func34, Tryd.ntmps34
      go_wp2_with (go_at_call 60; refine (clean_any _ _ hf hf2).mono ?_; rintro e wf ⟨rfl, rfl⟩)
      go_ret
      exact ⟨ret1 e1.out.symm, Kept.refl _⟩
  · have hh : n = 0 ∨ n = 1 ∨ n = 2 ∨ n = 3 ∨ n = 4 ∨ n = 5 ∨ n = 6 ∨ n = 7 := by omega
    clear h0
    rcases hh with rfl | rfl | rfl | rfl | rfl | rfl | rfl | rfl
    · go_enter Tryd.func34, Tryd.ntmps34
      go_wp2_with fail
      refine (bits8 A _ (by omega)).mono ?_
      rintro e w1 ⟨sx, rfl, hx, k1⟩
      obtain ⟨bx, capx, rfl, hbx, hcx, hcell⟩ := hx
      have c := hcell 0 (by decide)
      clear hcell
      go_wp2_with (first | (go_at_call 55; refine (has_any _ _ _ hf hf2 (by omega) (by omega)).mono ?_; rintro e w' ⟨rfl, rfl⟩) | (go_at_call 58; refine (flags_any _ _ _ _ _).mono ?_; rintro e w' ⟨rfl, rfl⟩))
      go_ret
      exact ⟨ret1 (flg_congr (natAll (p := fun A => (!bitB A 0) = ((A : Int) / 2 ^ ((0 : Int).toNat) % 2 == 0)) (by decide +kernel) A hA) rfl rfl rfl), k1⟩
    · go_enter Tryd.func34, Tryd.ntmps34
      go_wp2_with fail
      refine (bits8 A _ (by omega)).mono ?_
      rintro e w1 ⟨sx, rfl, hx, k1⟩
      obtain ⟨bx, capx, rfl, hbx, hcx, hcell⟩ := hx
      have c := hcell 1 (by decide)
      clear hcell
      go_wp2_with (first | (go_at_call 55; refine (has_any _ _ _ hf hf2 (by omega) (by omega)).mono ?_; rintro e w' ⟨rfl, rfl⟩) | (go_at_call 58; refine (flags_any _ _ _ _ _).mono ?_; rintro e w' ⟨rfl, rfl⟩))
      go_ret
      exact ⟨ret1 (flg_congr (natAll (p := fun A => (!bitB A 1) = ((A : Int) / 2 ^ ((1 : Int).toNat) % 2 == 0)) (by decide +kernel) A hA) rfl rfl rfl), k1⟩
    · go_enter Tryd.func34, Tryd.ntmps34
      go_wp2_with fail
      refine (bits8 A _ (by omega)).mono ?_
      rintro e w1 ⟨sx, rfl, hx, k1⟩
      obtain ⟨bx, capx, rfl, hbx, hcx, hcell⟩ := hx
      have c := hcell 2 (by decide)
      clear hcell
      go_wp2_with (first | (go_at_call 55; refine (has_any _ _ _ hf hf2 (by omega) (by omega)).mono ?_; rintro e w' ⟨rfl, rfl⟩) | (go_at_call 58; refine (flags_any _ _ _ _ _).mono ?_; rintro e w' ⟨rfl, rfl⟩))
      go_ret
      exact ⟨ret1 (flg_congr (natAll (p := fun A => (!bitB A 2) = ((A : Int) / 2 ^ ((2 : Int).toNat) % 2 == 0)) (by decide +kernel) A hA) rfl rfl rfl), k1⟩
    · go_enter Tryd.func34, Tryd.ntmps34
      go_wp2_with fail
      refine (bits8 A _ (by omega)).mono ?_
      rintro e w1 ⟨sx, rfl, hx, k1⟩
      obtain ⟨bx, capx, rfl, hbx, hcx, hcell⟩ := hx
      have c := hcell 3 (by decide)
      clear hcell
      go_wp2_with (first | (go_at_call 55; refine (has_any _ _ _ hf hf2 (by omega) (by omega)).mono ?_; rintro e w' ⟨rfl, rfl⟩) | (go_at_call 58; refine (flags_any _ _ _ _ _).mono ?_; rintro e w' ⟨rfl, rfl⟩))
      go_ret
      exact ⟨ret1 (flg_congr (natAll (p := fun A => (!bitB A 3) = ((A : Int) / 2 ^ ((3 : Int).toNat) % 2 == 0)) (by decide +kernel) A hA) rfl rfl rfl), k1⟩
    · go_enter Tryd.func34, Tryd.ntmps34
      go_wp2_with fail
      refine (bits8 A _ (by omega)).mono ?_
      rintro e w1 ⟨sx, rfl, hx, k1⟩
      obtain ⟨bx, capx, rfl, hbx, hcx, hcell⟩ := hx
      have c := hcell 4 (by decide)
      clear hcell
      go_wp2_with (first | (go_at_call 55; refine (has_any _ _ _ hf hf2 (by omega) (by omega)).mono ?_; rintro e w' ⟨rfl, rfl⟩) | (go_at_call 58; refine (flags_any _ _ _ _ _).mono ?_; rintro e w' ⟨rfl, rfl⟩))
      go_ret
      exact ⟨ret1 (flg_congr (natAll (p := fun A => (!bitB A 4) = ((A : Int) / 2 ^ ((4 : Int).toNat) % 2 == 0)) (by decide +kernel) A hA) rfl rfl rfl), k1⟩
    · go_enter Tryd.func34, Tryd.ntmps34
      go_wp2_with fail
      refine (bits8 A _ (by omega)).mono ?_
      rintro e w1 ⟨sx, rfl, hx, k1⟩
      obtain ⟨bx, capx, rfl, hbx, hcx, hcell⟩ := hx
      have c := hcell 5 (by decide)
      clear hcell
      go_wp2_with (first | (go_at_call 55; refine (has_any _ _ _ hf hf2 (by omega) (by omega)).mono ?_; rintro e w' ⟨rfl, rfl⟩) | (go_at_call 58; refine (flags_any _ _ _ _ _).mono ?_; rintro e w' ⟨rfl, rfl⟩))
      go_ret
      exact ⟨ret1 (flg_congr (natAll (p := fun A => (!bitB A 5) = ((A : Int) / 2 ^ ((5 : Int).toNat) % 2 == 0)) (by decide +kernel) A hA) rfl rfl rfl), k1⟩
    · go_enter Tryd.func34, Tryd.ntmps34
      go_wp2_with fail
      refine (bits8 A _ (by omega)).mono ?_
      rintro e w1 ⟨sx, rfl, hx, k1⟩
      obtain ⟨bx, capx, rfl, hbx, hcx, hcell⟩ := hx
      have c := hcell 6 (by decide)
      clear hcell
      go_wp2_with (first | (go_at_call 55; refine (has_any _ _ _ hf hf2 (by omega) (by omega)).mono ?_; rintro e w' ⟨rfl, rfl⟩) | (go_at_call 58; refine (flags_any _ _ _ _ _).mono ?_; rintro e w' ⟨rfl, rfl⟩))
      go_ret
      exact ⟨ret1 (flg_congr (natAll (p := fun A => (!bitB A 6) = ((A : Int) / 2 ^ ((6 : Int).toNat) % 2 == 0)) (by decide +kernel) A hA) rfl rfl rfl), k1⟩
    · go_enter Tryd.func34, Tryd.ntmps34
      go_wp2_with fail
      refine (bits8 A _ (by omega)).mono ?_
      rintro e w1 ⟨sx, rfl, hx, k1⟩
      obtain ⟨bx, capx, rfl, hbx, hcx, hcell⟩ := hx
      have c := hcell 7 (by decide)
      clear hcell
      go_wp2_with (first | (go_at_call 55; refine (has_any _ _ _ hf hf2 (by omega) (by omega)).mono ?_; rintro e w' ⟨rfl, rfl⟩) | (go_at_call 58; refine (flags_any _ _ _ _ _).mono ?_; rintro e w' ⟨rfl, rfl⟩))
      go_ret
      exact ⟨ret1 (flg_congr (natAll (p := fun A => (!bitB A 7) = ((A : Int) / 2 ^ ((7 : Int).toNat) % 2 == 0)) (by decide +kernel) A hA) rfl rfl rfl), k1⟩

set_option maxRecDepth 100000 in
set_option maxHeartbeats 2000000 in
theorem put_false (n a : Int) (w : World) (ha : 0 ≤ a) (ha2 : a ≤ 255) :
    Calls Tryd.prog 67 #[.int .i64 n, .int .u8 a, .bool false] w fun e w' => e = .returned (.int .u8 (reR n a)) ∧ Kept w w' := by
  obtain ⟨A, rfl⟩ := Int.eq_ofNat_of_zero_le ha
  have hA : A ≤ 255 := by omega
  by_cases h0 : n < 0 ∨ 8 ≤ n
  · have e1 : Hid (reR n A = A) := by show reR n A = _; unfold reR; rw [if_pos h0]
    rcases h0 with h0 | h0
    · go_enter Tryd.func67, Tryd.ntmps67
      go_wp2
      go_ret
      exact ⟨ret1 e1.out.symm, Kept.refl _⟩
    · go_enter Tryd.func67, Tryd.ntmps67
      go_wp2
      go_ret
      exact ⟨ret1 e1.out.symm, Kept.refl _⟩
  · have hh : n = 0 ∨ n = 1 ∨ n = 2 ∨ n = 3 ∨ n = 4 ∨ n = 5 ∨ n = 6 ∨ n = 7 := by omega
    clear h0
    rcases hh with rfl | rfl | rfl | rfl | rfl | rfl | rfl | rfl
    · go_enter Tryd.func67, Tryd.ntmps67
      go_wp2_with fail
      refine (bits8own A _ (by omega)).mono ?_
      rintro e w1 ⟨sx, rfl, hx, hb⟩
      obtain ⟨g, cap, rfl, hB, hg, hc, hcell, hfz⟩ := row_facts hx (by decide)
      have c := hcell 0 (by decide)
      have z := hfz 0
      have hrow := brow_set hg hc hcell 0 (by decide) false
      have K : Kept w (w1.setCell ⟨g, 0, none⟩ (.bool false)) := Kept.ofBelow (hb.setCell hB _)
      clear hcell hfz hx hb
      go_wp2_with (go_at_call 57; refine (number8 _ _ _ hrow).mono ?_; rintro e wn ⟨V, rfl, rfl, hV, eV⟩)
      go_ret
      exact ⟨ret1 (by rw [eV.out]; exact natAll (p := fun A => ((numF (fun i => if i = 0 then false else bitB A i) 8 : Nat) : Int) = reR 0 A) (by decide +kernel) A hA), K⟩
    · go_enter Tryd.func67, Tryd.ntmps67
      go_wp2_with fail
      refine (bits8own A _ (by omega)).mono ?_
      rintro e w1 ⟨sx, rfl, hx, hb⟩
      obtain ⟨g, cap, rfl, hB, hg, hc, hcell, hfz⟩ := row_facts hx (by decide)
      have c := hcell 1 (by decide)
      have z := hfz 1
      have hrow := brow_set hg hc hcell 1 (by decide) false
      have K : Kept w (w1.setCell ⟨g, 1, none⟩ (.bool false)) := Kept.ofBelow (hb.setCell hB _)
      clear hcell hfz hx hb
      go_wp2_with (go_at_call 57; refine (number8 _ _ _ hrow).mono ?_; rintro e wn ⟨V, rfl, rfl, hV, eV⟩)
      go_ret
      exact ⟨ret1 (by rw [eV.out]; exact natAll (p := fun A => ((numF (fun i => if i = 1 then false else bitB A i) 8 : Nat) : Int) = reR 1 A) (by decide +kernel) A hA), K⟩
    · go_enter Tryd.func67, Tryd.ntmps67
      go_wp2_with fail
      refine (bits8own A _ (by omega)).mono ?_
      rintro e w1 ⟨sx, rfl, hx, hb⟩
      obtain ⟨g, cap, rfl, hB, hg, hc, hcell, hfz⟩ := row_facts hx (by decide)
      have c := hcell 2 (by decide)
      have z := hfz 2
      have hrow := brow_set hg hc hcell 2 (by decide) false
      have K : Kept w (w1.setCell ⟨g, 2, none⟩ (.bool false)) := Kept.ofBelow (hb.setCell hB _)
      clear hcell hfz hx hb
      go_wp2_with (go_at_call 57; refine (number8 _ _ _ hrow).mono ?_; rintro e wn ⟨V, rfl, rfl, hV, eV⟩)
      go_ret
      exact ⟨ret1 (by rw [eV.out]; exact natAll (p := fun A => ((numF (fun i => if i = 2 then false else bitB A i) 8 : Nat) : Int) = reR 2 A) (by decide +kernel) A hA), K⟩
    · go_enter Tryd.func67, Tryd.ntmps67
      go_wp2_with fail
      refine (bits8own A _ (by omega)).mono ?_
      rintro e w1 ⟨sx, rfl, hx, hb⟩
      obtain ⟨g, cap, rfl, hB, hg, hc, hcell, hfz⟩ := row_facts hx (by decide)
      have c := hcell 3 (by decide)
      have z := hfz 3
      have hrow := brow_set hg hc hcell 3 (by decide) false
      have K : Kept w (w1.setCell ⟨g, 3, none⟩ (.bool false)) := Kept.ofBelow (hb.setCell hB _)
      clear hcell hfz hx hb
      go_wp2_with (go_at_call 57; refine (number8 _ _ _ hrow).mono ?_; rintro e wn ⟨V, rfl, rfl, hV, eV⟩)
      go_ret
      exact ⟨ret1 (by rw [eV.out]; exact natAll (p := fun A => ((numF (fun i => if i = 3 then false else bitB A i) 8 : Nat) : Int) = reR 3 A) (by decide +kernel) A hA), K⟩
    · go_enter Tryd.func67, Tryd.ntmps67
      go_wp2_with fail
      refine (bits8own A _ (by omega)).mono ?_
      rintro e w1 ⟨sx, rfl, hx, hb⟩
      obtain ⟨g, cap, rfl, hB, hg, hc, hcell, hfz⟩ := row_facts hx (by decide)
      have c := hcell 4 (by decide)
      have z := hfz 4
      have hrow := brow_set hg hc hcell 4 (by decide) false
      have K : Kept w (w1.setCell ⟨g, 4, none⟩ (.bool false)) := Kept.ofBelow (hb.setCell hB _)
      clear hcell hfz hx hb
      go_wp2_with (go_at_call 57; refine (number8 _ _ _ hrow).mono ?_; rintro e wn ⟨V, rfl, rfl, hV, eV⟩)
      go_ret
      exact ⟨ret1 (by rw [eV.out]; exact natAll (p := fun A => ((numF (fun i => if i = 4 then false else bitB A i) 8 : Nat) : Int) = reR 4 A) (by decide +kernel) A hA), K⟩
    · go_enter Tryd.func67, Tryd.ntmps67
      go_wp2_with fail
      refine (bits8own A _ (by omega)).mono ?_
      rintro e w1 ⟨sx, rfl, hx, hb⟩
      obtain ⟨g, cap, rfl, hB, hg, hc, hcell, hfz⟩ := row_facts hx (by decide)
      have c := hcell 5 (by decide)
      have z := hfz 5
      have hrow := brow_set hg hc hcell 5 (by decide) false
      have K : Kept w (w1.setCell ⟨g, 5, none⟩ (.bool false)) := Kept.ofBelow (hb.setCell hB _)
      clear hcell hfz hx hb
      go_wp2_with (go_at_call 57; refine (number8 _ _ _ hrow).mono ?_; rintro e wn ⟨V, rfl, rfl, hV, eV⟩)
      go_ret
      exact ⟨ret1 (by rw [eV.out]; exact natAll (p := fun A => ((numF (fun i => if i = 5 then false else bitB A i) 8 : Nat) : Int) = reR 5 A) (by decide +kernel) A hA), K⟩
    · go_enter Tryd.func67, Tryd.ntmps67
      go_wp2_with fail
      refine (bits8own A _ (by omega)).mono ?_
      rintro e w1 ⟨sx, rfl, hx, hb⟩
      obtain ⟨g, cap, rfl, hB, hg, hc, hcell, hfz⟩ := row_facts hx (by decide)
      have c := hcell 6 (by decide)
      have z := hfz 6
      have hrow := brow_set hg hc hcell 6 (by decide) false
      have K : Kept w (w1.setCell ⟨g, 6, none⟩ (.bool false)) := Kept.ofBelow (hb.setCell hB _)
      clear hcell hfz hx hb
      go_wp2_with (go_at_call 57; refine (number8 _ _ _ hrow).mono ?_; rintro e wn ⟨V, rfl, rfl, hV, eV⟩)
      go_ret
      exact ⟨ret1 (by rw [eV.out]; exact natAll (p := fun A => ((numF (fun i => if i = 6 then false else bitB A i) 8 : Nat) : Int) = reR 6 A) (by decide +kernel) A hA), K⟩
    · go_enter Tryd.func67, Tryd.ntmps67
      go_wp2_with fail
      refine (bits8own A _ (by omega)).mono ?_
      rintro e w1 ⟨sx, rfl, hx, hb⟩
      obtain ⟨g, cap, rfl, hB, hg, hc, hcell, hfz⟩ := row_facts hx (by decide)
      have c := hcell 7 (by decide)
      have z := hfz 7
      have hrow := brow_set hg hc hcell 7 (by decide) false
      have K : Kept w (w1.setCell ⟨g, 7, none⟩ (.bool false)) := Kept.ofBelow (hb.setCell hB _)
      clear hcell hfz hx hb
      go_wp2_with (go_at_call 57; refine (number8 _ _ _ hrow).mono ?_; rintro e wn ⟨V, rfl, rfl, hV, eV⟩)
      go_ret
      exact ⟨ret1 (by rw [eV.out]; exact natAll (p := fun A => ((numF (fun i => if i = 7 then false else bitB A i) 8 : Nat) : Int) = reR 7 A) (by decide +kernel) A hA), K⟩
theorem ref_res (n a : Int) (w : World) (ha : 0 ≤ a) (ha2 : a ≤ 255) :
    Calls Tryd.prog 36 #[.int .i64 n, .int .u8 a] w fun e w' => e = .returned (.int .u8 (reR n a)) ∧ Kept w w' := by
  go_enter Tryd.func36, Tryd.ntmps36
  go_wp2_with (go_at_call 67; refine (put_false _ _ _ ha ha2).mono ?_; rintro e w' ⟨rfl, hk⟩)
  go_ret
  exact ⟨rfl, hk⟩

set_option maxRecDepth 100000 in
set_option maxHeartbeats 2000000 in
theorem put_true (n a : Int) (w : World) (ha : 0 ≤ a) (ha2 : a ≤ 255) :
    Calls Tryd.prog 67 #[.int .i64 n, .int .u8 a, .bool true] w fun e w' => e = .returned (.int .u8 (seR n a)) ∧ Kept w w' := by
  obtain ⟨A, rfl⟩ := Int.eq_ofNat_of_zero_le ha
  have hA : A ≤ 255 := by omega
  by_cases h0 : n < 0 ∨ 8 ≤ n
  · have e1 : Hid (seR n A = A) := by show seR n A = _; unfold seR; rw [if_pos h0]
    rcases h0 with h0 | h0
    · go_enter Tryd.func67, Tryd.ntmps67
      go_wp2
      go_ret
      exact ⟨ret1 e1.out.symm, Kept.refl _⟩
    · go_enter Tryd.func67, Tryd.ntmps67
      go_wp2
      go_ret
      exact ⟨ret1 e1.out.symm, Kept.refl _⟩
  · have hh : n = 0 ∨ n = 1 ∨ n = 2 ∨ n = 3 ∨ n = 4 ∨ n = 5 ∨ n = 6 ∨ n = 7 := by omega
    clear h0
    rcases hh with rfl | rfl | rfl | rfl | rfl | rfl | rfl | rfl
    · go_enter Tryd.func67, Tryd.ntmps67
      go_wp2_with fail
      refine (bits8own A _ (by omega)).mono ?_
      rintro e w1 ⟨sx, rfl, hx, hb⟩
      obtain ⟨g, cap, rfl, hB, hg, hc, hcell, hfz⟩ := row_facts hx (by decide)
      have c := hcell 0 (by decide)
      have z := hfz 0
      have hrow := brow_set hg hc hcell 0 (by decide) true
      have K : Kept w (w1.setCell ⟨g, 0, none⟩ (.bool true)) := Kept.ofBelow (hb.setCell hB _)
      clear hcell hfz hx hb
      go_wp2_with (go_at_call 57; refine (number8 _ _ _ hrow).mono ?_; rintro e wn ⟨V, rfl, rfl, hV, eV⟩)
      go_ret
      exact ⟨ret1 (by rw [eV.out]; exact natAll (p := fun A => ((numF (fun i => if i = 0 then true else bitB A i) 8 : Nat) : Int) = seR 0 A) (by decide +kernel) A hA), K⟩
    · go_enter Tryd.func67, Tryd.ntmps67
      go_wp2_with fail
      refine (bits8own A _ (by omega)).mono ?_
      rintro e w1 ⟨sx, rfl, hx, hb⟩
      obtain ⟨g, cap, rfl, hB, hg, hc, hcell, hfz⟩ := row_facts hx (by decide)
      have c := hcell 1 (by decide)
      have z := hfz 1
      have hrow := brow_set hg hc hcell 1 (by decide) true
      have K : Kept w (w1.setCell ⟨g, 1, none⟩ (.bool true)) := Kept.ofBelow (hb.setCell hB _)
      clear hcell hfz hx hb
      go_wp2_with (go_at_call 57; refine (number8 _ _ _ hrow).mono ?_; rintro e wn ⟨V, rfl, rfl, hV, eV⟩)
      go_ret
      exact ⟨ret1 (by rw [eV.out]; exact natAll (p := fun A => ((numF (fun i => if i = 1 then true else bitB A i) 8 : Nat) : Int) = seR 1 A) (by decide +kernel) A hA), K⟩
    · go_enter Tryd.func67, Tryd.ntmps67
      go_wp2_with fail
      refine (bits8own A _ (by omega)).mono ?_
      rintro e w1 ⟨sx, rfl, hx, hb⟩
      obtain ⟨g, cap, rfl, hB, hg, hc, hcell, hfz⟩ := row_facts hx (by decide)
      have c := hcell 2 (by decide)
      have z := hfz 2
      have hrow := brow_set hg hc hcell 2 (by decide) true
      have K : Kept w (w1.setCell ⟨g, 2, none⟩ (.bool true)) := Kept.ofBelow (hb.setCell hB _)
      clear hcell hfz hx hb
      go_wp2_with (go_at_call 57; refine (number8 _ _ _ hrow).mono ?_; rintro e wn ⟨V, rfl, rfl, hV, eV⟩)
      go_ret
      exact ⟨ret1 (by rw [eV.out]; exact natAll (p := fun A => ((numF (fun i => if i = 2 then true else bitB A i) 8 : Nat) : Int) = seR 2 A) (by decide +kernel) A hA), K⟩
    · go_enter Tryd.func67, Tryd.ntmps67
      go_wp2_with fail
      refine (bits8own A _ (by omega)).mono ?_
      rintro e w1 ⟨sx, rfl, hx, hb⟩
      obtain ⟨g, cap, rfl, hB, hg, hc, hcell, hfz⟩ := row_facts hx (by decide)
      have c := hcell 3 (by decide)
      have z := hfz 3
      have hrow := brow_set hg hc hcell 3 (by decide) true
      have K : Kept w (w1.setCell ⟨g, 3, none⟩ (.bool true)) := Kept.ofBelow (hb.setCell hB _)
      clear hcell hfz hx hb
      go_wp2_with (go_at_call 57; refine (number8 _ _ _ hrow).mono ?_; rintro e wn ⟨V, rfl, rfl, hV, eV⟩)
      go_ret
      exact ⟨ret1 (by rw [eV.out]; exact natAll (p := fun A => ((numF (fun i => if i = 3 then true else bitB A i) 8 : Nat) : Int) = seR 3 A) (by decide +kernel) A hA), K⟩
    · go_enter Tryd.func67, Tryd.ntmps67
      go_wp2_with fail
      refine (bits8own A _ (by omega)).mono ?_
      rintro e w1 ⟨sx, rfl, hx, hb⟩
      obtain ⟨g, cap, rfl, hB, hg, hc, hcell, hfz⟩ := row_facts hx (by decide)
      have c := hcell 4 (by decide)
      have z := hfz 4
      have hrow := brow_set hg hc hcell 4 (by decide) true
      have K : Kept w (w1.setCell ⟨g, 4, none⟩ (.bool true)) := Kept.ofBelow (hb.setCell hB _)
      clear hcell hfz hx hb
      go_wp2_with (go_at_call 57; refine (number8 _ _ _ hrow).mono ?_; rintro e wn ⟨V, rfl, rfl, hV, eV⟩)
      go_ret
      exact ⟨ret1 (by rw [eV.out]; exact natAll (p := fun A => ((numF (fun i => if i = 4 then true else bitB A i) 8 : Nat) : Int) = seR 4 A) (by decide +kernel) A hA), K⟩
    · go_enter Tryd.func67, Tryd.ntmps67
      go_wp2_with fail
      refine (bits8own A _ (by omega)).mono ?_
      rintro e w1 ⟨sx, rfl, hx, hb⟩
      obtain ⟨g, cap, rfl, hB, hg, hc, hcell, hfz⟩ := row_facts hx (by decide)
      have c := hcell 5 (by decide)
      have z := hfz 5
      have hrow := brow_set hg hc hcell 5 (by decide) true
      have K : Kept w (w1.setCell ⟨g, 5, none⟩ (.bool true)) := Kept.ofBelow (hb.setCell hB _)
      clear hcell hfz hx hb
      go_wp2_with (go_at_call 57; refine (number8 _ _ _ hrow).mono ?_; rintro e wn ⟨V, rfl, rfl, hV, eV⟩)
      go_ret
      exact ⟨ret1 (by rw [eV.out]; exact natAll (p := fun A => ((numF (fun i => if i = 5 then true else bitB A i) 8 : Nat) : Int) = seR 5 A) (by decide +kernel) A hA), K⟩
    · go_enter Tryd.func67, Tryd.ntmps67
      go_wp2_with fail
      refine (bits8own A _ (by omega)).mono ?_
      rintro e w1 ⟨sx, rfl, hx, hb⟩
      obtain ⟨g, cap, rfl, hB, hg, hc, hcell, hfz⟩ := row_facts hx (by decide)
      have c := hcell 6 (by decide)
      have z := hfz 6
      have hrow := brow_set hg hc hcell 6 (by decide) true
      have K : Kept w (w1.setCell ⟨g, 6, none⟩ (.bool true)) := Kept.ofBelow (hb.setCell hB _)
      clear hcell hfz hx hb
      go_wp2_with (go_at_call 57; refine (number8 _ _ _ hrow).mono ?_; rintro e wn ⟨V, rfl, rfl, hV, eV⟩)
      go_ret
      exact ⟨ret1 (by rw [eV.out]; exact natAll (p := fun A => ((numF (fun i => if i = 6 then true else bitB A i) 8 : Nat) : Int) = seR 6 A) (by decide +kernel) A hA), K⟩
    · go_enter Tryd.func67, Tryd.ntmps67
      go_wp2_with fail
      refine (bits8own A _ (by omega)).mono ?_
      rintro e w1 ⟨sx, rfl, hx, hb⟩
      obtain ⟨g, cap, rfl, hB, hg, hc, hcell, hfz⟩ := row_facts hx (by decide)
      have c := hcell 7 (by decide)
      have z := hfz 7
      have hrow := brow_set hg hc hcell 7 (by decide) true
      have K : Kept w (w1.setCell ⟨g, 7, none⟩ (.bool true)) := Kept.ofBelow (hb.setCell hB _)
      clear hcell hfz hx hb
      go_wp2_with (go_at_call 57; refine (number8 _ _ _ hrow).mono ?_; rintro e wn ⟨V, rfl, rfl, hV, eV⟩)
      go_ret
      exact ⟨ret1 (by rw [eV.out]; exact natAll (p := fun A => ((numF (fun i => if i = 7 then true else bitB A i) 8 : Nat) : Int) = seR 7 A) (by decide +kernel) A hA), K⟩
theorem ref_set (n a : Int) (w : World) (ha : 0 ≤ a) (ha2 : a ≤ 255) :
    Calls Tryd.prog 38 #[.int .i64 n, .int .u8 a] w fun e w' => e = .returned (.int .u8 (seR n a)) ∧ Kept w w' := by
  go_enter Tryd.func38, Tryd.ntmps38
  go_wp2_with (go_at_call 67; refine (put_true _ _ _ ha ha2).mono ?_; rintro e w' ⟨rfl, hk⟩)
  go_ret
  exact ⟨rfl, hk⟩

theorem bits16 (V : Nat) (w : World) (hV : V ≤ 65535) :
    Calls Tryd.prog 54 #[.int .i64 V, .int .i64 16] w fun e w' => ∃ s, e = .returned s ∧ BRow w' s 16 (bitB V) ∧ Kept w w' := bits_any V 16 w hV (by decide) (by decide)
theorem wordFin (A B : Nat) (hA : A ≤ 65535) (hB : B ≤ 65535) : ((numF (sumB A B false) 16 : Nat) : Int) = ((A : Int) + B) % 65536 := by
  rw [sum_num, show b2n false = 0 from rfl]; omega
set_option maxRecDepth 100000 in
set_option maxHeartbeats 2000000 in
theorem ref_addword (a b f : Int) (w : World) (ha : 0 ≤ a) (ha2 : a ≤ 65535) (hb : 0 ≤ b) (hb2 : b ≤ 65535) (hf : 0 ≤ f) (hf2 : f ≤ 255) :
    Calls Tryd.prog 40 #[.int .u16 a, .int .u16 b, .int .u8 f] w fun e w' => e = .returned (.tuple #[.int .u16 ((a + b) % 65536), .int .u8 (flg (f / 128 == 1) false (decide (4095 < a % 4096 + b % 4096)) (decide (65535 < a + b)))]) ∧ Kept w w' := by
  obtain ⟨A, rfl⟩ := Int.eq_ofNat_of_zero_le ha
  obtain ⟨B, rfl⟩ := Int.eq_ofNat_of_zero_le hb
  have hA : A ≤ 65535 := by omega
  have hB : B ≤ 65535 := by omega
  go_enter Tryd.func40, Tryd.ntmps40
  go_wp2_with fail
  refine (bits16 A _ hA).mono ?_
  rintro e w1 ⟨sx, rfl, hx, k1⟩
  go_wp2_with fail
  refine (bits16 B _ hB).mono ?_
  rintro e w2 ⟨sy, rfl, hy, k2⟩
  go_wp2_with fail
  refine (both_any sx sy A B false 16 _ (hx.kept k2) hy (by decide) (by decide)).mono ?_
  rintro e w3 ⟨s, r, rfl, hs, hr, k3⟩
  obtain ⟨br, capr, rfl, hbr, hcr, hcell⟩ := hr
  have c11 := hcell 11 (by decide)
  have c15 := hcell 15 (by decide)
  have K : Kept w w3 := (k1.step k2).step k3
  have v0 := num_lt (sumB A B false) 16
  have VR : Hid (((numF (sumB A B false) 16 : Nat) : Int) = ((A : Int) + B) % 65536) := wordFin A B hA hB
  have v1 : ((numF (sumB A B false) 16 : Nat) : Int) ≤ 65535 := by omega
  clear hcell hx hy k1 k2 k3 v0
  go_wp2_with (go_at_call 55; refine (has_any _ _ _ hf hf2 (by omega) (by omega)).mono ?_; rintro e w' ⟨rfl, rfl⟩)
  go_quiet ((first | (go_at_call 57; exact Calls.quiet_of_same (number_any s 16 (sumB A B false) _ (by exact hs) (by decide))) | (go_at_call 58; exact Calls.quiet_of_same (flags_any _ _ _ _ _))))
  go_wp2
  go_ret2
  exact ⟨ret2 (by first | (rw [IntKind.wrap_u16, VR.out]; omega) | exact VR.out) (flg_congr (z128 f hf hf2) rfl (by rw [sum_car, show b2n false = 0 from rfl]; exact decEq (by omega)) (by rw [sum_car, show b2n false = 0 from rfl]; exact decEq (by omega))), kdrew K nq⟩
end Go.Proofs.YtlbcodjkcjjoeabDoor
