/- What the calls of package alu that read the table of bits come to, as contracts over the translation. Conditions: bytes are 0 to 255; the table holds the powers of 2. -/
import Derived.Test.YtdkibohpdkdooaaGreatDoorAlu
import Derived.Test.YtdkibohpdkdooaaGreatDoorPlainD
import Derived.Deep.QuietTactic
import Derived.BigQuiet
namespace Go.Proofs.YtdkibohpdkdooaaGreatDoor
open Go.ChangeShapes Go.WideShapes Go.ChangeAt Go.RowKit
set_option linter.unusedVariables false

/-- the table of bits lies as its text lays it -/
def LaidB (w : World) : Prop := 0 < w.heap.size ∧ ∀ i : Nat, i < 8 → w.cell? ⟨0, i, none⟩ = some (.int .u8 (2 ^ i))
theorem LaidB.grown {w w' : World} (h : LaidB w) (g : Grown w w') : LaidB w' :=
  ⟨Nat.lt_of_lt_of_le h.1 g.2.2, fun i hi => (g.1.cell h.1 (fun x => x)).trans (h.2 i hi)⟩
theorem LaidB.at7 {w : World} (h : LaidB w) : w.cell? ⟨0, 7, none⟩ = some (.int .u8 128) := h.2 7 (by decide)
theorem LaidB.at0 {w : World} (h : LaidB w) : w.cell? ⟨0, 0, none⟩ = some (.int .u8 1) := h.2 0 (by decide)

theorem shifted_any (r o : Int) (w : World) :
    Calls Tryz.prog 150 #[.int .u8 r, .int .u8 o] w fun e w' => e = .returned (.tuple #[.int .u8 r, .int .u8 (flg (r == 0) false false (o != 0))]) ∧ w' = w := by
  go_enter Tryz.func150, Tryz.ntmps150
  go_wp2_with (first | (go_at_call 138; refine (flagIf_any _ _ _).mono ?_; rintro e w' ⟨rfl, rfl⟩) | (go_at_call 149; refine (zeroFlag_any _ _).mono ?_; rintro e w' ⟨rfl, rfl⟩))
  go_ret2
  exact ⟨ret2 rfl (orSh _ _), rfl⟩
theorem rlc_any (a f : Int) (w : World) (hL : LaidB w) (ha : 0 ≤ a) (ha2 : a ≤ 255) (hf : 0 ≤ f) (hf2 : f ≤ 255) :
    Calls Tryz.prog 127 #[.int .u8 a, .int .u8 f] w fun e w' => e = .returned (.tuple #[.int .u8 (shR 0 a f), .int .u8 (shF 0 a f)]) ∧ Grown w w' := by
  have h7 := hL.at7
  go_enter Tryz.func127, Tryz.ntmps127
  go_wp2_with (go_at_call 150; refine (shifted_any _ _ _).mono ?_; rintro e w' ⟨rfl, rfl⟩)
  go_ret2
  exact ⟨ret2 (fRlc a ha ha2) (by rw [fRlc a ha ha2, out7 a ha ha2]; rfl), Grown.refl _⟩
theorem rrc_any (a f : Int) (w : World) (hL : LaidB w) (ha : 0 ≤ a) (ha2 : a ≤ 255) (hf : 0 ≤ f) (hf2 : f ≤ 255) :
    Calls Tryz.prog 128 #[.int .u8 a, .int .u8 f] w fun e w' => e = .returned (.tuple #[.int .u8 (shR 1 a f), .int .u8 (shF 1 a f)]) ∧ Grown w w' := by
  have h0 := hL.at0
  go_enter Tryz.func128, Tryz.ntmps128
  go_wp2_with (go_at_call 150; refine (shifted_any _ _ _).mono ?_; rintro e w' ⟨rfl, rfl⟩)
  go_ret2
  exact ⟨ret2 (fRrc a ha ha2) (by rw [fRrc a ha ha2, out0 a ha ha2]; rfl), Grown.refl _⟩
theorem sla_any (a f : Int) (w : World) (hL : LaidB w) (ha : 0 ≤ a) (ha2 : a ≤ 255) (hf : 0 ≤ f) (hf2 : f ≤ 255) :
    Calls Tryz.prog 131 #[.int .u8 a, .int .u8 f] w fun e w' => e = .returned (.tuple #[.int .u8 (shR 4 a f), .int .u8 (shF 4 a f)]) ∧ Grown w w' := by
  have h7 := hL.at7
  go_enter Tryz.func131, Tryz.ntmps131
  go_wp2_with (go_at_call 150; refine (shifted_any _ _ _).mono ?_; rintro e w' ⟨rfl, rfl⟩)
  go_ret2
  exact ⟨ret2 (rfl) (by rw [out7 a ha ha2]; rfl), Grown.refl _⟩
theorem sra_any (a f : Int) (w : World) (hL : LaidB w) (ha : 0 ≤ a) (ha2 : a ≤ 255) (hf : 0 ≤ f) (hf2 : f ≤ 255) :
    Calls Tryz.prog 132 #[.int .u8 a, .int .u8 f] w fun e w' => e = .returned (.tuple #[.int .u8 (shR 5 a f), .int .u8 (shF 5 a f)]) ∧ Grown w w' := by
  have h7 := hL.at7
  have h0 := hL.at0
  go_enter Tryz.func132, Tryz.ntmps132
  go_wp2_with (go_at_call 150; refine (shifted_any _ _ _).mono ?_; rintro e w' ⟨rfl, rfl⟩)
  go_ret2
  exact ⟨ret2 (fSra a ha ha2) (by rw [fSra a ha ha2, out0 a ha ha2]; rfl), Grown.refl _⟩
theorem srl_any (a f : Int) (w : World) (hL : LaidB w) (ha : 0 ≤ a) (ha2 : a ≤ 255) (hf : 0 ≤ f) (hf2 : f ≤ 255) :
    Calls Tryz.prog 134 #[.int .u8 a, .int .u8 f] w fun e w' => e = .returned (.tuple #[.int .u8 (shR 7 a f), .int .u8 (shF 7 a f)]) ∧ Grown w w' := by
  have h0 := hL.at0
  go_enter Tryz.func134, Tryz.ntmps134
  go_wp2_with (go_at_call 150; refine (shifted_any _ _ _).mono ?_; rintro e w' ⟨rfl, rfl⟩)
  go_ret2
  exact ⟨ret2 (rfl) (by rw [out0 a ha ha2]; rfl), Grown.refl _⟩
theorem swap_any (a f : Int) (w : World) (hL : LaidB w) (ha : 0 ≤ a) (ha2 : a ≤ 255) (hf : 0 ≤ f) (hf2 : f ≤ 255) :
    Calls Tryz.prog 133 #[.int .u8 a, .int .u8 f] w fun e w' => e = .returned (.tuple #[.int .u8 (shR 6 a f), .int .u8 (shF 6 a f)]) ∧ Grown w w' := by
  go_enter Tryz.func133, Tryz.ntmps133
  go_wp2_with (go_at_call 150; refine (shifted_any _ _ _).mono ?_; rintro e w' ⟨rfl, rfl⟩)
  go_ret2
  exact ⟨ret2 (fSwap a ha ha2) (by rw [fSwap a ha ha2]; rfl), Grown.refl _⟩
theorem rl_any (a f : Int) (w : World) (hL : LaidB w) (ha : 0 ≤ a) (ha2 : a ≤ 255) (hf : 0 ≤ f) (hf2 : f ≤ 255) :
    Calls Tryz.prog 129 #[.int .u8 a, .int .u8 f] w fun e w' => e = .returned (.tuple #[.int .u8 (shR 2 a f), .int .u8 (shF 2 a f)]) ∧ Grown w w' := by
  have h7 := hL.at7
  have c0 := cof_lo f
  have c1 := cof_hi f
  go_enter Tryz.func129, Tryz.ntmps129
  go_wp2
  go_quiet ((first | (go_at_call 151; exact Calls.quiet_of_same (carryOf_any _ _ hf hf2)) | (go_at_call 150; exact Calls.quiet_of_same (shifted_any _ _ _))))
  go_wp2
  go_ret2
  exact ⟨ret2 (fRl a (cof f) ha ha2 c0 c1) (by rw [fRl a (cof f) ha ha2 c0 c1, out7 a ha ha2]; rfl), Grown.refl _⟩
theorem rr_any (a f : Int) (w : World) (hL : LaidB w) (ha : 0 ≤ a) (ha2 : a ≤ 255) (hf : 0 ≤ f) (hf2 : f ≤ 255) :
    Calls Tryz.prog 130 #[.int .u8 a, .int .u8 f] w fun e w' => e = .returned (.tuple #[.int .u8 (shR 3 a f), .int .u8 (shF 3 a f)]) ∧ Grown w w' := by
  have h0 := hL.at0
  have c0 := cof_lo f
  have c1 := cof_hi f
  go_enter Tryz.func130, Tryz.ntmps130
  go_wp2
  go_quiet ((first | (go_at_call 151; exact Calls.quiet_of_same (carryOf_any _ _ hf hf2)) | (go_at_call 150; exact Calls.quiet_of_same (shifted_any _ _ _))))
  go_wp2
  go_ret2
  exact ⟨ret2 (fRr a (cof f) ha ha2 c0 c1) (by rw [fRr a (cof f) ha ha2 c0 c1, out0 a ha ha2]; rfl), Grown.refl _⟩
set_option maxHeartbeats 2000000 in
theorem shift_any (op a f : Int) (w : World) (hL : LaidB w) (ha : 0 ≤ a) (ha2 : a ≤ 255) (hf : 0 ≤ f) (hf2 : f ≤ 255) :
    Calls Tryz.prog 104 #[.int .i64 op, .int .u8 a, .int .u8 f] w fun e w' => e = .returned (.tuple #[.int .u8 (shR op a f), .int .u8 (shF op a f)]) ∧ Grown w w' := by
  by_cases h0 : op < 0
  · have e1 : Hid (shR op a f = a) := shR_none op a f (by omega)
    have e2 : Hid (shF op a f = f / 16 * 16) := shF_none op a f (by omega)
    go_enter Tryz.func104, Tryz.ntmps104
    go_wp2_with (go_at_call 126; refine (nothing_any _ _ _ hf hf2).mono ?_; rintro e w' ⟨rfl, rfl⟩)
    go_ret2
    exact ⟨ret2 e1.out.symm e2.out.symm, Grown.alloc (Grown.refl _) _ _⟩
  · by_cases h8 : 8 ≤ op
    · have e1 : Hid (shR op a f = a) := shR_none op a f (by omega)
      have e2 : Hid (shF op a f = f / 16 * 16) := shF_none op a f (by omega)
      go_enter Tryz.func104, Tryz.ntmps104
      go_wp2_with (go_at_call 126; refine (nothing_any _ _ _ hf hf2).mono ?_; rintro e w' ⟨rfl, rfl⟩)
      go_ret2
      exact ⟨ret2 e1.out.symm e2.out.symm, Grown.alloc (Grown.refl _) _ _⟩
    · have hh : op = 0 ∨ op = 1 ∨ op = 2 ∨ op = 3 ∨ op = 4 ∨ op = 5 ∨ op = 6 ∨ op = 7 := by omega
      clear h0 h8
      rcases hh with rfl | rfl | rfl | rfl | rfl | rfl | rfl | rfl
      · go_enter Tryz.func104, Tryz.ntmps104
        go_wp2_with (go_at_call 127; refine (rlc_any _ _ _ (by exact hL.grown (Grown.alloc (Grown.refl _) _ _)) ha ha2 hf hf2).mono ?_; rintro e w' ⟨rfl, hg⟩)
        go_ret2
        exact ⟨rfl, Grown.step (Grown.alloc (Grown.refl _) _ _) hg⟩
      · go_enter Tryz.func104, Tryz.ntmps104
        go_wp2_with (go_at_call 128; refine (rrc_any _ _ _ (by exact hL.grown (Grown.alloc (Grown.refl _) _ _)) ha ha2 hf hf2).mono ?_; rintro e w' ⟨rfl, hg⟩)
        go_ret2
        exact ⟨rfl, Grown.step (Grown.alloc (Grown.refl _) _ _) hg⟩
      · go_enter Tryz.func104, Tryz.ntmps104
        go_wp2_with (go_at_call 129; refine (rl_any _ _ _ (by exact hL.grown (Grown.alloc (Grown.refl _) _ _)) ha ha2 hf hf2).mono ?_; rintro e w' ⟨rfl, hg⟩)
        go_ret2
        exact ⟨rfl, Grown.step (Grown.alloc (Grown.refl _) _ _) hg⟩
      · go_enter Tryz.func104, Tryz.ntmps104
        go_wp2_with (go_at_call 130; refine (rr_any _ _ _ (by exact hL.grown (Grown.alloc (Grown.refl _) _ _)) ha ha2 hf hf2).mono ?_; rintro e w' ⟨rfl, hg⟩)
        go_ret2
        exact ⟨rfl, Grown.step (Grown.alloc (Grown.refl _) _ _) hg⟩
      · go_enter Tryz.func104, Tryz.ntmps104
        go_wp2_with (go_at_call 131; refine (sla_any _ _ _ (by exact hL.grown (Grown.alloc (Grown.refl _) _ _)) ha ha2 hf hf2).mono ?_; rintro e w' ⟨rfl, hg⟩)
        go_ret2
        exact ⟨rfl, Grown.step (Grown.alloc (Grown.refl _) _ _) hg⟩
      · go_enter Tryz.func104, Tryz.ntmps104
        go_wp2_with (go_at_call 132; refine (sra_any _ _ _ (by exact hL.grown (Grown.alloc (Grown.refl _) _ _)) ha ha2 hf hf2).mono ?_; rintro e w' ⟨rfl, hg⟩)
        go_ret2
        exact ⟨rfl, Grown.step (Grown.alloc (Grown.refl _) _ _) hg⟩
      · go_enter Tryz.func104, Tryz.ntmps104
        go_wp2_with (go_at_call 133; refine (swap_any _ _ _ (by exact hL.grown (Grown.alloc (Grown.refl _) _ _)) ha ha2 hf hf2).mono ?_; rintro e w' ⟨rfl, hg⟩)
        go_ret2
        exact ⟨rfl, Grown.step (Grown.alloc (Grown.refl _) _ _) hg⟩
      · go_enter Tryz.func104, Tryz.ntmps104
        go_wp2_with (go_at_call 134; refine (srl_any _ _ _ (by exact hL.grown (Grown.alloc (Grown.refl _) _ _)) ha ha2 hf hf2).mono ?_; rintro e w' ⟨rfl, hg⟩)
        go_ret2
        exact ⟨rfl, Grown.step (Grown.alloc (Grown.refl _) _ _) hg⟩
end Go.Proofs.YtdkibohpdkdooaaGreatDoor
