/- What the reference's Shift comes to, op by op, as contracts over the translation. Conditions: bytes are 0 to 255. -/
import Derived.Test.YtlbcodjkcjjoeabDoorRefS
namespace Go.Proofs.YtlbcodjkcjjoeabDoor
open Go.ChangeShapes Go.WideShapes Go.ChangeAt Go.RowKit
set_option linter.unusedVariables false
theorem own_shape {w : World} {B : Nat} {v : Value} {n : Nat} {xs : List Value} (h : w.ownsRow B 4 1 v n xs) (hn : 0 < n) : ∃ g c, v = .slice (some ⟨g, 0, none⟩) n c ∧ n ≤ c := by
  rcases h.2 with ⟨_, h0⟩ | ⟨g, cap, cur, rfl, _, _, hcap, _⟩
  · omega
  · exact ⟨g, cap, rfl, hcap⟩
theorem own_news {w : World} {B g n c : Nat} {xs : List Value} (h : w.ownsRow B 4 1 (.slice (some ⟨g, 0, none⟩) n c) n xs) : ∀ j u, xs[j]? = some u → w.cell? ((⟨g, 0, none⟩ : Addr).add j) = some u := h.cells rfl

set_option maxRecDepth 100000 in
set_option maxHeartbeats 4000000 in
theorem ref_shift0 (A : Nat) (f : Int) (w : World) (hA : A ≤ 255) (hf : 0 ≤ f) (hf2 : f ≤ 255) :
    Calls Tryd.prog 31 #[.int .i64 0, .int .u8 A, .int .u8 f] w fun e w' => e = .returned (.tuple #[.int .u8 (shR 0 A f), .int .u8 (shF 0 A f)]) ∧ Kept w w' := by
  go_enter Tryd.func31, Tryd.ntmps31
  go_wp2_with fail
  refine (bits8 A _ (by omega)).mono ?_
  rintro e w1 ⟨sx, rfl, hx, k1⟩
  obtain ⟨bx, capx, rfl, hbx, hcx, hcell⟩ := hx
  have c0 := hcell 0 (by decide)
  have c7 := hcell 7 (by decide)
  have HC : Hid (∀ i, i < 8 → w1.cell? ⟨bx, i, none⟩ = some (.bool (bitB A i))) := hcell
  clear hcell
  go_wp2_with fail
  refine (has_any _ _ _ hf hf2 (by omega) (by omega)).mono ?_
  rintro e w' ⟨rfl, rfl⟩
  go_wp2_with (first | (at_builtin; refine appM _ rfl (.tmp 20) (.tmp 22) rfl w'.heap.size _ _ _ rfl (World.ownsRow_nil _ _ _ _) ⟨bx, 0, none⟩ 7 _ ((List.range 7).map fun i => Value.bool (bitB A (0 + i))) rfl rfl (newsOf w' bx 8 _ HC.out 0 7 (by decide)) (oneBools 7 _) (by decide) (Nat.le_refl _) ?_; intro up w2 hup hb2; simp only [Nat.zero_add, List.nil_append] at hup; obtain ⟨gu, cu, rfl, hcu⟩ := own_shape hup (by decide); have c0' := (hb2.cell (p := ⟨bx, 0, none⟩) hbx).trans c0; have c7' := (hb2.cell (p := ⟨bx, 7, none⟩) hbx).trans c7; have sz2 := hb2.size; have HC2 : Hid (∀ i, i < 8 → w2.cell? ⟨bx, i, none⟩ = some (.bool (bitB A i))) := fun i hi => (hb2.cell (p := ⟨bx, i, none⟩) hbx).trans (HC.out i hi); clear c0 c7 HC) | (at_builtin; refine appM _ rfl (.tmp 36) (.tmp 37) rfl w'.heap.size _ _ _ rfl (owns_lit w2 w'.heap.size (bitB A 7) sz2) ⟨gu, 0, none⟩ 7 cu ((List.range 7).map fun i => Value.bool (bitB A (0 + i))) rfl rfl (own_news (hup.alloc _)) (oneBools 7 _) (by decide) (by simp; omega) ?_; intro out w3 hout hb3; rw [lowList] at hout; have hrow := brow_of_owns hout (by decide); have K3 : Kept w w3 := k1.step (Kept.ofBelow (((hb2.alloc sz2 _)).trans hb3)); clear hup hb2 hb3 hout HC2) | (go_at_call 57; refine (number8 _ _ _ hrow).mono ?_; rintro e wn ⟨V, rfl, rfl, hV, eV⟩) | (go_at_call 58; refine (flags_any _ _ _ _ _).mono ?_; rintro e wf ⟨rfl, rfl⟩))
  go_ret2
  have fR : (V : Int) = shR 0 A f := by rw [eV.out, lowFin A _ hA]; rw [top A hA]; rfl
  exact ⟨ret2 fR (by rw [fR, topB A hA]; rfl), K3⟩

set_option maxRecDepth 100000 in
set_option maxHeartbeats 4000000 in
theorem ref_shift1 (A : Nat) (f : Int) (w : World) (hA : A ≤ 255) (hf : 0 ≤ f) (hf2 : f ≤ 255) :
    Calls Tryd.prog 31 #[.int .i64 1, .int .u8 A, .int .u8 f] w fun e w' => e = .returned (.tuple #[.int .u8 (shR 1 A f), .int .u8 (shF 1 A f)]) ∧ Kept w w' := by
  go_enter Tryd.func31, Tryd.ntmps31
  go_wp2_with fail
  refine (bits8 A _ (by omega)).mono ?_
  rintro e w1 ⟨sx, rfl, hx, k1⟩
  obtain ⟨bx, capx, rfl, hbx, hcx, hcell⟩ := hx
  have c0 := hcell 0 (by decide)
  have c7 := hcell 7 (by decide)
  have HC : Hid (∀ i, i < 8 → w1.cell? ⟨bx, i, none⟩ = some (.bool (bitB A i))) := hcell
  clear hcell
  go_wp2_with fail
  refine (has_any _ _ _ hf hf2 (by omega) (by omega)).mono ?_
  rintro e w' ⟨rfl, rfl⟩
  cases h0 : bitB A 0
  all_goals
    rw [h0] at c0
    have H0 : Hid (bitB A 0 = _) := h0
    clear h0
    go_wp2_with (first | (at_builtin; refine appM _ rfl (.tmp 20) (.tmp 22) rfl w'.heap.size _ _ _ rfl (World.ownsRow_nil _ _ _ _) ⟨bx, 0, none⟩ 7 _ ((List.range 7).map fun i => Value.bool (bitB A (0 + i))) rfl rfl (newsOf w' bx 8 _ HC.out 0 7 (by decide)) (oneBools 7 _) (by decide) (Nat.le_refl _) ?_; intro up w2 hup hb2; simp only [Nat.zero_add, List.nil_append] at hup; obtain ⟨gu, cu, rfl, hcu⟩ := own_shape hup (by decide); have c0' := (hb2.cell (p := ⟨bx, 0, none⟩) hbx).trans c0; have c7' := (hb2.cell (p := ⟨bx, 7, none⟩) hbx).trans c7; have sz2 := hb2.size; have HC2 : Hid (∀ i, i < 8 → w2.cell? ⟨bx, i, none⟩ = some (.bool (bitB A i))) := fun i hi => (hb2.cell (p := ⟨bx, i, none⟩) hbx).trans (HC.out i hi); clear c0 c7 HC) | (at_builtin; refine appM _ rfl (.tmp 58) (.tmp 60) rfl w'.heap.size _ _ _ rfl (World.ownsRow_nil _ _ _ _) ⟨bx, 1, none⟩ 7 _ ((List.range 7).map fun i => Value.bool (bitB A (1 + i))) rfl rfl (newsOf w2 bx 8 _ HC2.out 1 7 (by decide)) (oneBools 7 (fun i => bitB A (1 + i))) (by decide) sz2 ?_; intro out w3 hout hb3; have c0'' := (hb3.cell (p := ⟨bx, 0, none⟩) hbx).trans c0'; have c7'' := (hb3.cell (p := ⟨bx, 7, none⟩) hbx).trans c7'; have hb23 := hb2.trans hb3; have sz3 := hb23.size; clear hup HC2 c0' c7' hb2 hb3) | (at_builtin; refine app _ rfl (.tmp 85) (.tmp 87) rfl w'.heap.size _ _ _ rfl hout _ rfl (by decide) sz3 ?_; intro o4 w4 ho4 hb4 hk4; rw [highList] at ho4; have hrow := brow_of_owns ho4 (by decide); have K3 : Kept w w4 := k1.step (Kept.ofBelow (hb23.trans hb4)); clear hout hb23 hb4 hk4 ho4) | (go_at_call 57; refine (number8 _ _ _ hrow).mono ?_; rintro e wn ⟨V, rfl, rfl, hV, eV⟩) | (go_at_call 58; refine (flags_any _ _ _ _ _).mono ?_; rintro e wf ⟨rfl, rfl⟩))
    go_ret2
    have fR : (V : Int) = shR 1 A f := by rw [eV.out, highFin A _ hA, ← H0.out, low A hA]; rfl
    exact ⟨ret2 fR (by rw [fR]; show flg _ false false _ = flg (shR 1 A f == 0) false false ((A : Int) % 2 == 1); rw [← lowB A hA, H0.out]), K3⟩

set_option maxRecDepth 100000 in
set_option maxHeartbeats 4000000 in
theorem ref_shift2 (A : Nat) (f : Int) (w : World) (hA : A ≤ 255) (hf : 0 ≤ f) (hf2 : f ≤ 255) :
    Calls Tryd.prog 31 #[.int .i64 2, .int .u8 A, .int .u8 f] w fun e w' => e = .returned (.tuple #[.int .u8 (shR 2 A f), .int .u8 (shF 2 A f)]) ∧ Kept w w' := by
  go_enter Tryd.func31, Tryd.ntmps31
  go_wp2_with fail
  refine (bits8 A _ (by omega)).mono ?_
  rintro e w1 ⟨sx, rfl, hx, k1⟩
  obtain ⟨bx, capx, rfl, hbx, hcx, hcell⟩ := hx
  have c0 := hcell 0 (by decide)
  have c7 := hcell 7 (by decide)
  have HC : Hid (∀ i, i < 8 → w1.cell? ⟨bx, i, none⟩ = some (.bool (bitB A i))) := hcell
  clear hcell
  go_wp2_with fail
  refine (has_any _ _ _ hf hf2 (by omega) (by omega)).mono ?_
  rintro e w' ⟨rfl, rfl⟩
  go_wp2_with (first | (at_builtin; refine appM _ rfl (.tmp 20) (.tmp 22) rfl w'.heap.size _ _ _ rfl (World.ownsRow_nil _ _ _ _) ⟨bx, 0, none⟩ 7 _ ((List.range 7).map fun i => Value.bool (bitB A (0 + i))) rfl rfl (newsOf w' bx 8 _ HC.out 0 7 (by decide)) (oneBools 7 _) (by decide) (Nat.le_refl _) ?_; intro up w2 hup hb2; simp only [Nat.zero_add, List.nil_append] at hup; obtain ⟨gu, cu, rfl, hcu⟩ := own_shape hup (by decide); have c0' := (hb2.cell (p := ⟨bx, 0, none⟩) hbx).trans c0; have c7' := (hb2.cell (p := ⟨bx, 7, none⟩) hbx).trans c7; have sz2 := hb2.size; have HC2 : Hid (∀ i, i < 8 → w2.cell? ⟨bx, i, none⟩ = some (.bool (bitB A i))) := fun i hi => (hb2.cell (p := ⟨bx, i, none⟩) hbx).trans (HC.out i hi); clear c0 c7 HC) | (at_builtin; refine appM _ rfl (.tmp 42) (.tmp 43) rfl w'.heap.size _ _ _ rfl (owns_lit w2 w'.heap.size (f / 16 % 2 == 1) sz2) ⟨gu, 0, none⟩ 7 cu ((List.range 7).map fun i => Value.bool (bitB A (0 + i))) rfl rfl (own_news (hup.alloc _)) (oneBools 7 _) (by decide) (by simp; omega) ?_; intro out w3 hout hb3; rw [lowList] at hout; have hrow := brow_of_owns hout (by decide); have K3 : Kept w w3 := k1.step (Kept.ofBelow (((hb2.alloc sz2 _)).trans hb3)); clear hup hb2 hb3 hout HC2) | (go_at_call 57; refine (number8 _ _ _ hrow).mono ?_; rintro e wn ⟨V, rfl, rfl, hV, eV⟩) | (go_at_call 58; refine (flags_any _ _ _ _ _).mono ?_; rintro e wf ⟨rfl, rfl⟩))
  go_ret2
  have fR : (V : Int) = shR 2 A f := by rw [eV.out, lowFin A _ hA]; rw [b2n_cof]; rfl
  exact ⟨ret2 fR (by rw [fR, topB A hA]; rfl), K3⟩

set_option maxRecDepth 100000 in
set_option maxHeartbeats 4000000 in
theorem ref_shift3 (A : Nat) (f : Int) (w : World) (hA : A ≤ 255) (hf : 0 ≤ f) (hf2 : f ≤ 255) :
    Calls Tryd.prog 31 #[.int .i64 3, .int .u8 A, .int .u8 f] w fun e w' => e = .returned (.tuple #[.int .u8 (shR 3 A f), .int .u8 (shF 3 A f)]) ∧ Kept w w' := by
  go_enter Tryd.func31, Tryd.ntmps31
  go_wp2_with fail
  refine (bits8 A _ (by omega)).mono ?_
  rintro e w1 ⟨sx, rfl, hx, k1⟩
  obtain ⟨bx, capx, rfl, hbx, hcx, hcell⟩ := hx
  have c0 := hcell 0 (by decide)
  have c7 := hcell 7 (by decide)
  have HC : Hid (∀ i, i < 8 → w1.cell? ⟨bx, i, none⟩ = some (.bool (bitB A i))) := hcell
  clear hcell
  go_wp2_with fail
  refine (has_any _ _ _ hf hf2 (by omega) (by omega)).mono ?_
  rintro e w' ⟨rfl, rfl⟩
  cases hC : (f / 16 % 2 == 1)
  all_goals
    have HH : Hid ((f / 16 % 2 == 1) = _) := hC
    go_wp2_with (first | (at_builtin; refine appM _ rfl (.tmp 20) (.tmp 22) rfl w'.heap.size _ _ _ rfl (World.ownsRow_nil _ _ _ _) ⟨bx, 0, none⟩ 7 _ ((List.range 7).map fun i => Value.bool (bitB A (0 + i))) rfl rfl (newsOf w' bx 8 _ HC.out 0 7 (by decide)) (oneBools 7 _) (by decide) (Nat.le_refl _) ?_; intro up w2 hup hb2; simp only [Nat.zero_add, List.nil_append] at hup; obtain ⟨gu, cu, rfl, hcu⟩ := own_shape hup (by decide); have c0' := (hb2.cell (p := ⟨bx, 0, none⟩) hbx).trans c0; have c7' := (hb2.cell (p := ⟨bx, 7, none⟩) hbx).trans c7; have sz2 := hb2.size; have HC2 : Hid (∀ i, i < 8 → w2.cell? ⟨bx, i, none⟩ = some (.bool (bitB A i))) := fun i hi => (hb2.cell (p := ⟨bx, i, none⟩) hbx).trans (HC.out i hi); clear c0 c7 HC) | (at_builtin; refine appM _ rfl (.tmp 58) (.tmp 60) rfl w'.heap.size _ _ _ rfl (World.ownsRow_nil _ _ _ _) ⟨bx, 1, none⟩ 7 _ ((List.range 7).map fun i => Value.bool (bitB A (1 + i))) rfl rfl (newsOf w2 bx 8 _ HC2.out 1 7 (by decide)) (oneBools 7 (fun i => bitB A (1 + i))) (by decide) sz2 ?_; intro out w3 hout hb3; have c0'' := (hb3.cell (p := ⟨bx, 0, none⟩) hbx).trans c0'; have c7'' := (hb3.cell (p := ⟨bx, 7, none⟩) hbx).trans c7'; have hb23 := hb2.trans hb3; have sz3 := hb23.size; clear hup HC2 c0' c7' hb2 hb3) | (at_builtin; refine app _ rfl (.tmp 85) (.tmp 87) rfl w'.heap.size _ _ _ rfl hout _ rfl (by decide) sz3 ?_; intro o4 w4 ho4 hb4 hk4; rw [highList] at ho4; have hrow := brow_of_owns ho4 (by decide); have K3 : Kept w w4 := k1.step (Kept.ofBelow (hb23.trans hb4)); clear hout hb23 hb4 hk4 ho4) | (go_at_call 57; refine (number8 _ _ _ hrow).mono ?_; rintro e wn ⟨V, rfl, rfl, hV, eV⟩) | (go_at_call 58; refine (flags_any _ _ _ _ _).mono ?_; rintro e wf ⟨rfl, rfl⟩))
    go_ret2
    have fR : (V : Int) = shR 3 A f := by rw [eV.out, highFin A _ hA, ← HH.out, b2n_cof]; rfl
    exact ⟨ret2 fR (by rw [fR, lowB A hA]; rfl), K3⟩

set_option maxRecDepth 100000 in
set_option maxHeartbeats 4000000 in
theorem ref_shift4 (A : Nat) (f : Int) (w : World) (hA : A ≤ 255) (hf : 0 ≤ f) (hf2 : f ≤ 255) :
    Calls Tryd.prog 31 #[.int .i64 4, .int .u8 A, .int .u8 f] w fun e w' => e = .returned (.tuple #[.int .u8 (shR 4 A f), .int .u8 (shF 4 A f)]) ∧ Kept w w' := by
  go_enter Tryd.func31, Tryd.ntmps31
  go_wp2_with fail
  refine (bits8 A _ (by omega)).mono ?_
  rintro e w1 ⟨sx, rfl, hx, k1⟩
  obtain ⟨bx, capx, rfl, hbx, hcx, hcell⟩ := hx
  have c0 := hcell 0 (by decide)
  have c7 := hcell 7 (by decide)
  have HC : Hid (∀ i, i < 8 → w1.cell? ⟨bx, i, none⟩ = some (.bool (bitB A i))) := hcell
  clear hcell
  go_wp2_with fail
  refine (has_any _ _ _ hf hf2 (by omega) (by omega)).mono ?_
  rintro e w' ⟨rfl, rfl⟩
  go_wp2_with (first | (at_builtin; refine appM _ rfl (.tmp 20) (.tmp 22) rfl w'.heap.size _ _ _ rfl (World.ownsRow_nil _ _ _ _) ⟨bx, 0, none⟩ 7 _ ((List.range 7).map fun i => Value.bool (bitB A (0 + i))) rfl rfl (newsOf w' bx 8 _ HC.out 0 7 (by decide)) (oneBools 7 _) (by decide) (Nat.le_refl _) ?_; intro up w2 hup hb2; simp only [Nat.zero_add, List.nil_append] at hup; obtain ⟨gu, cu, rfl, hcu⟩ := own_shape hup (by decide); have c0' := (hb2.cell (p := ⟨bx, 0, none⟩) hbx).trans c0; have c7' := (hb2.cell (p := ⟨bx, 7, none⟩) hbx).trans c7; have sz2 := hb2.size; have HC2 : Hid (∀ i, i < 8 → w2.cell? ⟨bx, i, none⟩ = some (.bool (bitB A i))) := fun i hi => (hb2.cell (p := ⟨bx, i, none⟩) hbx).trans (HC.out i hi); clear c0 c7 HC) | (at_builtin; refine appM _ rfl (.tmp 47) (.tmp 48) rfl w'.heap.size _ _ _ rfl (owns_lit w2 w'.heap.size false sz2) ⟨gu, 0, none⟩ 7 cu ((List.range 7).map fun i => Value.bool (bitB A (0 + i))) rfl rfl (own_news (hup.alloc _)) (oneBools 7 _) (by decide) (by simp; omega) ?_; intro out w3 hout hb3; rw [lowList] at hout; have hrow := brow_of_owns hout (by decide); have K3 : Kept w w3 := k1.step (Kept.ofBelow (((hb2.alloc sz2 _)).trans hb3)); clear hup hb2 hb3 hout HC2) | (go_at_call 57; refine (number8 _ _ _ hrow).mono ?_; rintro e wn ⟨V, rfl, rfl, hV, eV⟩) | (go_at_call 58; refine (flags_any _ _ _ _ _).mono ?_; rintro e wf ⟨rfl, rfl⟩))
  go_ret2
  have fR : (V : Int) = shR 4 A f := by rw [eV.out, lowFin A _ hA]; exact Int.add_zero _
  exact ⟨ret2 fR (by rw [fR, topB A hA]; rfl), K3⟩

set_option maxRecDepth 100000 in
set_option maxHeartbeats 4000000 in
theorem ref_shift5 (A : Nat) (f : Int) (w : World) (hA : A ≤ 255) (hf : 0 ≤ f) (hf2 : f ≤ 255) :
    Calls Tryd.prog 31 #[.int .i64 5, .int .u8 A, .int .u8 f] w fun e w' => e = .returned (.tuple #[.int .u8 (shR 5 A f), .int .u8 (shF 5 A f)]) ∧ Kept w w' := by
  go_enter Tryd.func31, Tryd.ntmps31
  go_wp2_with fail
  refine (bits8 A _ (by omega)).mono ?_
  rintro e w1 ⟨sx, rfl, hx, k1⟩
  obtain ⟨bx, capx, rfl, hbx, hcx, hcell⟩ := hx
  have c0 := hcell 0 (by decide)
  have c7 := hcell 7 (by decide)
  have HC : Hid (∀ i, i < 8 → w1.cell? ⟨bx, i, none⟩ = some (.bool (bitB A i))) := hcell
  clear hcell
  go_wp2_with fail
  refine (has_any _ _ _ hf hf2 (by omega) (by omega)).mono ?_
  rintro e w' ⟨rfl, rfl⟩
  go_wp2_with (first | (at_builtin; refine appM _ rfl (.tmp 20) (.tmp 22) rfl w'.heap.size _ _ _ rfl (World.ownsRow_nil _ _ _ _) ⟨bx, 0, none⟩ 7 _ ((List.range 7).map fun i => Value.bool (bitB A (0 + i))) rfl rfl (newsOf w' bx 8 _ HC.out 0 7 (by decide)) (oneBools 7 _) (by decide) (Nat.le_refl _) ?_; intro up w2 hup hb2; simp only [Nat.zero_add, List.nil_append] at hup; obtain ⟨gu, cu, rfl, hcu⟩ := own_shape hup (by decide); have c0' := (hb2.cell (p := ⟨bx, 0, none⟩) hbx).trans c0; have c7' := (hb2.cell (p := ⟨bx, 7, none⟩) hbx).trans c7; have sz2 := hb2.size; have HC2 : Hid (∀ i, i < 8 → w2.cell? ⟨bx, i, none⟩ = some (.bool (bitB A i))) := fun i hi => (hb2.cell (p := ⟨bx, i, none⟩) hbx).trans (HC.out i hi); clear c0 c7 HC) | (at_builtin; refine appM _ rfl (.tmp 58) (.tmp 60) rfl w'.heap.size _ _ _ rfl (World.ownsRow_nil _ _ _ _) ⟨bx, 1, none⟩ 7 _ ((List.range 7).map fun i => Value.bool (bitB A (1 + i))) rfl rfl (newsOf w2 bx 8 _ HC2.out 1 7 (by decide)) (oneBools 7 (fun i => bitB A (1 + i))) (by decide) sz2 ?_; intro out w3 hout hb3; have c0'' := (hb3.cell (p := ⟨bx, 0, none⟩) hbx).trans c0'; have c7'' := (hb3.cell (p := ⟨bx, 7, none⟩) hbx).trans c7'; have hb23 := hb2.trans hb3; have sz3 := hb23.size; clear hup HC2 c0' c7' hb2 hb3) | (at_builtin; refine app _ rfl (.tmp 85) (.tmp 87) rfl w'.heap.size _ _ _ rfl hout _ rfl (by decide) sz3 ?_; intro o4 w4 ho4 hb4 hk4; rw [highList] at ho4; have hrow := brow_of_owns ho4 (by decide); have K3 : Kept w w4 := k1.step (Kept.ofBelow (hb23.trans hb4)); clear hout hb23 hb4 hk4 ho4) | (go_at_call 57; refine (number8 _ _ _ hrow).mono ?_; rintro e wn ⟨V, rfl, rfl, hV, eV⟩) | (go_at_call 58; refine (flags_any _ _ _ _ _).mono ?_; rintro e wf ⟨rfl, rfl⟩))
  go_ret2
  have fR : (V : Int) = shR 5 A f := by rw [eV.out, highFin A _ hA]; rw [top A hA]; rfl
  exact ⟨ret2 fR (by rw [fR, lowB A hA]; rfl), K3⟩

set_option maxRecDepth 100000 in
set_option maxHeartbeats 4000000 in
theorem ref_shift6 (A : Nat) (f : Int) (w : World) (hA : A ≤ 255) (hf : 0 ≤ f) (hf2 : f ≤ 255) :
    Calls Tryd.prog 31 #[.int .i64 6, .int .u8 A, .int .u8 f] w fun e w' => e = .returned (.tuple #[.int .u8 (shR 6 A f), .int .u8 (shF 6 A f)]) ∧ Kept w w' := by
  go_enter Tryd.func31, Tryd.ntmps31
  go_wp2_with fail
  refine (bits8 A _ (by omega)).mono ?_
  rintro e w1 ⟨sx, rfl, hx, k1⟩
  obtain ⟨bx, capx, rfl, hbx, hcx, hcell⟩ := hx
  have c0 := hcell 0 (by decide)
  have c7 := hcell 7 (by decide)
  have HC : Hid (∀ i, i < 8 → w1.cell? ⟨bx, i, none⟩ = some (.bool (bitB A i))) := hcell
  clear hcell
  go_wp2_with fail
  refine (has_any _ _ _ hf hf2 (by omega) (by omega)).mono ?_
  rintro e w' ⟨rfl, rfl⟩
  go_wp2_with (first | (at_builtin; refine appM _ rfl (.tmp 20) (.tmp 22) rfl w'.heap.size _ _ _ rfl (World.ownsRow_nil _ _ _ _) ⟨bx, 0, none⟩ 7 _ ((List.range 7).map fun i => Value.bool (bitB A (0 + i))) rfl rfl (newsOf w' bx 8 _ HC.out 0 7 (by decide)) (oneBools 7 _) (by decide) (Nat.le_refl _) ?_; intro up w2 hup hb2; simp only [Nat.zero_add, List.nil_append] at hup; obtain ⟨gu, cu, rfl, hcu⟩ := own_shape hup (by decide); have c0' := (hb2.cell (p := ⟨bx, 0, none⟩) hbx).trans c0; have c7' := (hb2.cell (p := ⟨bx, 7, none⟩) hbx).trans c7; have sz2 := hb2.size; have HC2 : Hid (∀ i, i < 8 → w2.cell? ⟨bx, i, none⟩ = some (.bool (bitB A i))) := fun i hi => (hb2.cell (p := ⟨bx, i, none⟩) hbx).trans (HC.out i hi); clear c0 c7 HC) | (at_builtin; refine appM _ rfl (.tmp 91) (.tmp 93) rfl w'.heap.size _ _ _ rfl (World.ownsRow_nil _ _ _ _) ⟨bx, 4, none⟩ 4 _ ((List.range 4).map fun i => Value.bool (bitB A (4 + i))) rfl rfl (newsOf w2 bx 8 _ HC2.out 4 4 (by decide)) (oneBools 4 (fun i => bitB A (4 + i))) (by decide) sz2 ?_; intro out w3 hout hb3; have hb23 := hb2.trans hb3; have sz3 := hb23.size; have HC3 : Hid (∀ i, i < 8 → w3.cell? ⟨bx, i, none⟩ = some (.bool (bitB A i))) := fun i hi => (hb3.cell (p := ⟨bx, i, none⟩) hbx).trans (HC2.out i hi); clear hup HC2 c0' c7' hb2 hb3) | (at_builtin; refine appM _ rfl (.tmp 95) (.tmp 97) rfl w'.heap.size _ _ _ rfl hout ⟨bx, 0, none⟩ 4 _ ((List.range 4).map fun i => Value.bool (bitB A (0 + i))) rfl rfl (newsOf w3 bx 8 _ HC3.out 0 4 (by decide)) (oneBools 4 _) (by decide) sz3 ?_; intro o4 w4 ho4 hb4; rw [halvesList] at ho4; have hrow := brow_of_owns ho4 (by decide); have K3 : Kept w w4 := k1.step (Kept.ofBelow (hb23.trans hb4)); clear hout hb23 hb4 ho4 HC3) | (go_at_call 57; refine (number8 _ _ _ hrow).mono ?_; rintro e wn ⟨V, rfl, rfl, hV, eV⟩) | (go_at_call 58; refine (flags_any _ _ _ _ _).mono ?_; rintro e wf ⟨rfl, rfl⟩))
  go_ret2
  have fR : (V : Int) = shR 6 A f := by rw [eV.out, halvesFin A hA]; rfl
  exact ⟨ret2 fR (by rw [fR]; rfl), K3⟩

set_option maxRecDepth 100000 in
set_option maxHeartbeats 4000000 in
theorem ref_shift7 (A : Nat) (f : Int) (w : World) (hA : A ≤ 255) (hf : 0 ≤ f) (hf2 : f ≤ 255) :
    Calls Tryd.prog 31 #[.int .i64 7, .int .u8 A, .int .u8 f] w fun e w' => e = .returned (.tuple #[.int .u8 (shR 7 A f), .int .u8 (shF 7 A f)]) ∧ Kept w w' := by
  go_enter Tryd.func31, Tryd.ntmps31
  go_wp2_with fail
  refine (bits8 A _ (by omega)).mono ?_
  rintro e w1 ⟨sx, rfl, hx, k1⟩
  obtain ⟨bx, capx, rfl, hbx, hcx, hcell⟩ := hx
  have c0 := hcell 0 (by decide)
  have c7 := hcell 7 (by decide)
  have HC : Hid (∀ i, i < 8 → w1.cell? ⟨bx, i, none⟩ = some (.bool (bitB A i))) := hcell
  clear hcell
  go_wp2_with fail
  refine (has_any _ _ _ hf hf2 (by omega) (by omega)).mono ?_
  rintro e w' ⟨rfl, rfl⟩
  go_wp2_with (first | (at_builtin; refine appM _ rfl (.tmp 20) (.tmp 22) rfl w'.heap.size _ _ _ rfl (World.ownsRow_nil _ _ _ _) ⟨bx, 0, none⟩ 7 _ ((List.range 7).map fun i => Value.bool (bitB A (0 + i))) rfl rfl (newsOf w' bx 8 _ HC.out 0 7 (by decide)) (oneBools 7 _) (by decide) (Nat.le_refl _) ?_; intro up w2 hup hb2; simp only [Nat.zero_add, List.nil_append] at hup; obtain ⟨gu, cu, rfl, hcu⟩ := own_shape hup (by decide); have c0' := (hb2.cell (p := ⟨bx, 0, none⟩) hbx).trans c0; have c7' := (hb2.cell (p := ⟨bx, 7, none⟩) hbx).trans c7; have sz2 := hb2.size; have HC2 : Hid (∀ i, i < 8 → w2.cell? ⟨bx, i, none⟩ = some (.bool (bitB A i))) := fun i hi => (hb2.cell (p := ⟨bx, i, none⟩) hbx).trans (HC.out i hi); clear c0 c7 HC) | (at_builtin; refine appM _ rfl (.tmp 58) (.tmp 60) rfl w'.heap.size _ _ _ rfl (World.ownsRow_nil _ _ _ _) ⟨bx, 1, none⟩ 7 _ ((List.range 7).map fun i => Value.bool (bitB A (1 + i))) rfl rfl (newsOf w2 bx 8 _ HC2.out 1 7 (by decide)) (oneBools 7 (fun i => bitB A (1 + i))) (by decide) sz2 ?_; intro out w3 hout hb3; have c0'' := (hb3.cell (p := ⟨bx, 0, none⟩) hbx).trans c0'; have c7'' := (hb3.cell (p := ⟨bx, 7, none⟩) hbx).trans c7'; have hb23 := hb2.trans hb3; have sz3 := hb23.size; clear hup HC2 c0' c7' hb2 hb3) | (at_builtin; refine app _ rfl (.tmp 85) (.tmp 87) rfl w'.heap.size _ _ _ rfl hout _ rfl (by decide) sz3 ?_; intro o4 w4 ho4 hb4 hk4; rw [highList] at ho4; have hrow := brow_of_owns ho4 (by decide); have K3 : Kept w w4 := k1.step (Kept.ofBelow (hb23.trans hb4)); clear hout hb23 hb4 hk4 ho4) | (go_at_call 57; refine (number8 _ _ _ hrow).mono ?_; rintro e wn ⟨V, rfl, rfl, hV, eV⟩) | (go_at_call 58; refine (flags_any _ _ _ _ _).mono ?_; rintro e wf ⟨rfl, rfl⟩))
  go_ret2
  have fR : (V : Int) = shR 7 A f := by rw [eV.out, highFin A _ hA]; show (A : Int) / 2 + 0 * 128 = _; rw [Int.zero_mul]; exact Int.add_zero _
  exact ⟨ret2 fR (by rw [fR, lowB A hA]; rfl), K3⟩

set_option maxRecDepth 100000 in
set_option maxHeartbeats 4000000 in
theorem ref_shiftNone (op : Int) (A : Nat) (f : Int) (w : World) (ho : op < 0 ∨ 8 ≤ op) (hA : A ≤ 255) (hf : 0 ≤ f) (hf2 : f ≤ 255) :
    Calls Tryd.prog 31 #[.int .i64 op, .int .u8 A, .int .u8 f] w fun e w' => e = .returned (.tuple #[.int .u8 (shR op A f), .int .u8 (shF op A f)]) ∧ Kept w w' := by
  have e1 : Hid (shR op A f = A) := shR_none op A f ho
  have e2 : Hid (shF op A f = f / 16 * 16) := shF_none op A f ho
  have n0 : (op == 0) = false := beq_eq_false_iff_ne.2 (by omega)
  have n1 : (op == 1) = false := beq_eq_false_iff_ne.2 (by omega)
  have n2 : (op == 2) = false := beq_eq_false_iff_ne.2 (by omega)
  have n3 : (op == 3) = false := beq_eq_false_iff_ne.2 (by omega)
  have n4 : (op == 4) = false := beq_eq_false_iff_ne.2 (by omega)
  have n5 : (op == 5) = false := beq_eq_false_iff_ne.2 (by omega)
  have n6 : (op == 6) = false := beq_eq_false_iff_ne.2 (by omega)
  have n7 : (op == 7) = false := beq_eq_false_iff_ne.2 (by omega)
  clear ho
  go_enter Tryd.func31, Tryd.ntmps31
  go_wp2_with fail
  refine (bits8 A _ (by omega)).mono ?_
  rintro e w1 ⟨sx, rfl, hx, k1⟩
  obtain ⟨bx, capx, rfl, hbx, hcx, hcell⟩ := hx
  have c0 := hcell 0 (by decide)
  have c7 := hcell 7 (by decide)
  have HC : Hid (∀ i, i < 8 → w1.cell? ⟨bx, i, none⟩ = some (.bool (bitB A i))) := hcell
  clear hcell
  go_wp2_with fail
  refine (has_any _ _ _ hf hf2 (by omega) (by omega)).mono ?_
  rintro e w' ⟨rfl, rfl⟩
  go_wp2_with (first | (at_builtin; refine appM _ rfl (.tmp 20) (.tmp 22) rfl w'.heap.size _ _ _ rfl (World.ownsRow_nil _ _ _ _) ⟨bx, 0, none⟩ 7 _ ((List.range 7).map fun i => Value.bool (bitB A (0 + i))) rfl rfl (newsOf w' bx 8 _ HC.out 0 7 (by decide)) (oneBools 7 _) (by decide) (Nat.le_refl _) ?_; intro up w2 hup hb2; simp only [Nat.zero_add, List.nil_append] at hup; obtain ⟨gu, cu, rfl, hcu⟩ := own_shape hup (by decide); have c0' := (hb2.cell (p := ⟨bx, 0, none⟩) hbx).trans c0; have c7' := (hb2.cell (p := ⟨bx, 7, none⟩) hbx).trans c7; have sz2 := hb2.size; have HC2 : Hid (∀ i, i < 8 → w2.cell? ⟨bx, i, none⟩ = some (.bool (bitB A i))) := fun i hi => (hb2.cell (p := ⟨bx, i, none⟩) hbx).trans (HC.out i hi); clear c0 c7 HC) | (go_at_call 60; refine (clean_any _ _ hf hf2).mono ?_; rintro e wf ⟨rfl, rfl⟩))
  go_ret2
  exact ⟨ret2 e1.out.symm e2.out.symm, k1.step (Kept.ofBelow hb2)⟩

theorem ref_shift (op a f : Int) (w : World) (ha : 0 ≤ a) (ha2 : a ≤ 255) (hf : 0 ≤ f) (hf2 : f ≤ 255) :
    Calls Tryd.prog 31 #[.int .i64 op, .int .u8 a, .int .u8 f] w fun e w' => e = .returned (.tuple #[.int .u8 (shR op a f), .int .u8 (shF op a f)]) ∧ Kept w w' := by
  obtain ⟨A, rfl⟩ := Int.eq_ofNat_of_zero_le ha
  have hA : A ≤ 255 := by omega
  by_cases h : op < 0 ∨ 8 ≤ op
  · exact ref_shiftNone op A f w h hA hf hf2
  · have hh : op = 0 ∨ op = 1 ∨ op = 2 ∨ op = 3 ∨ op = 4 ∨ op = 5 ∨ op = 6 ∨ op = 7 := by omega
    rcases hh with rfl | rfl | rfl | rfl | rfl | rfl | rfl | rfl
    · exact ref_shift0 A f w hA hf hf2
    · exact ref_shift1 A f w hA hf hf2
    · exact ref_shift2 A f w hA hf hf2
    · exact ref_shift3 A f w hA hf hf2
    · exact ref_shift4 A f w hA hf hf2
    · exact ref_shift5 A f w hA hf hf2
    · exact ref_shift6 A f w hA hf hf2
    · exact ref_shift7 A f w hA hf hf2
end Go.Proofs.YtlbcodjkcjjoeabDoor
