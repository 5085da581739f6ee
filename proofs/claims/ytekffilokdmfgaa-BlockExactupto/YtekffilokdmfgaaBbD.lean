/- Block: the law's looks. -/
import Derived.Test.YtekffilokdmfgaaBbC
namespace Go.Proofs.Ytekffilokdmfgaa
open Go.RowKit
set_option linter.unusedVariables false
set_option linter.unusedSimpArgs false
variable {w w' W : World} {base pb n : Nat} {S K : Nat → Prop} {m : Int} {v u : Value} {L : Bd} {f hf : Nat → Int} {H : Nat}
/-- a cell of a row of one cell each -/
theorem own_at1 {j : Nat} {ty : TypeId} {x : Value} {xs : List Value} (h : w.ownsRow base ty 1 v n xs) (hj : xs[j]? = some x) : ∃ g c, v = .slice (some ⟨g, 0, none⟩) n c ∧ w.cell? ⟨g, j, none⟩ = some x := by
  have hl := (List.getElem?_eq_some_iff.1 hj).1
  have h1 := h.1
  rcases own_cases h with ⟨_, hn, _⟩ | ⟨g, cap, rfl, c1, c2, _⟩
  · omega
  · have := own_cell h j (by omega)
    rw [Nat.zero_add] at this
    exact ⟨g, cap, rfl, by rw [this]; exact hj⟩
theorem own_sl {ty : TypeId} {xs : List Value} (h : w.ownsRow base ty 1 v n xs) : ∃ a c, v = .slice a n c ∧ n ≤ c ∧ c ≤ 9223372036854775807 := by
  rcases own_cases h with ⟨rfl, rfl, _⟩ | ⟨g, cap, rfl, h1, h2, _⟩
  · exact ⟨_, _, rfl, Nat.le_refl _, Nat.zero_le _⟩
  · exact ⟨_, _, rfl, h1, by unfold maxLen at h2; omega⟩
set_option maxRecDepth 100000 in
set_option maxHeartbeats 2000000 in
theorem looksB_any (h : Bf S base pb W L H hf) : Calls Try.prog 5 #[.pointer (some ⟨pb, 0, none⟩)] W fun e w' => e = .returned (.bool true) ∧ Up W w' := by
  obtain ⟨sa, sc, hsv, s1, s2⟩ := own_sl h.bl.lo
  obtain ⟨ma, mc, hmv, m1, m2⟩ := own_sl h.bl.mo
  obtain ⟨ha, hc, hhv, h1, h2⟩ := own_sl h.ho
  obtain ⟨wa, wc, hwv, w1, w2⟩ := own_sl h.wo
  have HSame : Hid (∀ w, Up W w → Calls Try.prog 14 #[.slice ha H hc, .slice wa H wc] w fun e w' => e = .returned (.bool true) ∧ Up w w') := fun w u => by
    rw [← hhv, ← hwv]
    exact same_own (ownsRow_up h.ho u) (ownsRow_up h.wo u) h.h8
  obtain ⟨N, hN⟩ : ∃ N, N = L.es.length := ⟨_, rfl⟩
  have HK : Hid (∀ w, Up W w → w.cell? ⟨pb, 2, none⟩ = some (.slice sa N sc) ∧ w.cell? ⟨pb, 3, none⟩ = some (.slice ma N mc)) := fun w u => ⟨cell_up u (by rw [hN, ← hsv]; exact heap_cell h.bl.blk rfl), cell_up u (by rw [hN, ← hmv]; exact heap_cell h.bl.blk rfl)⟩
  have kh : W.cell? ⟨pb, 4, none⟩ = some (.slice ha H hc) := by rw [← hhv]; exact heap_cell h.bl.blk rfl
  have kw : W.cell? ⟨pb, 5, none⟩ = some (.slice wa H wc) := by rw [← hwv]; exact heap_cell h.bl.blk rfl
  have HR : Hid (∀ (i : Nat), i < N → ∃ m gs gm la ln lc b o, sa = some ⟨gs, 0, none⟩ ∧ ma = some ⟨gm, 0, none⟩ ∧ ln ≤ lc ∧ lc ≤ 9223372036854775807 ∧ (∀ w, Up W w → w.cell? ⟨gs, i, none⟩ = some (.slice la ln lc) ∧ w.cell? ⟨gm, i, none⟩ = some (.int .u8 m)) ∧ (0 < ln → la = some ⟨b, o, none⟩) ∧ (∀ k, k < ln → ∀ w, Up W w → w.cell? ⟨b, o + k, none⟩ = some (.int .u8 m))) := fun i hi => by
    obtain ⟨e, he⟩ : ∃ e, L.es[i]? = some e := ⟨_, List.getElem?_eq_getElem (by omega)⟩
    obtain ⟨x, hx⟩ : ∃ x, L.ms[i]? = some x := ⟨_, List.getElem?_eq_getElem (by rw [h.bl.len]; omega)⟩
    obtain ⟨m, n, rfl, ⟨la, lc, rfl, l1, l2, l3⟩, _⟩ := h.bl.en i e x he hx
    obtain ⟨gs, cs, e1, k1⟩ := own_at1 h.bl.lo he
    obtain ⟨gm, cm, e2, k2⟩ := own_at1 h.bl.mo hx
    rw [hsv] at e1
    rw [hmv] at e2
    injection e1 with e1
    injection e2 with e2
    have l9 : lc ≤ 9223372036854775807 := by unfold maxLen at l2; omega
    by_cases h0 : 0 < n
    · obtain ⟨g, o, e3, l4⟩ := l3 h0
      exact ⟨m, gs, gm, la, n, lc, g, o, e1, e2, l1, l9, fun w u => ⟨cell_up u k1, cell_up u k2⟩, fun _ => e3, fun k hk w u => cell_up u (l4 k hk)⟩
    · exact ⟨m, gs, gm, la, n, lc, 0, 0, e1, e2, l1, l9, fun w u => ⟨cell_up u k1, cell_up u k2⟩, fun q => absurd q h0, fun k hk => absurd hk (by omega)⟩
  rw [← hN] at s1 m1
  clear h hsv hmv hhv hwv hN
  go_enter Try.func5, Try.ntmps5
  go_wp2_with fail
  refine wp_region_held_drew (S := fun w => w.cell? ⟨pb, 4, none⟩ = some (.slice ha H hc) ∧ w.cell? ⟨pb, 5, none⟩ = some (.slice wa H wc)) (by kernel_rfl) ⟨kh, kw⟩ (fun hHeld => ?_)
  have HU2 : Hid (Up W W.drew) := (Up.refl W).drew
  generalize World.drew W = wd at HU2 hHeld ⊢
  refine wpAnyH_take (i := 0) (v := ?_) (by simp only [List.getElem?_toArray, List.getElem?_cons_zero]; rfl) (by kernel_rfl) (by kernel_rfl) (by kernel_rfl) (by intro _ _ _ h; exact h) (Or.inl ⟨by rfl, ?_⟩) (by assumption) ?_
  rotate_left
  · (intro w hSw; (try dsimp only at hSw); obtain ⟨hSa, hSb⟩ := hSw; go_simp <;> with_reducible rfl)
  try simp only [Act.put, List.setIfInBounds_toArray, List.set_cons_zero, List.set_cons_succ]
  refine wpAnyH_take (i := 1) (v := ?_) (by simp only [List.getElem?_toArray, List.getElem?_cons_succ, List.getElem?_cons_zero]; rfl) (by kernel_rfl) (by kernel_rfl) (by kernel_rfl) (by intro _ _ _ h; exact h) (Or.inl ⟨by rfl, ?_⟩) (by assumption) ?_
  rotate_left
  · (intro w hSw; (try dsimp only at hSw); obtain ⟨hSa, hSb⟩ := hSw; go_simp <;> with_reducible rfl)
  try simp only [Act.put, List.setIfInBounds_toArray, List.set_cons_zero, List.set_cons_succ]
  refine wpAnyH_take (i := 2) (v := ?_) (by simp only [List.getElem?_toArray, List.getElem?_cons_succ, List.getElem?_cons_zero]; rfl) (by kernel_rfl) (by kernel_rfl) (by kernel_rfl) (by intro _ _ _ h; exact h) (Or.inl ⟨by rfl, ?_⟩) (by assumption) ?_
  rotate_left
  · (intro w hSw; (try dsimp only at hSw); obtain ⟨hSa, hSb⟩ := hSw; go_simp <;> with_reducible rfl)
  try simp only [Act.put, List.setIfInBounds_toArray, List.set_cons_zero, List.set_cons_succ]
  refine wpAnyH_take (i := 3) (v := ?_) (by simp only [List.getElem?_toArray, List.getElem?_cons_succ, List.getElem?_cons_zero]; rfl) (by kernel_rfl) (by kernel_rfl) (by kernel_rfl) (by intro _ _ _ h; exact h) (Or.inl ⟨by rfl, ?_⟩) (by assumption) ?_
  rotate_left
  · (intro w hSw; (try dsimp only at hSw); obtain ⟨hSa, hSb⟩ := hSw; go_simp <;> with_reducible rfl)
  try simp only [Act.put, List.setIfInBounds_toArray, List.set_cons_zero, List.set_cons_succ]
  refine wpAnyH_take (i := 4) (v := ?_) (by simp only [List.getElem?_toArray, List.getElem?_cons_succ, List.getElem?_cons_zero]; rfl) (by kernel_rfl) (by kernel_rfl) (by kernel_rfl) (by intro _ _ _ h; exact h) (Or.inl ⟨by rfl, ?_⟩) (by assumption) ?_
  rotate_left
  · (intro w hSw; (try dsimp only at hSw); obtain ⟨hSa, hSb⟩ := hSw; go_simp <;> with_reducible rfl)
  try simp only [Act.put, List.setIfInBounds_toArray, List.set_cons_zero, List.set_cons_succ]
  refine wpAnyH_take (i := 5) (v := ?_) (by simp only [List.getElem?_toArray, List.getElem?_cons_succ, List.getElem?_cons_zero]; rfl) (by kernel_rfl) (by kernel_rfl) (by kernel_rfl) (by intro _ _ _ h; exact h) (Or.inl ⟨by rfl, ?_⟩) (by assumption) ?_
  rotate_left
  · (intro w hSw; (try dsimp only at hSw); obtain ⟨hSa, hSb⟩ := hSw; go_simp <;> with_reducible rfl)
  try simp only [Act.put, List.setIfInBounds_toArray, List.set_cons_zero, List.set_cons_succ]
  refine wpAnyH_take (i := 6) (v := ?_) (by simp only [List.getElem?_toArray, List.getElem?_cons_succ, List.getElem?_cons_zero]; rfl) (by kernel_rfl) (by kernel_rfl) (by kernel_rfl) (by intro _ _ _ h; exact h) (Or.inl ⟨by rfl, ?_⟩) (by assumption) ?_
  rotate_left
  · (intro w hSw; (try dsimp only at hSw); obtain ⟨hSa, hSb⟩ := hSw; go_simp <;> with_reducible rfl)
  try simp only [Act.put, List.setIfInBounds_toArray, List.set_cons_zero, List.set_cons_succ]
  refine wpAnyH_take (i := 7) (v := ?_) (by simp only [List.getElem?_toArray, List.getElem?_cons_succ, List.getElem?_cons_zero]; rfl) (by kernel_rfl) (by kernel_rfl) (by kernel_rfl) (by intro _ _ _ h; exact h) (Or.inl ⟨by rfl, ?_⟩) (by assumption) ?_
  rotate_left
  · (intro w hSw; (try dsimp only at hSw); obtain ⟨hSa, hSb⟩ := hSw; go_simp <;> with_reducible rfl)
  try simp only [Act.put, List.setIfInBounds_toArray, List.set_cons_zero, List.set_cons_succ]
  refine wpAnyH_ready (rs := [8]) (by kernel_rfl) (by simp) ?_
  refine AllReadyH.cons (by simp only [List.getElem?_toArray, List.getElem?_cons_succ, List.getElem?_cons_zero]; rfl) (fun KK hK => ?_) AllReadyH.nil
  go_simp
  refine Calls.mono (HSame.out wd HU2.out) ?_
  rintro e w2 ⟨rfl, u2⟩
  refine hK.out _ _ ⟨cell_up (HU2.out.trans u2) kh, cell_up (HU2.out.trans u2) kw⟩ (fun hHeld => ?_)
  have HU3 : Hid (Up W w2) := HU2.out.trans u2
  clear hK KK u2 HU2 kh kw HSame
  try simp only [Act.put, List.setIfInBounds_toArray, List.set_cons_zero, List.set_cons_succ]
  refine wpAnyH_take (i := 9) (v := ?_) (by simp only [List.getElem?_toArray, List.getElem?_cons_succ, List.getElem?_cons_zero]; rfl) (by kernel_rfl) (by kernel_rfl) (by kernel_rfl) (by intro _ _ _ h; exact h) (Or.inl ⟨by rfl, ?_⟩) (by assumption) ?_
  rotate_left
  · (intro w hSw; (try dsimp only at hSw); obtain ⟨hSa, hSb⟩ := hSw; go_simp <;> with_reducible rfl)
  try simp only [Act.put, List.setIfInBounds_toArray, List.set_cons_zero, List.set_cons_succ]
  refine wpAnyH_done (by kernel_rfl) ?_ _
  clear hHeld
  go_wp2_with fail
  go_loopw [3, 4] (fun I _ wr => ∃ i : Nat, i ≤ N ∧ I = .int .i64 (i : Int) ∧ Hid (Up W wr)) (fun I _ _ => N - (intOf I).toNat)
  case atStart => exact ⟨0, by omega, rfl, HU3⟩
  case round =>
    clear HU3
    obtain ⟨i, hi, rfl, HU⟩ := hrel
    obtain ⟨k3, k4⟩ := HK.out wr HU.out
    by_cases hlt : i < N
    · have d1 : (i : Int) < (N : Int) := by omega
      obtain ⟨m, gs, gm, la, ln, lc, b, o, rfl, rfl, l1, l2, hc, hla, hk⟩ := HR.out i hlt
      have HC : Hid _ := hc
      have HL : Hid _ := hk
      have HA : Hid _ := hla
      clear hc hk hla HR
      go_wp2_with fail
      obtain ⟨w0, hw0⟩ : ∃ w0, w0 = wr := ⟨_, rfl⟩
      have HU0 : Hid (Up W w0) := by rw [hw0]; exact HU.out
      rw [← hw0] at *
      clear HU
      clear hw0
      go_loopw [4] (fun J wr => ∃ j : Nat, j ≤ ln ∧ J = .int .i64 (j : Int) ∧ Hid (Up W wr)) (fun J _ => ln - (intOf J).toNat)
      case atStart => exact ⟨0, by omega, rfl, HU0⟩
      case round =>
        clear HU0
        obtain ⟨j, hj, rfl, HU⟩ := hrel
        clear k3 k4
        obtain ⟨k3, k4⟩ := HK.out wr HU.out
        obtain ⟨k5, k6⟩ := HC.out wr HU.out
        by_cases hjl : j < ln
        · have d2 : (j : Int) < (ln : Int) := by omega
          obtain rfl := HA.out (by omega)
          by_cases hj1 : j = 1000 ∧ 2000 < ln
          · obtain ⟨rfl, hj2⟩ := hj1
            have d3 : (2000 : Int) < (ln : Int) := by omega
            have k7 := HL.out (ln - 1000) (by omega) wr HU.out
            obtain ⟨J, hJ⟩ : ∃ J, J = ln - 1000 := ⟨_, rfl⟩
            have hJ2 : (ln : Int) - 1000 = (J : Int) := by omega
            rw [← hJ] at k7
            have d4 : (J : Int) < (ln : Int) := by omega
            have d5 : J < ln := by omega
            have d6 : 1000 < J := by omega
            clear HL hJ
            go_wp2_with fail
            go_quiet (fail)
            have HV : Hid (Up W (wr.drewN nq)) := HU.out.trans (Up.drewN wr nq)
            clear HU
            go_wp2_with fail
            refine ⟨⟨J + 1, by omega, by first | rfl | (simp; done), HV⟩, ?_⟩
            simp [intOf]
            omega
          · have k7 := HL.out j hjl wr HU.out
            clear HL
            by_cases hj2 : j = 1000
            · subst hj2
              have d3 : ¬ (2000 : Int) < (ln : Int) := by omega
              go_wp2_with fail
              go_quiet (fail)
              have HV : Hid (Up W (wr.drewN nq)) := HU.out.trans (Up.drewN wr nq)
              clear HU
              go_wp2_with fail
              refine ⟨⟨1000 + 1, by omega, by first | rfl | (simp; done), HV⟩, ?_⟩
              simp [intOf]
              omega
            · have d3 : ¬ (j : Int) = 1000 := by omega
              have d4 : ((j : Int) == 1000) = false := by simpa using d3
              go_wp2_with fail
              go_quiet (fail)
              have HV : Hid (Up W (wr.drewN nq)) := HU.out.trans (Up.drewN wr nq)
              clear HU
              go_wp2_with fail
              refine ⟨⟨j + 1, by omega, by first | rfl | (simp; done), HV⟩, ?_⟩
              simp [intOf]
              omega
        · have d2 : ¬ (j : Int) < (ln : Int) := by omega
          go_wp2_with fail
          refine ⟨⟨i + 1, by omega, by first | rfl | (simp; done), HU⟩, ?_⟩
          simp [intOf]
          omega
    · have d1 : ¬ (i : Int) < (N : Int) := by omega
      go_wp2_with fail
      go_ret
      exact ⟨by first | rfl | (simp; done), HU.out⟩
end Go.Proofs.Ytekffilokdmfgaa
