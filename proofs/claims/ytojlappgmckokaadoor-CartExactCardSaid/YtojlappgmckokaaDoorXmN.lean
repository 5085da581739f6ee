import Derived.Test.YtojlappgmckokaaDoorXmF
/- Cart: the document's Read. -/
namespace Go.Proofs.YtojlappgmckokaaDoor
open Go.Shelf Go.RowKit
set_option linter.unusedVariables false
set_option linter.unusedSimpArgs false
variable {w w' W : World} {C : Ct} {Y : Yd}
set_option maxRecDepth 100000 in
set_option maxHeartbeats 2000000 in
theorem read_0 {a : Int} {on low high pick mode : Nat} {t : ByteArray} {ty bk rm n : Nat} {bt : Bool} {f rf : Nat → Int} (h : RtAt W Y ⟨t, ty, 0, bk, rm, bt, n, f, rf, ⟨0, on, low, high, pick, mode⟩⟩) : Calls Tryd.prog 48 #[.pointer (some ⟨Y.yb, 0, none⟩), .int .i64 a] W fun e w' => e = .returned (.int .u8 (Ct.rd ⟨t, ty, 0, bk, rm, bt, n, f, rf, ⟨0, on, low, high, pick, mode⟩⟩ a)) ∧ Up W w' := by
  obtain ⟨s0, s1, s2, s3, s4, s5⟩ := h.std.nums
  replace s1 : on ≤ 1 := s1
  replace s2 : low ≤ 255 := s2
  replace s3 : high ≤ 1 := s3
  replace s4 : pick ≤ 15 := s4
  replace s5 : mode ≤ 1 := s5
  obtain ⟨n1, n2, n3⟩ := h.nb
  replace n1 : n = bk * 16384 := n1
  replace n2 : 1 ≤ bk := n2
  replace n3 : bk ≤ 128 := n3
  have ncl : n ≤ Y.nc := h.nc.1
  have ncm := h.nc.2
  have rcl : rm ≤ Y.rc := h.rc.1
  have rcm := h.rc.2
  have r1 : rm ≤ 131072 := h.rm.1
  have HRo : Hid (∀ w, Up W w → By w Y.rg n f) := fun w u => h.rom.up u
  have HRa : Hid (∀ w, Up W w → By w Y.rb rm rf) := fun w u => h.ram.up u
  have HOk : Hid (∀ k, 0 ≤ rf k ∧ rf k ≤ 255) := h.ok
  have HSe : Hid (Calls Tryd.prog 64 #[.pointer (some ⟨Y.yb, 0, none⟩), .int .i64 a] W fun e w' => e = .returned (.int .i64 (Ct.see ⟨t, ty, 0, bk, rm, bt, n, f, rf, ⟨0, on, low, high, pick, mode⟩⟩ a)) ∧ w' = W) := seenR_any h
  have HCs : Hid (∀ w, Up W w → w.cell? ⟨Y.yb, 2, none⟩ = some (.int .i64 0) ∧ w.cell? ⟨Y.yb, 3, none⟩ = some (.int .i64 (bk : Int)) ∧ w.cell? ⟨Y.yb, 6, none⟩ = some (.slice (some ⟨Y.rg, 0, none⟩) n Y.nc) ∧ w.cell? ⟨Y.yb, 7, none⟩ = some (.slice (some ⟨Y.rb, 0, none⟩) rm Y.rc) ∧ w.cell? ⟨Y.yb, 9, none⟩ = some (.int .i64 (low : Int)) ∧ w.cell? ⟨Y.yb, 10, none⟩ = some (.int .i64 (high : Int)) ∧ w.cell? ⟨Y.yb, 11, none⟩ = some (.int .i64 (pick : Int)) ∧ w.cell? ⟨Y.yb, 12, none⟩ = some (.int .i64 (mode : Int)) ∧ w.frozen? ⟨Y.yb, 0, none⟩ = false) := fun w u => by
    have hB := (h.up u).blk
    exact ⟨heap_cell hB rfl, heap_cell hB rfl, heap_cell hB rfl, heap_cell hB rfl, heap_cell hB rfl, heap_cell hB rfl, heap_cell hB rfl, heap_cell hB rfl, heap_fz hB⟩
  by_cases hr : ¬ (0 ≤ a ∧ a ≤ 32767)
  · skip
    have HV : Hid (Ct.rd ⟨t, ty, 0, bk, rm, bt, n, f, rf, ⟨0, on, low, high, pick, mode⟩⟩ a = if Ct.here ⟨t, ty, 0, bk, rm, bt, n, f, rf, ⟨0, on, low, high, pick, mode⟩⟩ a then Mp.shows ⟨0, on, low, high, pick, mode⟩ (rf (Ct.at' ⟨t, ty, 0, bk, rm, bt, n, f, rf, ⟨0, on, low, high, pick, mode⟩⟩ a)) else 255) := by
      show Ct.rd ⟨t, ty, 0, bk, rm, bt, n, f, rf, ⟨0, on, low, high, pick, mode⟩⟩ a = _
      unfold Ct.rd
      by_cases h0 : a < 0
      · rw [if_pos h0, if_neg (fun q => by have := q.1; omega)]
      · rw [if_neg h0, if_neg (by omega), if_neg (by omega)]
    obtain ⟨c2, c3, c6, c7, c9, c10, c11, c12, hfz⟩ := HCs.out W (Up.refl W)
    have hz : ¬ (0 : Int) ≤ a ∨ ((0 : Int) ≤ a ∧ ¬ a ≤ 32767) := by omega
    by_cases hh : Ct.here ⟨t, ty, 0, bk, rm, bt, n, f, rf, ⟨0, on, low, high, pick, mode⟩⟩ a
    · have hs : Ct.see ⟨t, ty, 0, bk, rm, bt, n, f, rf, ⟨0, on, low, high, pick, mode⟩⟩ a = ((Ct.at' ⟨t, ty, 0, bk, rm, bt, n, f, rf, ⟨0, on, low, high, pick, mode⟩⟩ a : Nat) : Int) := if_pos hh
      have hl : Ct.at' ⟨t, ty, 0, bk, rm, bt, n, f, rf, ⟨0, on, low, high, pick, mode⟩⟩ a < rm := Ct.pl_lt hh.2.2.1
      have HVx : Hid (Ct.rd ⟨t, ty, 0, bk, rm, bt, n, f, rf, ⟨0, on, low, high, pick, mode⟩⟩ a = Mp.shows ⟨0, on, low, high, pick, mode⟩ (rf (Ct.at' ⟨t, ty, 0, bk, rm, bt, n, f, rf, ⟨0, on, low, high, pick, mode⟩⟩ a))) := by have h9 := HV.out; rw [if_pos hh] at h9; exact h9
      rw [hs] at HSe
      generalize Ct.at' ⟨t, ty, 0, bk, rm, bt, n, f, rf, ⟨0, on, low, high, pick, mode⟩⟩ a = J at HSe hl HVx
      have kJ := (HRa.out W (Up.refl W)).cell J hl
      have lJ : (J : Int) < (rm : Int) := by omega
      have hJ0 : ¬ (J : Int) < 0 := by omega
      have o8 := HOk.out J
      clear hs hh HV h HOk HRo HRa
      generalize rf J = RV at kJ HVx o8
      have HVy : Hid (Ct.rd ⟨t, ty, 0, bk, rm, bt, n, f, rf, ⟨0, on, low, high, pick, mode⟩⟩ a = RV) := by
        show Ct.rd ⟨t, ty, 0, bk, rm, bt, n, f, rf, ⟨0, on, low, high, pick, mode⟩⟩ a = _
        rw [HVx.out]
        rfl
      clear HVx
      rcases hz with hz | ⟨hz, hz2⟩
      · go_enter Tryd.func48, Tryd.ntmps48
        go_wp2_with fail
        refine Calls.mono HSe.out ?_
        rintro e w1 ⟨rfl, hw1⟩
        obtain rfl := hw1.symm
        clear HSe
        go_wp2_with fail
        go_ret
        exact ⟨by rw [HVy.out]; first | rfl | (simp; done), Up.refl _⟩
      · go_enter Tryd.func48, Tryd.ntmps48
        go_wp2_with fail
        refine Calls.mono HSe.out ?_
        rintro e w1 ⟨rfl, hw1⟩
        obtain rfl := hw1.symm
        clear HSe
        go_wp2_with fail
        go_ret
        exact ⟨by rw [HVy.out]; first | rfl | (simp; done), Up.refl _⟩
    · have hs : Ct.see ⟨t, ty, 0, bk, rm, bt, n, f, rf, ⟨0, on, low, high, pick, mode⟩⟩ a = -1 := if_neg hh
      have HVx : Hid (Ct.rd ⟨t, ty, 0, bk, rm, bt, n, f, rf, ⟨0, on, low, high, pick, mode⟩⟩ a = 255) := by have h9 := HV.out; rw [if_neg hh] at h9; exact h9
      rw [hs] at HSe
      clear hs hh HV h HOk HRo HRa
      rcases hz with hz | ⟨hz, hz2⟩
      · go_enter Tryd.func48, Tryd.ntmps48
        go_wp2_with fail
        refine Calls.mono HSe.out ?_
        rintro e w1 ⟨rfl, hw1⟩
        obtain rfl := hw1.symm
        clear HSe
        go_wp2_with fail
        go_ret
        exact ⟨by rw [HVx.out]; first | rfl | (simp; done), Up.refl _⟩
      · go_enter Tryd.func48, Tryd.ntmps48
        go_wp2_with fail
        refine Calls.mono HSe.out ?_
        rintro e w1 ⟨rfl, hw1⟩
        obtain rfl := hw1.symm
        clear HSe
        go_wp2_with fail
        go_ret
        exact ⟨by rw [HVx.out]; first | rfl | (simp; done), Up.refl _⟩
  obtain ⟨e0, e1⟩ : 0 ≤ a ∧ a ≤ 32767 := Decidable.not_not.1 hr
  clear hr
  by_cases hl : a < 16384
  · skip
    have eq0 : a.tdiv 16384 = 0 := by rw [Int.tdiv_eq_ediv_of_nonneg (by omega)]; omega
    obtain ⟨aN, haN, laN⟩ : ∃ p : Nat, a.tmod 16384 = (p : Int) ∧ p < 16384 := by
      obtain ⟨p, hp⟩ := Int.eq_ofNat_of_zero_le (show 0 ≤ a % 16384 by omega)
      exact ⟨p, by rw [Int.tmod_eq_emod_of_nonneg (by omega)]; exact hp, by omega⟩
    have haN2 : a.toNat = aN := by rw [Int.tmod_eq_emod_of_nonneg (by omega)] at haN; omega
    obtain ⟨BB, hBB⟩ : ∃ b : Nat, b = 0 := ⟨_, rfl⟩
    have eBB : (0 : Int) = (BB : Int) := by rw [hBB]; omega
    obtain ⟨Q, hQ⟩ : ∃ Q : Nat, Q = BB % bk := ⟨_, rfl⟩
    have Q16 : Q < bk := by rw [hQ]; exact Nat.mod_lt _ n2
    have em : (BB : Int).tmod (bk : Int) = (Q : Int) := by rw [Int.tmod_eq_emod_of_nonneg (by omega), hQ]; rfl
    obtain ⟨I, hI⟩ : ∃ I : Nat, I = Q * 16384 + aN := ⟨_, rfl⟩
    have eI : (Q : Int) * 16384 + (aN : Int) = (I : Int) := by omega
    have lI : I < n := by omega
    have lI2 : (I : Int) < (n : Int) := by omega
    have bb9 : BB ≤ 1023 := by omega
    have HV : Hid (Ct.rd ⟨t, ty, 0, bk, rm, bt, n, f, rf, ⟨0, on, low, high, pick, mode⟩⟩ a = f I) := by
      show Ct.rd ⟨t, ty, 0, bk, rm, bt, n, f, rf, ⟨0, on, low, high, pick, mode⟩⟩ a = f I
      unfold Ct.rd
      rw [if_neg (by omega), if_pos (by omega)]
      show f ((Mp.lower ⟨0, on, low, high, pick, mode⟩ * 16384 + a.toNat) % n) = f I
      have hb : Mp.lower ⟨0, on, low, high, pick, mode⟩ = BB := by rw [hBB]; rfl
      rw [hb, n1, mod_banks 16384 bk _ _ (by omega) n2, ← hQ, haN2, hI]
    have HKI : Hid (∀ w, Up W w → w.cell? ⟨Y.rg, I, none⟩ = some (.int .u8 (f I))) := fun w u => (HRo.out w u).cell I lI
    clear n1 hQ hI haN2 HSe hBB lI HRo HRa HOk h
    generalize f I = FV at HKI HV
    have kI := HKI.out W (Up.refl W)
    obtain ⟨c2, c3, c6, c7, c9, c10, c11, c12, hfz⟩ := HCs.out W (Up.refl W)
    go_enter Tryd.func48, Tryd.ntmps48
    go_wp2_with fail
    go_quiet (fail)
    go_wp2_with fail
    go_ret
    exact ⟨by rw [HV.out]; first | rfl | (simp; done), Up.drewN _ _⟩
  · skip
    have eq0 : a.tdiv 16384 = 1 := by rw [Int.tdiv_eq_ediv_of_nonneg (by omega)]; omega
    obtain ⟨aN, haN, laN⟩ : ∃ p : Nat, a.tmod 16384 = (p : Int) ∧ p < 16384 := by
      obtain ⟨p, hp⟩ := Int.eq_ofNat_of_zero_le (show 0 ≤ a % 16384 by omega)
      exact ⟨p, by rw [Int.tmod_eq_emod_of_nonneg (by omega)]; exact hp, by omega⟩
    have haN2 : (a.toNat - 16384) = aN := by rw [Int.tmod_eq_emod_of_nonneg (by omega)] at haN; omega
    obtain ⟨BB, hBB⟩ : ∃ b : Nat, b = 1 := ⟨_, rfl⟩
    have eBB : (1 : Int) = (BB : Int) := by rw [hBB]; omega
    obtain ⟨Q, hQ⟩ : ∃ Q : Nat, Q = BB % bk := ⟨_, rfl⟩
    have Q16 : Q < bk := by rw [hQ]; exact Nat.mod_lt _ n2
    have em : (BB : Int).tmod (bk : Int) = (Q : Int) := by rw [Int.tmod_eq_emod_of_nonneg (by omega), hQ]; rfl
    obtain ⟨I, hI⟩ : ∃ I : Nat, I = Q * 16384 + aN := ⟨_, rfl⟩
    have eI : (Q : Int) * 16384 + (aN : Int) = (I : Int) := by omega
    have lI : I < n := by omega
    have lI2 : (I : Int) < (n : Int) := by omega
    have bb9 : BB ≤ 1023 := by omega
    have HV : Hid (Ct.rd ⟨t, ty, 0, bk, rm, bt, n, f, rf, ⟨0, on, low, high, pick, mode⟩⟩ a = f I) := by
      show Ct.rd ⟨t, ty, 0, bk, rm, bt, n, f, rf, ⟨0, on, low, high, pick, mode⟩⟩ a = f I
      unfold Ct.rd
      rw [if_neg (by omega), if_neg (by omega), if_pos (by omega)]
      show f ((Mp.upper ⟨0, on, low, high, pick, mode⟩ * 16384 + (a.toNat - 16384)) % n) = f I
      have hb : Mp.upper ⟨0, on, low, high, pick, mode⟩ = BB := by rw [hBB]; rfl
      rw [hb, n1, mod_banks 16384 bk _ _ (by omega) n2, ← hQ, haN2, hI]
    have HKI : Hid (∀ w, Up W w → w.cell? ⟨Y.rg, I, none⟩ = some (.int .u8 (f I))) := fun w u => (HRo.out w u).cell I lI
    clear n1 hQ hI haN2 HSe hBB lI HRo HRa HOk h
    generalize f I = FV at HKI HV
    have kI := HKI.out W (Up.refl W)
    obtain ⟨c2, c3, c6, c7, c9, c10, c11, c12, hfz⟩ := HCs.out W (Up.refl W)
    go_enter Tryd.func48, Tryd.ntmps48
    go_wp2_with fail
    go_quiet (fail)
    go_wp2_with fail
    go_ret
    exact ⟨by rw [HV.out]; first | rfl | (simp; done), Up.drewN _ _⟩
set_option maxRecDepth 100000 in
set_option maxHeartbeats 2000000 in
theorem read_1 {a : Int} {on low high pick mode : Nat} {t : ByteArray} {ty bk rm n : Nat} {bt : Bool} {f rf : Nat → Int} (h : RtAt W Y ⟨t, ty, 1, bk, rm, bt, n, f, rf, ⟨1, on, low, high, pick, mode⟩⟩) : Calls Tryd.prog 48 #[.pointer (some ⟨Y.yb, 0, none⟩), .int .i64 a] W fun e w' => e = .returned (.int .u8 (Ct.rd ⟨t, ty, 1, bk, rm, bt, n, f, rf, ⟨1, on, low, high, pick, mode⟩⟩ a)) ∧ Up W w' := by
  obtain ⟨s0, s1, s2, s3, s4, s5⟩ := h.std.nums
  replace s1 : on ≤ 1 := s1
  replace s2 : low ≤ 255 := s2
  replace s3 : high ≤ 1 := s3
  replace s4 : pick ≤ 15 := s4
  replace s5 : mode ≤ 1 := s5
  obtain ⟨n1, n2, n3⟩ := h.nb
  replace n1 : n = bk * 16384 := n1
  replace n2 : 1 ≤ bk := n2
  replace n3 : bk ≤ 128 := n3
  have ncl : n ≤ Y.nc := h.nc.1
  have ncm := h.nc.2
  have rcl : rm ≤ Y.rc := h.rc.1
  have rcm := h.rc.2
  have r1 : rm ≤ 131072 := h.rm.1
  have HRo : Hid (∀ w, Up W w → By w Y.rg n f) := fun w u => h.rom.up u
  have HRa : Hid (∀ w, Up W w → By w Y.rb rm rf) := fun w u => h.ram.up u
  have HOk : Hid (∀ k, 0 ≤ rf k ∧ rf k ≤ 255) := h.ok
  have HSe : Hid (Calls Tryd.prog 64 #[.pointer (some ⟨Y.yb, 0, none⟩), .int .i64 a] W fun e w' => e = .returned (.int .i64 (Ct.see ⟨t, ty, 1, bk, rm, bt, n, f, rf, ⟨1, on, low, high, pick, mode⟩⟩ a)) ∧ w' = W) := seenR_any h
  have HCs : Hid (∀ w, Up W w → w.cell? ⟨Y.yb, 2, none⟩ = some (.int .i64 1) ∧ w.cell? ⟨Y.yb, 3, none⟩ = some (.int .i64 (bk : Int)) ∧ w.cell? ⟨Y.yb, 6, none⟩ = some (.slice (some ⟨Y.rg, 0, none⟩) n Y.nc) ∧ w.cell? ⟨Y.yb, 7, none⟩ = some (.slice (some ⟨Y.rb, 0, none⟩) rm Y.rc) ∧ w.cell? ⟨Y.yb, 9, none⟩ = some (.int .i64 (low : Int)) ∧ w.cell? ⟨Y.yb, 10, none⟩ = some (.int .i64 (high : Int)) ∧ w.cell? ⟨Y.yb, 11, none⟩ = some (.int .i64 (pick : Int)) ∧ w.cell? ⟨Y.yb, 12, none⟩ = some (.int .i64 (mode : Int)) ∧ w.frozen? ⟨Y.yb, 0, none⟩ = false) := fun w u => by
    have hB := (h.up u).blk
    exact ⟨heap_cell hB rfl, heap_cell hB rfl, heap_cell hB rfl, heap_cell hB rfl, heap_cell hB rfl, heap_cell hB rfl, heap_cell hB rfl, heap_cell hB rfl, heap_fz hB⟩
  by_cases hr : ¬ (0 ≤ a ∧ a ≤ 32767)
  · skip
    have HV : Hid (Ct.rd ⟨t, ty, 1, bk, rm, bt, n, f, rf, ⟨1, on, low, high, pick, mode⟩⟩ a = if Ct.here ⟨t, ty, 1, bk, rm, bt, n, f, rf, ⟨1, on, low, high, pick, mode⟩⟩ a then Mp.shows ⟨1, on, low, high, pick, mode⟩ (rf (Ct.at' ⟨t, ty, 1, bk, rm, bt, n, f, rf, ⟨1, on, low, high, pick, mode⟩⟩ a)) else 255) := by
      show Ct.rd ⟨t, ty, 1, bk, rm, bt, n, f, rf, ⟨1, on, low, high, pick, mode⟩⟩ a = _
      unfold Ct.rd
      by_cases h0 : a < 0
      · rw [if_pos h0, if_neg (fun q => by have := q.1; omega)]
      · rw [if_neg h0, if_neg (by omega), if_neg (by omega)]
    obtain ⟨c2, c3, c6, c7, c9, c10, c11, c12, hfz⟩ := HCs.out W (Up.refl W)
    have hz : ¬ (0 : Int) ≤ a ∨ ((0 : Int) ≤ a ∧ ¬ a ≤ 32767) := by omega
    by_cases hh : Ct.here ⟨t, ty, 1, bk, rm, bt, n, f, rf, ⟨1, on, low, high, pick, mode⟩⟩ a
    · have hs : Ct.see ⟨t, ty, 1, bk, rm, bt, n, f, rf, ⟨1, on, low, high, pick, mode⟩⟩ a = ((Ct.at' ⟨t, ty, 1, bk, rm, bt, n, f, rf, ⟨1, on, low, high, pick, mode⟩⟩ a : Nat) : Int) := if_pos hh
      have hl : Ct.at' ⟨t, ty, 1, bk, rm, bt, n, f, rf, ⟨1, on, low, high, pick, mode⟩⟩ a < rm := Ct.pl_lt hh.2.2.1
      have HVx : Hid (Ct.rd ⟨t, ty, 1, bk, rm, bt, n, f, rf, ⟨1, on, low, high, pick, mode⟩⟩ a = Mp.shows ⟨1, on, low, high, pick, mode⟩ (rf (Ct.at' ⟨t, ty, 1, bk, rm, bt, n, f, rf, ⟨1, on, low, high, pick, mode⟩⟩ a))) := by have h9 := HV.out; rw [if_pos hh] at h9; exact h9
      rw [hs] at HSe
      generalize Ct.at' ⟨t, ty, 1, bk, rm, bt, n, f, rf, ⟨1, on, low, high, pick, mode⟩⟩ a = J at HSe hl HVx
      have kJ := (HRa.out W (Up.refl W)).cell J hl
      have lJ : (J : Int) < (rm : Int) := by omega
      have hJ0 : ¬ (J : Int) < 0 := by omega
      have o8 := HOk.out J
      clear hs hh HV h HOk HRo HRa
      generalize rf J = RV at kJ HVx o8
      have HVy : Hid (Ct.rd ⟨t, ty, 1, bk, rm, bt, n, f, rf, ⟨1, on, low, high, pick, mode⟩⟩ a = RV) := by
        show Ct.rd ⟨t, ty, 1, bk, rm, bt, n, f, rf, ⟨1, on, low, high, pick, mode⟩⟩ a = _
        rw [HVx.out]
        rfl
      clear HVx
      rcases hz with hz | ⟨hz, hz2⟩
      · go_enter Tryd.func48, Tryd.ntmps48
        go_wp2_with fail
        refine Calls.mono HSe.out ?_
        rintro e w1 ⟨rfl, hw1⟩
        obtain rfl := hw1.symm
        clear HSe
        go_wp2_with fail
        go_ret
        exact ⟨by rw [HVy.out]; first | rfl | (simp; done), Up.refl _⟩
      · go_enter Tryd.func48, Tryd.ntmps48
        go_wp2_with fail
        refine Calls.mono HSe.out ?_
        rintro e w1 ⟨rfl, hw1⟩
        obtain rfl := hw1.symm
        clear HSe
        go_wp2_with fail
        go_ret
        exact ⟨by rw [HVy.out]; first | rfl | (simp; done), Up.refl _⟩
    · have hs : Ct.see ⟨t, ty, 1, bk, rm, bt, n, f, rf, ⟨1, on, low, high, pick, mode⟩⟩ a = -1 := if_neg hh
      have HVx : Hid (Ct.rd ⟨t, ty, 1, bk, rm, bt, n, f, rf, ⟨1, on, low, high, pick, mode⟩⟩ a = 255) := by have h9 := HV.out; rw [if_neg hh] at h9; exact h9
      rw [hs] at HSe
      clear hs hh HV h HOk HRo HRa
      rcases hz with hz | ⟨hz, hz2⟩
      · go_enter Tryd.func48, Tryd.ntmps48
        go_wp2_with fail
        refine Calls.mono HSe.out ?_
        rintro e w1 ⟨rfl, hw1⟩
        obtain rfl := hw1.symm
        clear HSe
        go_wp2_with fail
        go_ret
        exact ⟨by rw [HVx.out]; first | rfl | (simp; done), Up.refl _⟩
      · go_enter Tryd.func48, Tryd.ntmps48
        go_wp2_with fail
        refine Calls.mono HSe.out ?_
        rintro e w1 ⟨rfl, hw1⟩
        obtain rfl := hw1.symm
        clear HSe
        go_wp2_with fail
        go_ret
        exact ⟨by rw [HVx.out]; first | rfl | (simp; done), Up.refl _⟩
  obtain ⟨e0, e1⟩ : 0 ≤ a ∧ a ≤ 32767 := Decidable.not_not.1 hr
  clear hr
  by_cases hl : a < 16384
  · by_cases h5 : mode = 0
    · subst h5
      have eq0 : a.tdiv 16384 = 0 := by rw [Int.tdiv_eq_ediv_of_nonneg (by omega)]; omega
      obtain ⟨aN, haN, laN⟩ : ∃ p : Nat, a.tmod 16384 = (p : Int) ∧ p < 16384 := by
        obtain ⟨p, hp⟩ := Int.eq_ofNat_of_zero_le (show 0 ≤ a % 16384 by omega)
        exact ⟨p, by rw [Int.tmod_eq_emod_of_nonneg (by omega)]; exact hp, by omega⟩
      have haN2 : a.toNat = aN := by rw [Int.tmod_eq_emod_of_nonneg (by omega)] at haN; omega
      obtain ⟨BB, hBB⟩ : ∃ b : Nat, b = 0 := ⟨_, rfl⟩
      have eBB : (0 : Int) = (BB : Int) := by rw [hBB]; omega
      obtain ⟨Q, hQ⟩ : ∃ Q : Nat, Q = BB % bk := ⟨_, rfl⟩
      have Q16 : Q < bk := by rw [hQ]; exact Nat.mod_lt _ n2
      have em : (BB : Int).tmod (bk : Int) = (Q : Int) := by rw [Int.tmod_eq_emod_of_nonneg (by omega), hQ]; rfl
      obtain ⟨I, hI⟩ : ∃ I : Nat, I = Q * 16384 + aN := ⟨_, rfl⟩
      have eI : (Q : Int) * 16384 + (aN : Int) = (I : Int) := by omega
      have lI : I < n := by omega
      have lI2 : (I : Int) < (n : Int) := by omega
      have bb9 : BB ≤ 1023 := by omega
      have HV : Hid (Ct.rd ⟨t, ty, 1, bk, rm, bt, n, f, rf, ⟨1, on, low, high, pick, 0⟩⟩ a = f I) := by
        show Ct.rd ⟨t, ty, 1, bk, rm, bt, n, f, rf, ⟨1, on, low, high, pick, 0⟩⟩ a = f I
        unfold Ct.rd
        rw [if_neg (by omega), if_pos (by omega)]
        show f ((Mp.lower ⟨1, on, low, high, pick, 0⟩ * 16384 + a.toNat) % n) = f I
        have hb : Mp.lower ⟨1, on, low, high, pick, 0⟩ = BB := by rw [hBB]; rfl
        rw [hb, n1, mod_banks 16384 bk _ _ (by omega) n2, ← hQ, haN2, hI]
      have HKI : Hid (∀ w, Up W w → w.cell? ⟨Y.rg, I, none⟩ = some (.int .u8 (f I))) := fun w u => (HRo.out w u).cell I lI
      clear n1 hQ hI haN2 HSe hBB lI HRo HRa HOk h
      generalize f I = FV at HKI HV
      have kI := HKI.out W (Up.refl W)
      obtain ⟨c2, c3, c6, c7, c9, c10, c11, c12, hfz⟩ := HCs.out W (Up.refl W)
      go_enter Tryd.func48, Tryd.ntmps48
      go_wp2_with fail
      go_quiet (fail)
      go_wp2_with fail
      go_ret
      exact ⟨by rw [HV.out]; first | rfl | (simp; done), Up.drewN _ _⟩
    obtain rfl : mode = 1 := by omega
    have eq0 : a.tdiv 16384 = 0 := by rw [Int.tdiv_eq_ediv_of_nonneg (by omega)]; omega
    obtain ⟨aN, haN, laN⟩ : ∃ p : Nat, a.tmod 16384 = (p : Int) ∧ p < 16384 := by
      obtain ⟨p, hp⟩ := Int.eq_ofNat_of_zero_le (show 0 ≤ a % 16384 by omega)
      exact ⟨p, by rw [Int.tmod_eq_emod_of_nonneg (by omega)]; exact hp, by omega⟩
    have haN2 : a.toNat = aN := by rw [Int.tmod_eq_emod_of_nonneg (by omega)] at haN; omega
    obtain ⟨BB, hBB⟩ : ∃ b : Nat, b = 32 * pick := ⟨_, rfl⟩
    have eBB : 32 * (pick : Int) = (BB : Int) := by rw [hBB]; omega
    obtain ⟨Q, hQ⟩ : ∃ Q : Nat, Q = BB % bk := ⟨_, rfl⟩
    have Q16 : Q < bk := by rw [hQ]; exact Nat.mod_lt _ n2
    have em : (BB : Int).tmod (bk : Int) = (Q : Int) := by rw [Int.tmod_eq_emod_of_nonneg (by omega), hQ]; rfl
    obtain ⟨I, hI⟩ : ∃ I : Nat, I = Q * 16384 + aN := ⟨_, rfl⟩
    have eI : (Q : Int) * 16384 + (aN : Int) = (I : Int) := by omega
    have lI : I < n := by omega
    have lI2 : (I : Int) < (n : Int) := by omega
    have bb9 : BB ≤ 1023 := by omega
    have HV : Hid (Ct.rd ⟨t, ty, 1, bk, rm, bt, n, f, rf, ⟨1, on, low, high, pick, 1⟩⟩ a = f I) := by
      show Ct.rd ⟨t, ty, 1, bk, rm, bt, n, f, rf, ⟨1, on, low, high, pick, 1⟩⟩ a = f I
      unfold Ct.rd
      rw [if_neg (by omega), if_pos (by omega)]
      show f ((Mp.lower ⟨1, on, low, high, pick, 1⟩ * 16384 + a.toNat) % n) = f I
      have hb : Mp.lower ⟨1, on, low, high, pick, 1⟩ = BB := by rw [hBB]; rfl
      rw [hb, n1, mod_banks 16384 bk _ _ (by omega) n2, ← hQ, haN2, hI]
    have HKI : Hid (∀ w, Up W w → w.cell? ⟨Y.rg, I, none⟩ = some (.int .u8 (f I))) := fun w u => (HRo.out w u).cell I lI
    clear n1 hQ hI haN2 HSe hBB lI HRo HRa HOk h
    generalize f I = FV at HKI HV
    have kI := HKI.out W (Up.refl W)
    obtain ⟨c2, c3, c6, c7, c9, c10, c11, c12, hfz⟩ := HCs.out W (Up.refl W)
    go_enter Tryd.func48, Tryd.ntmps48
    go_wp2_with fail
    go_quiet (fail)
    go_wp2_with fail
    go_ret
    exact ⟨by rw [HV.out]; first | rfl | (simp; done), Up.drewN _ _⟩
  · skip
    have eq0 : a.tdiv 16384 = 1 := by rw [Int.tdiv_eq_ediv_of_nonneg (by omega)]; omega
    obtain ⟨aN, haN, laN⟩ : ∃ p : Nat, a.tmod 16384 = (p : Int) ∧ p < 16384 := by
      obtain ⟨p, hp⟩ := Int.eq_ofNat_of_zero_le (show 0 ≤ a % 16384 by omega)
      exact ⟨p, by rw [Int.tmod_eq_emod_of_nonneg (by omega)]; exact hp, by omega⟩
    have haN2 : (a.toNat - 16384) = aN := by rw [Int.tmod_eq_emod_of_nonneg (by omega)] at haN; omega
    obtain ⟨BB, hBB⟩ : ∃ b : Nat, b = low + 32 * pick := ⟨_, rfl⟩
    have eBB : (low : Int) + 32 * (pick : Int) = (BB : Int) := by rw [hBB]; omega
    obtain ⟨Q, hQ⟩ : ∃ Q : Nat, Q = BB % bk := ⟨_, rfl⟩
    have Q16 : Q < bk := by rw [hQ]; exact Nat.mod_lt _ n2
    have em : (BB : Int).tmod (bk : Int) = (Q : Int) := by rw [Int.tmod_eq_emod_of_nonneg (by omega), hQ]; rfl
    obtain ⟨I, hI⟩ : ∃ I : Nat, I = Q * 16384 + aN := ⟨_, rfl⟩
    have eI : (Q : Int) * 16384 + (aN : Int) = (I : Int) := by omega
    have lI : I < n := by omega
    have lI2 : (I : Int) < (n : Int) := by omega
    have bb9 : BB ≤ 1023 := by omega
    have HV : Hid (Ct.rd ⟨t, ty, 1, bk, rm, bt, n, f, rf, ⟨1, on, low, high, pick, mode⟩⟩ a = f I) := by
      show Ct.rd ⟨t, ty, 1, bk, rm, bt, n, f, rf, ⟨1, on, low, high, pick, mode⟩⟩ a = f I
      unfold Ct.rd
      rw [if_neg (by omega), if_neg (by omega), if_pos (by omega)]
      show f ((Mp.upper ⟨1, on, low, high, pick, mode⟩ * 16384 + (a.toNat - 16384)) % n) = f I
      have hb : Mp.upper ⟨1, on, low, high, pick, mode⟩ = BB := by rw [hBB]; rfl
      rw [hb, n1, mod_banks 16384 bk _ _ (by omega) n2, ← hQ, haN2, hI]
    have HKI : Hid (∀ w, Up W w → w.cell? ⟨Y.rg, I, none⟩ = some (.int .u8 (f I))) := fun w u => (HRo.out w u).cell I lI
    clear n1 hQ hI haN2 HSe hBB lI HRo HRa HOk h
    generalize f I = FV at HKI HV
    have kI := HKI.out W (Up.refl W)
    obtain ⟨c2, c3, c6, c7, c9, c10, c11, c12, hfz⟩ := HCs.out W (Up.refl W)
    go_enter Tryd.func48, Tryd.ntmps48
    go_wp2_with fail
    go_quiet (fail)
    have u1 : Up W (W.drewN nq) := Up.drewN _ _
    have HU1 : Hid _ := u1
    clear c2 c3 c6 c7 c9 c10 c11 c12 hfz kI
    obtain ⟨w1, hw1⟩ : ∃ x, x = W.drewN nq := ⟨_, rfl⟩
    rw [← hw1] at HU1 u1 ⊢
    have kI := HKI.out w1 u1
    obtain ⟨c2, c3, c6, c7, c9, c10, c11, c12, hfz⟩ := HCs.out w1 u1
    clear u1 hw1
    go_wp2_with fail
    go_quiet (fail)
    go_wp2_with fail
    go_ret
    exact ⟨by rw [HV.out]; first | rfl | (simp; done), HU1.out.trans (Up.drewN _ _)⟩
set_option maxRecDepth 100000 in
set_option maxHeartbeats 2000000 in
theorem read_2 {a : Int} {on low high pick mode : Nat} {t : ByteArray} {ty bk rm n : Nat} {bt : Bool} {f rf : Nat → Int} (h : RtAt W Y ⟨t, ty, 2, bk, rm, bt, n, f, rf, ⟨2, on, low, high, pick, mode⟩⟩) : Calls Tryd.prog 48 #[.pointer (some ⟨Y.yb, 0, none⟩), .int .i64 a] W fun e w' => e = .returned (.int .u8 (Ct.rd ⟨t, ty, 2, bk, rm, bt, n, f, rf, ⟨2, on, low, high, pick, mode⟩⟩ a)) ∧ Up W w' := by
  obtain ⟨s0, s1, s2, s3, s4, s5⟩ := h.std.nums
  replace s1 : on ≤ 1 := s1
  replace s2 : low ≤ 255 := s2
  replace s3 : high ≤ 1 := s3
  replace s4 : pick ≤ 15 := s4
  replace s5 : mode ≤ 1 := s5
  obtain ⟨n1, n2, n3⟩ := h.nb
  replace n1 : n = bk * 16384 := n1
  replace n2 : 1 ≤ bk := n2
  replace n3 : bk ≤ 128 := n3
  have ncl : n ≤ Y.nc := h.nc.1
  have ncm := h.nc.2
  have rcl : rm ≤ Y.rc := h.rc.1
  have rcm := h.rc.2
  have r1 : rm ≤ 131072 := h.rm.1
  have HRo : Hid (∀ w, Up W w → By w Y.rg n f) := fun w u => h.rom.up u
  have HRa : Hid (∀ w, Up W w → By w Y.rb rm rf) := fun w u => h.ram.up u
  have HOk : Hid (∀ k, 0 ≤ rf k ∧ rf k ≤ 15) := h.ok
  have HSe : Hid (Calls Tryd.prog 64 #[.pointer (some ⟨Y.yb, 0, none⟩), .int .i64 a] W fun e w' => e = .returned (.int .i64 (Ct.see ⟨t, ty, 2, bk, rm, bt, n, f, rf, ⟨2, on, low, high, pick, mode⟩⟩ a)) ∧ w' = W) := seenR_any h
  have HCs : Hid (∀ w, Up W w → w.cell? ⟨Y.yb, 2, none⟩ = some (.int .i64 2) ∧ w.cell? ⟨Y.yb, 3, none⟩ = some (.int .i64 (bk : Int)) ∧ w.cell? ⟨Y.yb, 6, none⟩ = some (.slice (some ⟨Y.rg, 0, none⟩) n Y.nc) ∧ w.cell? ⟨Y.yb, 7, none⟩ = some (.slice (some ⟨Y.rb, 0, none⟩) rm Y.rc) ∧ w.cell? ⟨Y.yb, 9, none⟩ = some (.int .i64 (low : Int)) ∧ w.cell? ⟨Y.yb, 10, none⟩ = some (.int .i64 (high : Int)) ∧ w.cell? ⟨Y.yb, 11, none⟩ = some (.int .i64 (pick : Int)) ∧ w.cell? ⟨Y.yb, 12, none⟩ = some (.int .i64 (mode : Int)) ∧ w.frozen? ⟨Y.yb, 0, none⟩ = false) := fun w u => by
    have hB := (h.up u).blk
    exact ⟨heap_cell hB rfl, heap_cell hB rfl, heap_cell hB rfl, heap_cell hB rfl, heap_cell hB rfl, heap_cell hB rfl, heap_cell hB rfl, heap_cell hB rfl, heap_fz hB⟩
  by_cases hr : ¬ (0 ≤ a ∧ a ≤ 32767)
  · skip
    have HV : Hid (Ct.rd ⟨t, ty, 2, bk, rm, bt, n, f, rf, ⟨2, on, low, high, pick, mode⟩⟩ a = if Ct.here ⟨t, ty, 2, bk, rm, bt, n, f, rf, ⟨2, on, low, high, pick, mode⟩⟩ a then Mp.shows ⟨2, on, low, high, pick, mode⟩ (rf (Ct.at' ⟨t, ty, 2, bk, rm, bt, n, f, rf, ⟨2, on, low, high, pick, mode⟩⟩ a)) else 255) := by
      show Ct.rd ⟨t, ty, 2, bk, rm, bt, n, f, rf, ⟨2, on, low, high, pick, mode⟩⟩ a = _
      unfold Ct.rd
      by_cases h0 : a < 0
      · rw [if_pos h0, if_neg (fun q => by have := q.1; omega)]
      · rw [if_neg h0, if_neg (by omega), if_neg (by omega)]
    obtain ⟨c2, c3, c6, c7, c9, c10, c11, c12, hfz⟩ := HCs.out W (Up.refl W)
    have hz : ¬ (0 : Int) ≤ a ∨ ((0 : Int) ≤ a ∧ ¬ a ≤ 32767) := by omega
    by_cases hh : Ct.here ⟨t, ty, 2, bk, rm, bt, n, f, rf, ⟨2, on, low, high, pick, mode⟩⟩ a
    · have hs : Ct.see ⟨t, ty, 2, bk, rm, bt, n, f, rf, ⟨2, on, low, high, pick, mode⟩⟩ a = ((Ct.at' ⟨t, ty, 2, bk, rm, bt, n, f, rf, ⟨2, on, low, high, pick, mode⟩⟩ a : Nat) : Int) := if_pos hh
      have hl : Ct.at' ⟨t, ty, 2, bk, rm, bt, n, f, rf, ⟨2, on, low, high, pick, mode⟩⟩ a < rm := Ct.pl_lt hh.2.2.1
      have HVx : Hid (Ct.rd ⟨t, ty, 2, bk, rm, bt, n, f, rf, ⟨2, on, low, high, pick, mode⟩⟩ a = Mp.shows ⟨2, on, low, high, pick, mode⟩ (rf (Ct.at' ⟨t, ty, 2, bk, rm, bt, n, f, rf, ⟨2, on, low, high, pick, mode⟩⟩ a))) := by have h9 := HV.out; rw [if_pos hh] at h9; exact h9
      rw [hs] at HSe
      generalize Ct.at' ⟨t, ty, 2, bk, rm, bt, n, f, rf, ⟨2, on, low, high, pick, mode⟩⟩ a = J at HSe hl HVx
      have kJ := (HRa.out W (Up.refl W)).cell J hl
      have lJ : (J : Int) < (rm : Int) := by omega
      have hJ0 : ¬ (J : Int) < 0 := by omega
      have o8 := HOk.out J
      clear hs hh HV h HOk HRo HRa
      generalize rf J = RV at kJ HVx o8
      have HVy : Hid (Ct.rd ⟨t, ty, 2, bk, rm, bt, n, f, rf, ⟨2, on, low, high, pick, mode⟩⟩ a = 240 + RV) := by
        show Ct.rd ⟨t, ty, 2, bk, rm, bt, n, f, rf, ⟨2, on, low, high, pick, mode⟩⟩ a = _
        rw [HVx.out]
        show RV % 16 + 240 = 240 + RV; omega
      clear HVx
      rcases hz with hz | ⟨hz, hz2⟩
      · go_enter Tryd.func48, Tryd.ntmps48
        go_wp2_with fail
        refine Calls.mono HSe.out ?_
        rintro e w1 ⟨rfl, hw1⟩
        obtain rfl := hw1.symm
        clear HSe
        go_wp2_with fail
        go_ret
        exact ⟨by rw [HVy.out]; first | rfl | (simp; done), Up.refl _⟩
      · go_enter Tryd.func48, Tryd.ntmps48
        go_wp2_with fail
        refine Calls.mono HSe.out ?_
        rintro e w1 ⟨rfl, hw1⟩
        obtain rfl := hw1.symm
        clear HSe
        go_wp2_with fail
        go_ret
        exact ⟨by rw [HVy.out]; first | rfl | (simp; done), Up.refl _⟩
    · have hs : Ct.see ⟨t, ty, 2, bk, rm, bt, n, f, rf, ⟨2, on, low, high, pick, mode⟩⟩ a = -1 := if_neg hh
      have HVx : Hid (Ct.rd ⟨t, ty, 2, bk, rm, bt, n, f, rf, ⟨2, on, low, high, pick, mode⟩⟩ a = 255) := by have h9 := HV.out; rw [if_neg hh] at h9; exact h9
      rw [hs] at HSe
      clear hs hh HV h HOk HRo HRa
      rcases hz with hz | ⟨hz, hz2⟩
      · go_enter Tryd.func48, Tryd.ntmps48
        go_wp2_with fail
        refine Calls.mono HSe.out ?_
        rintro e w1 ⟨rfl, hw1⟩
        obtain rfl := hw1.symm
        clear HSe
        go_wp2_with fail
        go_ret
        exact ⟨by rw [HVx.out]; first | rfl | (simp; done), Up.refl _⟩
      · go_enter Tryd.func48, Tryd.ntmps48
        go_wp2_with fail
        refine Calls.mono HSe.out ?_
        rintro e w1 ⟨rfl, hw1⟩
        obtain rfl := hw1.symm
        clear HSe
        go_wp2_with fail
        go_ret
        exact ⟨by rw [HVx.out]; first | rfl | (simp; done), Up.refl _⟩
  obtain ⟨e0, e1⟩ : 0 ≤ a ∧ a ≤ 32767 := Decidable.not_not.1 hr
  clear hr
  by_cases hl : a < 16384
  · skip
    have eq0 : a.tdiv 16384 = 0 := by rw [Int.tdiv_eq_ediv_of_nonneg (by omega)]; omega
    obtain ⟨aN, haN, laN⟩ : ∃ p : Nat, a.tmod 16384 = (p : Int) ∧ p < 16384 := by
      obtain ⟨p, hp⟩ := Int.eq_ofNat_of_zero_le (show 0 ≤ a % 16384 by omega)
      exact ⟨p, by rw [Int.tmod_eq_emod_of_nonneg (by omega)]; exact hp, by omega⟩
    have haN2 : a.toNat = aN := by rw [Int.tmod_eq_emod_of_nonneg (by omega)] at haN; omega
    obtain ⟨BB, hBB⟩ : ∃ b : Nat, b = 0 := ⟨_, rfl⟩
    have eBB : (0 : Int) = (BB : Int) := by rw [hBB]; omega
    obtain ⟨Q, hQ⟩ : ∃ Q : Nat, Q = BB % bk := ⟨_, rfl⟩
    have Q16 : Q < bk := by rw [hQ]; exact Nat.mod_lt _ n2
    have em : (BB : Int).tmod (bk : Int) = (Q : Int) := by rw [Int.tmod_eq_emod_of_nonneg (by omega), hQ]; rfl
    obtain ⟨I, hI⟩ : ∃ I : Nat, I = Q * 16384 + aN := ⟨_, rfl⟩
    have eI : (Q : Int) * 16384 + (aN : Int) = (I : Int) := by omega
    have lI : I < n := by omega
    have lI2 : (I : Int) < (n : Int) := by omega
    have bb9 : BB ≤ 1023 := by omega
    have HV : Hid (Ct.rd ⟨t, ty, 2, bk, rm, bt, n, f, rf, ⟨2, on, low, high, pick, mode⟩⟩ a = f I) := by
      show Ct.rd ⟨t, ty, 2, bk, rm, bt, n, f, rf, ⟨2, on, low, high, pick, mode⟩⟩ a = f I
      unfold Ct.rd
      rw [if_neg (by omega), if_pos (by omega)]
      show f ((Mp.lower ⟨2, on, low, high, pick, mode⟩ * 16384 + a.toNat) % n) = f I
      have hb : Mp.lower ⟨2, on, low, high, pick, mode⟩ = BB := by rw [hBB]; rfl
      rw [hb, n1, mod_banks 16384 bk _ _ (by omega) n2, ← hQ, haN2, hI]
    have HKI : Hid (∀ w, Up W w → w.cell? ⟨Y.rg, I, none⟩ = some (.int .u8 (f I))) := fun w u => (HRo.out w u).cell I lI
    clear n1 hQ hI haN2 HSe hBB lI HRo HRa HOk h
    generalize f I = FV at HKI HV
    have kI := HKI.out W (Up.refl W)
    obtain ⟨c2, c3, c6, c7, c9, c10, c11, c12, hfz⟩ := HCs.out W (Up.refl W)
    go_enter Tryd.func48, Tryd.ntmps48
    go_wp2_with fail
    go_quiet (fail)
    go_wp2_with fail
    go_ret
    exact ⟨by rw [HV.out]; first | rfl | (simp; done), Up.drewN _ _⟩
  · have hh0 : high = 0 := by have := h.std.high.2; have : high ≤ 0 := this; omega
    subst hh0
    have eq0 : a.tdiv 16384 = 1 := by rw [Int.tdiv_eq_ediv_of_nonneg (by omega)]; omega
    obtain ⟨aN, haN, laN⟩ : ∃ p : Nat, a.tmod 16384 = (p : Int) ∧ p < 16384 := by
      obtain ⟨p, hp⟩ := Int.eq_ofNat_of_zero_le (show 0 ≤ a % 16384 by omega)
      exact ⟨p, by rw [Int.tmod_eq_emod_of_nonneg (by omega)]; exact hp, by omega⟩
    have haN2 : (a.toNat - 16384) = aN := by rw [Int.tmod_eq_emod_of_nonneg (by omega)] at haN; omega
    obtain ⟨low, hlow⟩ : ∃ b : Nat, b = low := ⟨_, rfl⟩
    subst hlow
    obtain ⟨Q, hQ⟩ : ∃ Q : Nat, Q = low % bk := ⟨_, rfl⟩
    have Q16 : Q < bk := by rw [hQ]; exact Nat.mod_lt _ n2
    have em : (low : Int).tmod (bk : Int) = (Q : Int) := by rw [Int.tmod_eq_emod_of_nonneg (by omega), hQ]; rfl
    obtain ⟨I, hI⟩ : ∃ I : Nat, I = Q * 16384 + aN := ⟨_, rfl⟩
    have eI : (Q : Int) * 16384 + (aN : Int) = (I : Int) := by omega
    have lI : I < n := by omega
    have lI2 : (I : Int) < (n : Int) := by omega
    have bb9 : low ≤ 1023 := by omega
    have HV : Hid (Ct.rd ⟨t, ty, 2, bk, rm, bt, n, f, rf, ⟨2, on, low, 0, pick, mode⟩⟩ a = f I) := by
      show Ct.rd ⟨t, ty, 2, bk, rm, bt, n, f, rf, ⟨2, on, low, 0, pick, mode⟩⟩ a = f I
      unfold Ct.rd
      rw [if_neg (by omega), if_neg (by omega), if_pos (by omega)]
      show f ((Mp.upper ⟨2, on, low, 0, pick, mode⟩ * 16384 + (a.toNat - 16384)) % n) = f I
      have hb : Mp.upper ⟨2, on, low, 0, pick, mode⟩ = low := rfl
      rw [hb, n1, mod_banks 16384 bk _ _ (by omega) n2, ← hQ, haN2, hI]
    have HKI : Hid (∀ w, Up W w → w.cell? ⟨Y.rg, I, none⟩ = some (.int .u8 (f I))) := fun w u => (HRo.out w u).cell I lI
    clear n1 hQ hI haN2 HSe lI HRo HRa HOk h
    generalize f I = FV at HKI HV
    have kI := HKI.out W (Up.refl W)
    obtain ⟨c2, c3, c6, c7, c9, c10, c11, c12, hfz⟩ := HCs.out W (Up.refl W)
    go_enter Tryd.func48, Tryd.ntmps48
    go_wp2_with fail
    go_quiet (fail)
    have u1 : Up W (W.drewN nq) := Up.drewN _ _
    have HU1 : Hid _ := u1
    clear c2 c3 c6 c7 c9 c10 c11 c12 hfz kI
    obtain ⟨w1, hw1⟩ : ∃ x, x = W.drewN nq := ⟨_, rfl⟩
    rw [← hw1] at HU1 u1 ⊢
    have kI := HKI.out w1 u1
    obtain ⟨c2, c3, c6, c7, c9, c10, c11, c12, hfz⟩ := HCs.out w1 u1
    clear u1 hw1
    go_wp2_with fail
    go_quiet (fail)
    go_wp2_with fail
    go_ret
    exact ⟨by rw [HV.out]; first | rfl | (simp; done), HU1.out.trans (Up.drewN _ _)⟩
set_option maxRecDepth 100000 in
set_option maxHeartbeats 2000000 in
theorem read_3 {a : Int} {on low high pick mode : Nat} {t : ByteArray} {ty bk rm n : Nat} {bt : Bool} {f rf : Nat → Int} (h : RtAt W Y ⟨t, ty, 3, bk, rm, bt, n, f, rf, ⟨3, on, low, high, pick, mode⟩⟩) : Calls Tryd.prog 48 #[.pointer (some ⟨Y.yb, 0, none⟩), .int .i64 a] W fun e w' => e = .returned (.int .u8 (Ct.rd ⟨t, ty, 3, bk, rm, bt, n, f, rf, ⟨3, on, low, high, pick, mode⟩⟩ a)) ∧ Up W w' := by
  obtain ⟨s0, s1, s2, s3, s4, s5⟩ := h.std.nums
  replace s1 : on ≤ 1 := s1
  replace s2 : low ≤ 255 := s2
  replace s3 : high ≤ 1 := s3
  replace s4 : pick ≤ 15 := s4
  replace s5 : mode ≤ 1 := s5
  obtain ⟨n1, n2, n3⟩ := h.nb
  replace n1 : n = bk * 16384 := n1
  replace n2 : 1 ≤ bk := n2
  replace n3 : bk ≤ 128 := n3
  have ncl : n ≤ Y.nc := h.nc.1
  have ncm := h.nc.2
  have rcl : rm ≤ Y.rc := h.rc.1
  have rcm := h.rc.2
  have r1 : rm ≤ 131072 := h.rm.1
  have HRo : Hid (∀ w, Up W w → By w Y.rg n f) := fun w u => h.rom.up u
  have HRa : Hid (∀ w, Up W w → By w Y.rb rm rf) := fun w u => h.ram.up u
  have HOk : Hid (∀ k, 0 ≤ rf k ∧ rf k ≤ 255) := h.ok
  have HSe : Hid (Calls Tryd.prog 64 #[.pointer (some ⟨Y.yb, 0, none⟩), .int .i64 a] W fun e w' => e = .returned (.int .i64 (Ct.see ⟨t, ty, 3, bk, rm, bt, n, f, rf, ⟨3, on, low, high, pick, mode⟩⟩ a)) ∧ w' = W) := seenR_any h
  have HCs : Hid (∀ w, Up W w → w.cell? ⟨Y.yb, 2, none⟩ = some (.int .i64 3) ∧ w.cell? ⟨Y.yb, 3, none⟩ = some (.int .i64 (bk : Int)) ∧ w.cell? ⟨Y.yb, 6, none⟩ = some (.slice (some ⟨Y.rg, 0, none⟩) n Y.nc) ∧ w.cell? ⟨Y.yb, 7, none⟩ = some (.slice (some ⟨Y.rb, 0, none⟩) rm Y.rc) ∧ w.cell? ⟨Y.yb, 9, none⟩ = some (.int .i64 (low : Int)) ∧ w.cell? ⟨Y.yb, 10, none⟩ = some (.int .i64 (high : Int)) ∧ w.cell? ⟨Y.yb, 11, none⟩ = some (.int .i64 (pick : Int)) ∧ w.cell? ⟨Y.yb, 12, none⟩ = some (.int .i64 (mode : Int)) ∧ w.frozen? ⟨Y.yb, 0, none⟩ = false) := fun w u => by
    have hB := (h.up u).blk
    exact ⟨heap_cell hB rfl, heap_cell hB rfl, heap_cell hB rfl, heap_cell hB rfl, heap_cell hB rfl, heap_cell hB rfl, heap_cell hB rfl, heap_cell hB rfl, heap_fz hB⟩
  by_cases hr : ¬ (0 ≤ a ∧ a ≤ 32767)
  · skip
    have HV : Hid (Ct.rd ⟨t, ty, 3, bk, rm, bt, n, f, rf, ⟨3, on, low, high, pick, mode⟩⟩ a = if Ct.here ⟨t, ty, 3, bk, rm, bt, n, f, rf, ⟨3, on, low, high, pick, mode⟩⟩ a then Mp.shows ⟨3, on, low, high, pick, mode⟩ (rf (Ct.at' ⟨t, ty, 3, bk, rm, bt, n, f, rf, ⟨3, on, low, high, pick, mode⟩⟩ a)) else 255) := by
      show Ct.rd ⟨t, ty, 3, bk, rm, bt, n, f, rf, ⟨3, on, low, high, pick, mode⟩⟩ a = _
      unfold Ct.rd
      by_cases h0 : a < 0
      · rw [if_pos h0, if_neg (fun q => by have := q.1; omega)]
      · rw [if_neg h0, if_neg (by omega), if_neg (by omega)]
    obtain ⟨c2, c3, c6, c7, c9, c10, c11, c12, hfz⟩ := HCs.out W (Up.refl W)
    have hz : ¬ (0 : Int) ≤ a ∨ ((0 : Int) ≤ a ∧ ¬ a ≤ 32767) := by omega
    by_cases hh : Ct.here ⟨t, ty, 3, bk, rm, bt, n, f, rf, ⟨3, on, low, high, pick, mode⟩⟩ a
    · have hs : Ct.see ⟨t, ty, 3, bk, rm, bt, n, f, rf, ⟨3, on, low, high, pick, mode⟩⟩ a = ((Ct.at' ⟨t, ty, 3, bk, rm, bt, n, f, rf, ⟨3, on, low, high, pick, mode⟩⟩ a : Nat) : Int) := if_pos hh
      have hl : Ct.at' ⟨t, ty, 3, bk, rm, bt, n, f, rf, ⟨3, on, low, high, pick, mode⟩⟩ a < rm := Ct.pl_lt hh.2.2.1
      have HVx : Hid (Ct.rd ⟨t, ty, 3, bk, rm, bt, n, f, rf, ⟨3, on, low, high, pick, mode⟩⟩ a = Mp.shows ⟨3, on, low, high, pick, mode⟩ (rf (Ct.at' ⟨t, ty, 3, bk, rm, bt, n, f, rf, ⟨3, on, low, high, pick, mode⟩⟩ a))) := by have h9 := HV.out; rw [if_pos hh] at h9; exact h9
      rw [hs] at HSe
      generalize Ct.at' ⟨t, ty, 3, bk, rm, bt, n, f, rf, ⟨3, on, low, high, pick, mode⟩⟩ a = J at HSe hl HVx
      have kJ := (HRa.out W (Up.refl W)).cell J hl
      have lJ : (J : Int) < (rm : Int) := by omega
      have hJ0 : ¬ (J : Int) < 0 := by omega
      have o8 := HOk.out J
      clear hs hh HV h HOk HRo HRa
      generalize rf J = RV at kJ HVx o8
      have HVy : Hid (Ct.rd ⟨t, ty, 3, bk, rm, bt, n, f, rf, ⟨3, on, low, high, pick, mode⟩⟩ a = RV) := by
        show Ct.rd ⟨t, ty, 3, bk, rm, bt, n, f, rf, ⟨3, on, low, high, pick, mode⟩⟩ a = _
        rw [HVx.out]
        rfl
      clear HVx
      rcases hz with hz | ⟨hz, hz2⟩
      · go_enter Tryd.func48, Tryd.ntmps48
        go_wp2_with fail
        refine Calls.mono HSe.out ?_
        rintro e w1 ⟨rfl, hw1⟩
        obtain rfl := hw1.symm
        clear HSe
        go_wp2_with fail
        go_ret
        exact ⟨by rw [HVy.out]; first | rfl | (simp; done), Up.refl _⟩
      · go_enter Tryd.func48, Tryd.ntmps48
        go_wp2_with fail
        refine Calls.mono HSe.out ?_
        rintro e w1 ⟨rfl, hw1⟩
        obtain rfl := hw1.symm
        clear HSe
        go_wp2_with fail
        go_ret
        exact ⟨by rw [HVy.out]; first | rfl | (simp; done), Up.refl _⟩
    · have hs : Ct.see ⟨t, ty, 3, bk, rm, bt, n, f, rf, ⟨3, on, low, high, pick, mode⟩⟩ a = -1 := if_neg hh
      have HVx : Hid (Ct.rd ⟨t, ty, 3, bk, rm, bt, n, f, rf, ⟨3, on, low, high, pick, mode⟩⟩ a = 255) := by have h9 := HV.out; rw [if_neg hh] at h9; exact h9
      rw [hs] at HSe
      clear hs hh HV h HOk HRo HRa
      rcases hz with hz | ⟨hz, hz2⟩
      · go_enter Tryd.func48, Tryd.ntmps48
        go_wp2_with fail
        refine Calls.mono HSe.out ?_
        rintro e w1 ⟨rfl, hw1⟩
        obtain rfl := hw1.symm
        clear HSe
        go_wp2_with fail
        go_ret
        exact ⟨by rw [HVx.out]; first | rfl | (simp; done), Up.refl _⟩
      · go_enter Tryd.func48, Tryd.ntmps48
        go_wp2_with fail
        refine Calls.mono HSe.out ?_
        rintro e w1 ⟨rfl, hw1⟩
        obtain rfl := hw1.symm
        clear HSe
        go_wp2_with fail
        go_ret
        exact ⟨by rw [HVx.out]; first | rfl | (simp; done), Up.refl _⟩
  obtain ⟨e0, e1⟩ : 0 ≤ a ∧ a ≤ 32767 := Decidable.not_not.1 hr
  clear hr
  by_cases hl : a < 16384
  · skip
    have eq0 : a.tdiv 16384 = 0 := by rw [Int.tdiv_eq_ediv_of_nonneg (by omega)]; omega
    obtain ⟨aN, haN, laN⟩ : ∃ p : Nat, a.tmod 16384 = (p : Int) ∧ p < 16384 := by
      obtain ⟨p, hp⟩ := Int.eq_ofNat_of_zero_le (show 0 ≤ a % 16384 by omega)
      exact ⟨p, by rw [Int.tmod_eq_emod_of_nonneg (by omega)]; exact hp, by omega⟩
    have haN2 : a.toNat = aN := by rw [Int.tmod_eq_emod_of_nonneg (by omega)] at haN; omega
    obtain ⟨BB, hBB⟩ : ∃ b : Nat, b = 0 := ⟨_, rfl⟩
    have eBB : (0 : Int) = (BB : Int) := by rw [hBB]; omega
    obtain ⟨Q, hQ⟩ : ∃ Q : Nat, Q = BB % bk := ⟨_, rfl⟩
    have Q16 : Q < bk := by rw [hQ]; exact Nat.mod_lt _ n2
    have em : (BB : Int).tmod (bk : Int) = (Q : Int) := by rw [Int.tmod_eq_emod_of_nonneg (by omega), hQ]; rfl
    obtain ⟨I, hI⟩ : ∃ I : Nat, I = Q * 16384 + aN := ⟨_, rfl⟩
    have eI : (Q : Int) * 16384 + (aN : Int) = (I : Int) := by omega
    have lI : I < n := by omega
    have lI2 : (I : Int) < (n : Int) := by omega
    have bb9 : BB ≤ 1023 := by omega
    have HV : Hid (Ct.rd ⟨t, ty, 3, bk, rm, bt, n, f, rf, ⟨3, on, low, high, pick, mode⟩⟩ a = f I) := by
      show Ct.rd ⟨t, ty, 3, bk, rm, bt, n, f, rf, ⟨3, on, low, high, pick, mode⟩⟩ a = f I
      unfold Ct.rd
      rw [if_neg (by omega), if_pos (by omega)]
      show f ((Mp.lower ⟨3, on, low, high, pick, mode⟩ * 16384 + a.toNat) % n) = f I
      have hb : Mp.lower ⟨3, on, low, high, pick, mode⟩ = BB := by rw [hBB]; rfl
      rw [hb, n1, mod_banks 16384 bk _ _ (by omega) n2, ← hQ, haN2, hI]
    have HKI : Hid (∀ w, Up W w → w.cell? ⟨Y.rg, I, none⟩ = some (.int .u8 (f I))) := fun w u => (HRo.out w u).cell I lI
    clear n1 hQ hI haN2 HSe hBB lI HRo HRa HOk h
    generalize f I = FV at HKI HV
    have kI := HKI.out W (Up.refl W)
    obtain ⟨c2, c3, c6, c7, c9, c10, c11, c12, hfz⟩ := HCs.out W (Up.refl W)
    go_enter Tryd.func48, Tryd.ntmps48
    go_wp2_with fail
    go_quiet (fail)
    go_wp2_with fail
    go_ret
    exact ⟨by rw [HV.out]; first | rfl | (simp; done), Up.drewN _ _⟩
  · have hh0 : high = 0 := by have := h.std.high.2; have : high ≤ 0 := this; omega
    subst hh0
    have eq0 : a.tdiv 16384 = 1 := by rw [Int.tdiv_eq_ediv_of_nonneg (by omega)]; omega
    obtain ⟨aN, haN, laN⟩ : ∃ p : Nat, a.tmod 16384 = (p : Int) ∧ p < 16384 := by
      obtain ⟨p, hp⟩ := Int.eq_ofNat_of_zero_le (show 0 ≤ a % 16384 by omega)
      exact ⟨p, by rw [Int.tmod_eq_emod_of_nonneg (by omega)]; exact hp, by omega⟩
    have haN2 : (a.toNat - 16384) = aN := by rw [Int.tmod_eq_emod_of_nonneg (by omega)] at haN; omega
    obtain ⟨low, hlow⟩ : ∃ b : Nat, b = low := ⟨_, rfl⟩
    subst hlow
    obtain ⟨Q, hQ⟩ : ∃ Q : Nat, Q = low % bk := ⟨_, rfl⟩
    have Q16 : Q < bk := by rw [hQ]; exact Nat.mod_lt _ n2
    have em : (low : Int).tmod (bk : Int) = (Q : Int) := by rw [Int.tmod_eq_emod_of_nonneg (by omega), hQ]; rfl
    obtain ⟨I, hI⟩ : ∃ I : Nat, I = Q * 16384 + aN := ⟨_, rfl⟩
    have eI : (Q : Int) * 16384 + (aN : Int) = (I : Int) := by omega
    have lI : I < n := by omega
    have lI2 : (I : Int) < (n : Int) := by omega
    have bb9 : low ≤ 1023 := by omega
    have HV : Hid (Ct.rd ⟨t, ty, 3, bk, rm, bt, n, f, rf, ⟨3, on, low, 0, pick, mode⟩⟩ a = f I) := by
      show Ct.rd ⟨t, ty, 3, bk, rm, bt, n, f, rf, ⟨3, on, low, 0, pick, mode⟩⟩ a = f I
      unfold Ct.rd
      rw [if_neg (by omega), if_neg (by omega), if_pos (by omega)]
      show f ((Mp.upper ⟨3, on, low, 0, pick, mode⟩ * 16384 + (a.toNat - 16384)) % n) = f I
      have hb : Mp.upper ⟨3, on, low, 0, pick, mode⟩ = low := rfl
      rw [hb, n1, mod_banks 16384 bk _ _ (by omega) n2, ← hQ, haN2, hI]
    have HKI : Hid (∀ w, Up W w → w.cell? ⟨Y.rg, I, none⟩ = some (.int .u8 (f I))) := fun w u => (HRo.out w u).cell I lI
    clear n1 hQ hI haN2 HSe lI HRo HRa HOk h
    generalize f I = FV at HKI HV
    have kI := HKI.out W (Up.refl W)
    obtain ⟨c2, c3, c6, c7, c9, c10, c11, c12, hfz⟩ := HCs.out W (Up.refl W)
    go_enter Tryd.func48, Tryd.ntmps48
    go_wp2_with fail
    go_quiet (fail)
    have u1 : Up W (W.drewN nq) := Up.drewN _ _
    have HU1 : Hid _ := u1
    clear c2 c3 c6 c7 c9 c10 c11 c12 hfz kI
    obtain ⟨w1, hw1⟩ : ∃ x, x = W.drewN nq := ⟨_, rfl⟩
    rw [← hw1] at HU1 u1 ⊢
    have kI := HKI.out w1 u1
    obtain ⟨c2, c3, c6, c7, c9, c10, c11, c12, hfz⟩ := HCs.out w1 u1
    clear u1 hw1
    go_wp2_with fail
    go_quiet (fail)
    go_wp2_with fail
    go_ret
    exact ⟨by rw [HV.out]; first | rfl | (simp; done), HU1.out.trans (Up.drewN _ _)⟩
set_option maxRecDepth 100000 in
set_option maxHeartbeats 2000000 in
theorem read_5 {a : Int} {on low high pick mode : Nat} {t : ByteArray} {ty bk rm n : Nat} {bt : Bool} {f rf : Nat → Int} (h : RtAt W Y ⟨t, ty, 5, bk, rm, bt, n, f, rf, ⟨5, on, low, high, pick, mode⟩⟩) : Calls Tryd.prog 48 #[.pointer (some ⟨Y.yb, 0, none⟩), .int .i64 a] W fun e w' => e = .returned (.int .u8 (Ct.rd ⟨t, ty, 5, bk, rm, bt, n, f, rf, ⟨5, on, low, high, pick, mode⟩⟩ a)) ∧ Up W w' := by
  obtain ⟨s0, s1, s2, s3, s4, s5⟩ := h.std.nums
  replace s1 : on ≤ 1 := s1
  replace s2 : low ≤ 255 := s2
  replace s3 : high ≤ 1 := s3
  replace s4 : pick ≤ 15 := s4
  replace s5 : mode ≤ 1 := s5
  obtain ⟨n1, n2, n3⟩ := h.nb
  replace n1 : n = bk * 16384 := n1
  replace n2 : 1 ≤ bk := n2
  replace n3 : bk ≤ 128 := n3
  have ncl : n ≤ Y.nc := h.nc.1
  have ncm := h.nc.2
  have rcl : rm ≤ Y.rc := h.rc.1
  have rcm := h.rc.2
  have r1 : rm ≤ 131072 := h.rm.1
  have HRo : Hid (∀ w, Up W w → By w Y.rg n f) := fun w u => h.rom.up u
  have HRa : Hid (∀ w, Up W w → By w Y.rb rm rf) := fun w u => h.ram.up u
  have HOk : Hid (∀ k, 0 ≤ rf k ∧ rf k ≤ 255) := h.ok
  have HSe : Hid (Calls Tryd.prog 64 #[.pointer (some ⟨Y.yb, 0, none⟩), .int .i64 a] W fun e w' => e = .returned (.int .i64 (Ct.see ⟨t, ty, 5, bk, rm, bt, n, f, rf, ⟨5, on, low, high, pick, mode⟩⟩ a)) ∧ w' = W) := seenR_any h
  have HCs : Hid (∀ w, Up W w → w.cell? ⟨Y.yb, 2, none⟩ = some (.int .i64 5) ∧ w.cell? ⟨Y.yb, 3, none⟩ = some (.int .i64 (bk : Int)) ∧ w.cell? ⟨Y.yb, 6, none⟩ = some (.slice (some ⟨Y.rg, 0, none⟩) n Y.nc) ∧ w.cell? ⟨Y.yb, 7, none⟩ = some (.slice (some ⟨Y.rb, 0, none⟩) rm Y.rc) ∧ w.cell? ⟨Y.yb, 9, none⟩ = some (.int .i64 (low : Int)) ∧ w.cell? ⟨Y.yb, 10, none⟩ = some (.int .i64 (high : Int)) ∧ w.cell? ⟨Y.yb, 11, none⟩ = some (.int .i64 (pick : Int)) ∧ w.cell? ⟨Y.yb, 12, none⟩ = some (.int .i64 (mode : Int)) ∧ w.frozen? ⟨Y.yb, 0, none⟩ = false) := fun w u => by
    have hB := (h.up u).blk
    exact ⟨heap_cell hB rfl, heap_cell hB rfl, heap_cell hB rfl, heap_cell hB rfl, heap_cell hB rfl, heap_cell hB rfl, heap_cell hB rfl, heap_cell hB rfl, heap_fz hB⟩
  by_cases hr : ¬ (0 ≤ a ∧ a ≤ 32767)
  · skip
    have HV : Hid (Ct.rd ⟨t, ty, 5, bk, rm, bt, n, f, rf, ⟨5, on, low, high, pick, mode⟩⟩ a = if Ct.here ⟨t, ty, 5, bk, rm, bt, n, f, rf, ⟨5, on, low, high, pick, mode⟩⟩ a then Mp.shows ⟨5, on, low, high, pick, mode⟩ (rf (Ct.at' ⟨t, ty, 5, bk, rm, bt, n, f, rf, ⟨5, on, low, high, pick, mode⟩⟩ a)) else 255) := by
      show Ct.rd ⟨t, ty, 5, bk, rm, bt, n, f, rf, ⟨5, on, low, high, pick, mode⟩⟩ a = _
      unfold Ct.rd
      by_cases h0 : a < 0
      · rw [if_pos h0, if_neg (fun q => by have := q.1; omega)]
      · rw [if_neg h0, if_neg (by omega), if_neg (by omega)]
    obtain ⟨c2, c3, c6, c7, c9, c10, c11, c12, hfz⟩ := HCs.out W (Up.refl W)
    have hz : ¬ (0 : Int) ≤ a ∨ ((0 : Int) ≤ a ∧ ¬ a ≤ 32767) := by omega
    by_cases hh : Ct.here ⟨t, ty, 5, bk, rm, bt, n, f, rf, ⟨5, on, low, high, pick, mode⟩⟩ a
    · have hs : Ct.see ⟨t, ty, 5, bk, rm, bt, n, f, rf, ⟨5, on, low, high, pick, mode⟩⟩ a = ((Ct.at' ⟨t, ty, 5, bk, rm, bt, n, f, rf, ⟨5, on, low, high, pick, mode⟩⟩ a : Nat) : Int) := if_pos hh
      have hl : Ct.at' ⟨t, ty, 5, bk, rm, bt, n, f, rf, ⟨5, on, low, high, pick, mode⟩⟩ a < rm := Ct.pl_lt hh.2.2.1
      have HVx : Hid (Ct.rd ⟨t, ty, 5, bk, rm, bt, n, f, rf, ⟨5, on, low, high, pick, mode⟩⟩ a = Mp.shows ⟨5, on, low, high, pick, mode⟩ (rf (Ct.at' ⟨t, ty, 5, bk, rm, bt, n, f, rf, ⟨5, on, low, high, pick, mode⟩⟩ a))) := by have h9 := HV.out; rw [if_pos hh] at h9; exact h9
      rw [hs] at HSe
      generalize Ct.at' ⟨t, ty, 5, bk, rm, bt, n, f, rf, ⟨5, on, low, high, pick, mode⟩⟩ a = J at HSe hl HVx
      have kJ := (HRa.out W (Up.refl W)).cell J hl
      have lJ : (J : Int) < (rm : Int) := by omega
      have hJ0 : ¬ (J : Int) < 0 := by omega
      have o8 := HOk.out J
      clear hs hh HV h HOk HRo HRa
      generalize rf J = RV at kJ HVx o8
      have HVy : Hid (Ct.rd ⟨t, ty, 5, bk, rm, bt, n, f, rf, ⟨5, on, low, high, pick, mode⟩⟩ a = RV) := by
        show Ct.rd ⟨t, ty, 5, bk, rm, bt, n, f, rf, ⟨5, on, low, high, pick, mode⟩⟩ a = _
        rw [HVx.out]
        rfl
      clear HVx
      rcases hz with hz | ⟨hz, hz2⟩
      · go_enter Tryd.func48, Tryd.ntmps48
        go_wp2_with fail
        refine Calls.mono HSe.out ?_
        rintro e w1 ⟨rfl, hw1⟩
        obtain rfl := hw1.symm
        clear HSe
        go_wp2_with fail
        go_ret
        exact ⟨by rw [HVy.out]; first | rfl | (simp; done), Up.refl _⟩
      · go_enter Tryd.func48, Tryd.ntmps48
        go_wp2_with fail
        refine Calls.mono HSe.out ?_
        rintro e w1 ⟨rfl, hw1⟩
        obtain rfl := hw1.symm
        clear HSe
        go_wp2_with fail
        go_ret
        exact ⟨by rw [HVy.out]; first | rfl | (simp; done), Up.refl _⟩
    · have hs : Ct.see ⟨t, ty, 5, bk, rm, bt, n, f, rf, ⟨5, on, low, high, pick, mode⟩⟩ a = -1 := if_neg hh
      have HVx : Hid (Ct.rd ⟨t, ty, 5, bk, rm, bt, n, f, rf, ⟨5, on, low, high, pick, mode⟩⟩ a = 255) := by have h9 := HV.out; rw [if_neg hh] at h9; exact h9
      rw [hs] at HSe
      clear hs hh HV h HOk HRo HRa
      rcases hz with hz | ⟨hz, hz2⟩
      · go_enter Tryd.func48, Tryd.ntmps48
        go_wp2_with fail
        refine Calls.mono HSe.out ?_
        rintro e w1 ⟨rfl, hw1⟩
        obtain rfl := hw1.symm
        clear HSe
        go_wp2_with fail
        go_ret
        exact ⟨by rw [HVx.out]; first | rfl | (simp; done), Up.refl _⟩
      · go_enter Tryd.func48, Tryd.ntmps48
        go_wp2_with fail
        refine Calls.mono HSe.out ?_
        rintro e w1 ⟨rfl, hw1⟩
        obtain rfl := hw1.symm
        clear HSe
        go_wp2_with fail
        go_ret
        exact ⟨by rw [HVx.out]; first | rfl | (simp; done), Up.refl _⟩
  obtain ⟨e0, e1⟩ : 0 ≤ a ∧ a ≤ 32767 := Decidable.not_not.1 hr
  clear hr
  by_cases hl : a < 16384
  · skip
    have eq0 : a.tdiv 16384 = 0 := by rw [Int.tdiv_eq_ediv_of_nonneg (by omega)]; omega
    obtain ⟨aN, haN, laN⟩ : ∃ p : Nat, a.tmod 16384 = (p : Int) ∧ p < 16384 := by
      obtain ⟨p, hp⟩ := Int.eq_ofNat_of_zero_le (show 0 ≤ a % 16384 by omega)
      exact ⟨p, by rw [Int.tmod_eq_emod_of_nonneg (by omega)]; exact hp, by omega⟩
    have haN2 : a.toNat = aN := by rw [Int.tmod_eq_emod_of_nonneg (by omega)] at haN; omega
    obtain ⟨BB, hBB⟩ : ∃ b : Nat, b = 0 := ⟨_, rfl⟩
    have eBB : (0 : Int) = (BB : Int) := by rw [hBB]; omega
    obtain ⟨Q, hQ⟩ : ∃ Q : Nat, Q = BB % bk := ⟨_, rfl⟩
    have Q16 : Q < bk := by rw [hQ]; exact Nat.mod_lt _ n2
    have em : (BB : Int).tmod (bk : Int) = (Q : Int) := by rw [Int.tmod_eq_emod_of_nonneg (by omega), hQ]; rfl
    obtain ⟨I, hI⟩ : ∃ I : Nat, I = Q * 16384 + aN := ⟨_, rfl⟩
    have eI : (Q : Int) * 16384 + (aN : Int) = (I : Int) := by omega
    have lI : I < n := by omega
    have lI2 : (I : Int) < (n : Int) := by omega
    have bb9 : BB ≤ 1023 := by omega
    have HV : Hid (Ct.rd ⟨t, ty, 5, bk, rm, bt, n, f, rf, ⟨5, on, low, high, pick, mode⟩⟩ a = f I) := by
      show Ct.rd ⟨t, ty, 5, bk, rm, bt, n, f, rf, ⟨5, on, low, high, pick, mode⟩⟩ a = f I
      unfold Ct.rd
      rw [if_neg (by omega), if_pos (by omega)]
      show f ((Mp.lower ⟨5, on, low, high, pick, mode⟩ * 16384 + a.toNat) % n) = f I
      have hb : Mp.lower ⟨5, on, low, high, pick, mode⟩ = BB := by rw [hBB]; rfl
      rw [hb, n1, mod_banks 16384 bk _ _ (by omega) n2, ← hQ, haN2, hI]
    have HKI : Hid (∀ w, Up W w → w.cell? ⟨Y.rg, I, none⟩ = some (.int .u8 (f I))) := fun w u => (HRo.out w u).cell I lI
    clear n1 hQ hI haN2 HSe hBB lI HRo HRa HOk h
    generalize f I = FV at HKI HV
    have kI := HKI.out W (Up.refl W)
    obtain ⟨c2, c3, c6, c7, c9, c10, c11, c12, hfz⟩ := HCs.out W (Up.refl W)
    go_enter Tryd.func48, Tryd.ntmps48
    go_wp2_with fail
    go_quiet (fail)
    go_wp2_with fail
    go_ret
    exact ⟨by rw [HV.out]; first | rfl | (simp; done), Up.drewN _ _⟩
  · skip
    have eq0 : a.tdiv 16384 = 1 := by rw [Int.tdiv_eq_ediv_of_nonneg (by omega)]; omega
    obtain ⟨aN, haN, laN⟩ : ∃ p : Nat, a.tmod 16384 = (p : Int) ∧ p < 16384 := by
      obtain ⟨p, hp⟩ := Int.eq_ofNat_of_zero_le (show 0 ≤ a % 16384 by omega)
      exact ⟨p, by rw [Int.tmod_eq_emod_of_nonneg (by omega)]; exact hp, by omega⟩
    have haN2 : (a.toNat - 16384) = aN := by rw [Int.tmod_eq_emod_of_nonneg (by omega)] at haN; omega
    obtain ⟨BB, hBB⟩ : ∃ b : Nat, b = low + 256 * high := ⟨_, rfl⟩
    have eBB : (low : Int) + 256 * (high : Int) = (BB : Int) := by rw [hBB]; omega
    obtain ⟨Q, hQ⟩ : ∃ Q : Nat, Q = BB % bk := ⟨_, rfl⟩
    have Q16 : Q < bk := by rw [hQ]; exact Nat.mod_lt _ n2
    have em : (BB : Int).tmod (bk : Int) = (Q : Int) := by rw [Int.tmod_eq_emod_of_nonneg (by omega), hQ]; rfl
    obtain ⟨I, hI⟩ : ∃ I : Nat, I = Q * 16384 + aN := ⟨_, rfl⟩
    have eI : (Q : Int) * 16384 + (aN : Int) = (I : Int) := by omega
    have lI : I < n := by omega
    have lI2 : (I : Int) < (n : Int) := by omega
    have bb9 : BB ≤ 1023 := by omega
    have HV : Hid (Ct.rd ⟨t, ty, 5, bk, rm, bt, n, f, rf, ⟨5, on, low, high, pick, mode⟩⟩ a = f I) := by
      show Ct.rd ⟨t, ty, 5, bk, rm, bt, n, f, rf, ⟨5, on, low, high, pick, mode⟩⟩ a = f I
      unfold Ct.rd
      rw [if_neg (by omega), if_neg (by omega), if_pos (by omega)]
      show f ((Mp.upper ⟨5, on, low, high, pick, mode⟩ * 16384 + (a.toNat - 16384)) % n) = f I
      have hb : Mp.upper ⟨5, on, low, high, pick, mode⟩ = BB := by rw [hBB]; rfl
      rw [hb, n1, mod_banks 16384 bk _ _ (by omega) n2, ← hQ, haN2, hI]
    have HKI : Hid (∀ w, Up W w → w.cell? ⟨Y.rg, I, none⟩ = some (.int .u8 (f I))) := fun w u => (HRo.out w u).cell I lI
    clear n1 hQ hI haN2 HSe hBB lI HRo HRa HOk h
    generalize f I = FV at HKI HV
    have kI := HKI.out W (Up.refl W)
    obtain ⟨c2, c3, c6, c7, c9, c10, c11, c12, hfz⟩ := HCs.out W (Up.refl W)
    go_enter Tryd.func48, Tryd.ntmps48
    go_wp2_with fail
    go_quiet (fail)
    have u1 : Up W (W.drewN nq) := Up.drewN _ _
    have HU1 : Hid _ := u1
    clear c2 c3 c6 c7 c9 c10 c11 c12 hfz kI
    obtain ⟨w1, hw1⟩ : ∃ x, x = W.drewN nq := ⟨_, rfl⟩
    rw [← hw1] at HU1 u1 ⊢
    have kI := HKI.out w1 u1
    obtain ⟨c2, c3, c6, c7, c9, c10, c11, c12, hfz⟩ := HCs.out w1 u1
    clear u1 hw1
    go_wp2_with fail
    go_quiet (fail)
    go_wp2_with fail
    go_ret
    exact ⟨by rw [HV.out]; first | rfl | (simp; done), HU1.out.trans (Up.drewN _ _)⟩
theorem readR_any {a : Int} (h : RtAt W Y C) : Calls Tryd.prog 48 #[.pointer (some ⟨Y.yb, 0, none⟩), .int .i64 a] W fun e w' => e = .returned (.int .u8 (C.rd a)) ∧ Up W w' := by
  obtain ⟨t, ty, mpr, bk, rm, bt, n, f, rf, ⟨kd, on, low, high, pick, mode⟩⟩ := C
  have hm : mpr = kd := h.mp
  have hk : kd = 0 ∨ kd = 1 ∨ kd = 2 ∨ kd = 3 ∨ kd = 5 := h.std.kd
  subst hm
  rcases hk with rfl | rfl | rfl | rfl | rfl
  · exact read_0 h
  · exact read_1 h
  · exact read_2 h
  · exact read_3 h
  · exact read_5 h
end Go.Proofs.YtojlappgmckokaaDoor
