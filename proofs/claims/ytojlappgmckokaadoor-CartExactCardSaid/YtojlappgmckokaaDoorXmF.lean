import Derived.Test.YtojlappgmckokaaDoorXmD
import Derived.Test.YtojlappgmckokaaDoorXmE
import Derived.Test.YtojlappgmckokaaDoorCbF
import Derived.ArgAppend
import Derived.Lib.AppendZeros
/- Cart: the document's cartridge in memory; what it shows of its RAM. -/
namespace Go.Proofs.YtojlappgmckokaaDoor
open Go.Shelf Go.RowKit
set_option linter.unusedVariables false
set_option linter.unusedSimpArgs false
variable {w w' W : World} {C : Ct}
theorem Mp.Std.nums {m : Mp} (h : m.Std) : True ∧ m.on ≤ 1 ∧ m.low ≤ 255 ∧ m.high ≤ 1 ∧ m.pick ≤ 15 ∧ m.mode ≤ 1 := by
  obtain ⟨kd, on, low, high, pick, mode⟩ := m
  obtain ⟨h0, ⟨_, h1⟩, ⟨_, h2⟩, ⟨_, h3⟩, ⟨_, h4⟩, ⟨_, h5⟩⟩ := h
  have h0 : kd = 0 ∨ kd = 1 ∨ kd = 2 ∨ kd = 3 ∨ kd = 5 := h0
  show True ∧ on ≤ 1 ∧ low ≤ 255 ∧ high ≤ 1 ∧ pick ≤ 15 ∧ mode ≤ 1
  have h1 : on ≤ hiB kd 0 := h1
  have h2 : low ≤ hiB kd 1 := h2
  have h3 : high ≤ hiB kd 2 := h3
  have h4 : pick ≤ hiB kd 3 := h4
  have h5 : mode ≤ hiB kd 4 := h5
  rcases h0 with rfl | rfl | rfl | rfl | rfl
  · exact ⟨trivial, Nat.le_trans h1 (by decide), Nat.le_trans h2 (by decide), Nat.le_trans h3 (by decide), Nat.le_trans h4 (by decide), Nat.le_trans h5 (by decide)⟩
  · exact ⟨trivial, Nat.le_trans h1 (by decide), Nat.le_trans h2 (by decide), Nat.le_trans h3 (by decide), Nat.le_trans h4 (by decide), Nat.le_trans h5 (by decide)⟩
  · exact ⟨trivial, Nat.le_trans h1 (by decide), Nat.le_trans h2 (by decide), Nat.le_trans h3 (by decide), Nat.le_trans h4 (by decide), Nat.le_trans h5 (by decide)⟩
  · exact ⟨trivial, Nat.le_trans h1 (by decide), Nat.le_trans h2 (by decide), Nat.le_trans h3 (by decide), Nat.le_trans h4 (by decide), Nat.le_trans h5 (by decide)⟩
  · exact ⟨trivial, Nat.le_trans h1 (by decide), Nat.le_trans h2 (by decide), Nat.le_trans h3 (by decide), Nat.le_trans h4 (by decide), Nat.le_trans h5 (by decide)⟩
/-- where the document's cartridge lies -/
structure Yd where
  yb : Nat
  rg : Nat
  nc : Nat
  rb : Nat
  rc : Nat
/-- the document's cartridge in memory: the same plain cartridge -/
structure RtAt (w : World) (Y : Yd) (C : Ct) : Prop where
  blk : w.heap[Y.yb]? = some (.cells #[.string C.hd, .int .i64 (C.ty : Int), .int .i64 (C.mpr : Int), .int .i64 (C.bk : Int), .int .i64 (C.rm : Int), .bool C.bat, .slice (some ⟨Y.rg, 0, none⟩) C.n Y.nc, .slice (some ⟨Y.rb, 0, none⟩) C.rm Y.rc, .int .i64 (C.m.on : Int), .int .i64 (C.m.low : Int), .int .i64 (C.m.high : Int), .int .i64 (C.m.pick : Int), .int .i64 (C.m.mode : Int)] 96 (0, 0))
  rom : By w Y.rg C.n C.f
  ram : By w Y.rb C.rm C.rf
  std : C.m.Std
  ok : C.Ok
  mp : C.mpr = C.m.kd
  nb : C.n = C.bk * 16384 ∧ 1 ≤ C.bk ∧ C.bk ≤ 128
  nc : C.n ≤ Y.nc ∧ Y.nc ≤ 9223372036854775807
  rc : C.rm ≤ Y.rc ∧ Y.rc ≤ 9223372036854775807
  rm : C.rm ≤ 131072 ∧ (C.m.kd = 2 → C.rm = 512) ∧ (C.m.kd ≠ 2 → C.rm % 8192 = 0)
  d1 : Y.yb ≠ Y.rg
  d2 : Y.yb ≠ Y.rb
  d3 : Y.rg ≠ Y.rb
variable {Y : Yd}
theorem RtAt.up (h : RtAt w Y C) (u : Up w w') : RtAt w' Y C := ⟨(u.block _ (heap_at h.blk)).trans h.blk, h.rom.up u, h.ram.up u, h.std, h.ok, h.mp, h.nb, h.nc, h.rc, h.rm, h.d1, h.d2, h.d3⟩
/-- the number of the byte that is seen -/
def Ct.see (C : Ct) (a : Int) : Int := if C.here a then (C.at' a : Int) else -1
set_option maxRecDepth 100000 in
set_option maxHeartbeats 2000000 in
theorem seen_0 {a : Int} {on low high pick mode : Nat} {t : ByteArray} {ty bk rm n : Nat} {bt : Bool} {f rf : Nat → Int} (h : RtAt W Y ⟨t, ty, 0, bk, rm, bt, n, f, rf, ⟨0, on, low, high, pick, mode⟩⟩) : Calls Tryd.prog 64 #[.pointer (some ⟨Y.yb, 0, none⟩), .int .i64 a] W fun e w' => e = .returned (.int .i64 (Ct.see ⟨t, ty, 0, bk, rm, bt, n, f, rf, ⟨0, on, low, high, pick, mode⟩⟩ a)) ∧ w' = W := by
  obtain ⟨s0, s1, s2, s3, s4, s5⟩ := h.std.nums
  have s1 : on ≤ 1 := s1
  have s4 : pick ≤ 15 := s4
  have s5 : mode ≤ 1 := s5
  obtain ⟨r1, r2, r3⟩ := h.rm
  have r1 : rm ≤ 131072 := r1
  have rcl : rm ≤ Y.rc := h.rc.1
  have rcm := h.rc.2
  have hB := h.blk
  have c2 : W.cell? ⟨Y.yb, 2, none⟩ = some (.int .i64 0) := heap_cell hB rfl
  have c7 : W.cell? ⟨Y.yb, 7, none⟩ = some (.slice (some ⟨Y.rb, 0, none⟩) rm Y.rc) := heap_cell hB rfl
  have c8 : W.cell? ⟨Y.yb, 8, none⟩ = some (.int .i64 (on : Int)) := heap_cell hB rfl
  have c11 : W.cell? ⟨Y.yb, 11, none⟩ = some (.int .i64 (pick : Int)) := heap_cell hB rfl
  have c12 : W.cell? ⟨Y.yb, 12, none⟩ = some (.int .i64 (mode : Int)) := heap_cell hB rfl
  have hfz : W.frozen? ⟨Y.yb, 0, none⟩ = false := heap_fz hB
  clear hB
  have HF : Hid (∀ x, (¬ Ct.here ⟨t, ty, 0, bk, rm, bt, n, f, rf, ⟨0, on, low, high, pick, mode⟩⟩ a → x = -1) → (Ct.here ⟨t, ty, 0, bk, rm, bt, n, f, rf, ⟨0, on, low, high, pick, mode⟩⟩ a → x = ((Ct.at' ⟨t, ty, 0, bk, rm, bt, n, f, rf, ⟨0, on, low, high, pick, mode⟩⟩ a : Nat) : Int)) → Ending.returned (.int .i64 x) = .returned (.int .i64 (Ct.see ⟨t, ty, 0, bk, rm, bt, n, f, rf, ⟨0, on, low, high, pick, mode⟩⟩ a))) := fun x h1 h2 => by
    unfold Ct.see
    by_cases hh : Ct.here ⟨t, ty, 0, bk, rm, bt, n, f, rf, ⟨0, on, low, high, pick, mode⟩⟩ a
    · rw [if_pos hh, h2 hh]
    · rw [if_neg hh, h1 hh]
  by_cases h1 : a < 40960
  · have HN : Hid (¬ Ct.here ⟨t, ty, 0, bk, rm, bt, n, f, rf, ⟨0, on, low, high, pick, mode⟩⟩ a) := fun q => by have := q.1; omega
    clear h r2 r3
    go_enter Tryd.func64, Tryd.ntmps64
    go_wp2_with fail
    go_ret
    exact ⟨HF.out _ (fun _ => rfl) (fun q => absurd q HN.out), rfl⟩
  by_cases h2 : 49151 < a
  · have HN : Hid (¬ Ct.here ⟨t, ty, 0, bk, rm, bt, n, f, rf, ⟨0, on, low, high, pick, mode⟩⟩ a) := fun q => by have := q.2.1; omega
    clear h r2 r3
    go_enter Tryd.func64, Tryd.ntmps64
    go_wp2_with fail
    go_ret
    exact ⟨HF.out _ (fun _ => rfl) (fun q => absurd q HN.out), rfl⟩
  by_cases h3 : rm = 0
  · have HN : Hid (¬ Ct.here ⟨t, ty, 0, bk, rm, bt, n, f, rf, ⟨0, on, low, high, pick, mode⟩⟩ a) := fun q => by have := q.2.2.1; have : 1 ≤ rm := this; omega
    have z3 : ((rm : Int) == 0) = true := by rw [beq_iff_eq]; omega
    clear h r2 r3 h3
    go_enter Tryd.func64, Tryd.ntmps64
    go_wp2_with fail
    go_ret
    exact ⟨HF.out _ (fun _ => rfl) (fun q => absurd q HN.out), rfl⟩
  have z3 : ((rm : Int) == 0) = false := by rw [beq_eq_false_iff_ne]; omega
  obtain ⟨K, hK⟩ : ∃ K, rm = K * 8192 := ⟨rm / 8192, by have h9 : rm % 8192 = 0 := r3 (show (0 : Nat) ≠ 2 by decide); omega⟩
  have K1 : 1 ≤ K := by omega
  have K16 : K ≤ 16 := by omega
  have ed : (rm : Int).tdiv 8192 = (K : Int) := by rw [Int.tdiv_eq_ediv_of_nonneg (by omega)]; omega
  have em : (0 : Int).tmod (K : Int) = ((0 % K : Nat) : Int) := by rw [Int.tmod_eq_emod_of_nonneg (by omega)]; rfl
  obtain ⟨Q, hQ⟩ : ∃ Q : Nat, Q = 0 % K := ⟨_, rfl⟩
  have Q16 : Q < K := by rw [hQ]; exact Nat.mod_lt _ K1
  rw [← hQ] at em
  have HA : Hid (Ct.at' ⟨t, ty, 0, bk, rm, bt, n, f, rf, ⟨0, on, low, high, pick, mode⟩⟩ a = Q * 8192 + (a - 40960).toNat) := by
    show (Mp.bank ⟨0, on, low, high, pick, mode⟩ * 8192 + (a - 40960).toNat) % rm = _
    have hb : Mp.bank ⟨0, on, low, high, pick, mode⟩ = 0 := rfl
    rw [hb, hK, mod_banks 8192 K _ _ (by omega) K1, ← hQ]
  have HH : Hid (Ct.here ⟨t, ty, 0, bk, rm, bt, n, f, rf, ⟨0, on, low, high, pick, mode⟩⟩ a) := ⟨by omega, by omega, by show 1 ≤ rm; omega, rfl⟩
  clear h r3 r2 h3 hK hQ
  go_enter Tryd.func64, Tryd.ntmps64
  go_wp2_with fail
  go_ret
  exact ⟨HF.out _ (fun q => absurd HH.out q) (fun _ => by rw [HA.out]; omega), rfl⟩
set_option maxRecDepth 100000 in
set_option maxHeartbeats 2000000 in
theorem seen_1 {a : Int} {on low high pick mode : Nat} {t : ByteArray} {ty bk rm n : Nat} {bt : Bool} {f rf : Nat → Int} (h : RtAt W Y ⟨t, ty, 1, bk, rm, bt, n, f, rf, ⟨1, on, low, high, pick, mode⟩⟩) : Calls Tryd.prog 64 #[.pointer (some ⟨Y.yb, 0, none⟩), .int .i64 a] W fun e w' => e = .returned (.int .i64 (Ct.see ⟨t, ty, 1, bk, rm, bt, n, f, rf, ⟨1, on, low, high, pick, mode⟩⟩ a)) ∧ w' = W := by
  obtain ⟨s0, s1, s2, s3, s4, s5⟩ := h.std.nums
  have s1 : on ≤ 1 := s1
  have s4 : pick ≤ 15 := s4
  have s5 : mode ≤ 1 := s5
  obtain ⟨r1, r2, r3⟩ := h.rm
  have r1 : rm ≤ 131072 := r1
  have rcl : rm ≤ Y.rc := h.rc.1
  have rcm := h.rc.2
  have hB := h.blk
  have c2 : W.cell? ⟨Y.yb, 2, none⟩ = some (.int .i64 1) := heap_cell hB rfl
  have c7 : W.cell? ⟨Y.yb, 7, none⟩ = some (.slice (some ⟨Y.rb, 0, none⟩) rm Y.rc) := heap_cell hB rfl
  have c8 : W.cell? ⟨Y.yb, 8, none⟩ = some (.int .i64 (on : Int)) := heap_cell hB rfl
  have c11 : W.cell? ⟨Y.yb, 11, none⟩ = some (.int .i64 (pick : Int)) := heap_cell hB rfl
  have c12 : W.cell? ⟨Y.yb, 12, none⟩ = some (.int .i64 (mode : Int)) := heap_cell hB rfl
  have hfz : W.frozen? ⟨Y.yb, 0, none⟩ = false := heap_fz hB
  clear hB
  have HF : Hid (∀ x, (¬ Ct.here ⟨t, ty, 1, bk, rm, bt, n, f, rf, ⟨1, on, low, high, pick, mode⟩⟩ a → x = -1) → (Ct.here ⟨t, ty, 1, bk, rm, bt, n, f, rf, ⟨1, on, low, high, pick, mode⟩⟩ a → x = ((Ct.at' ⟨t, ty, 1, bk, rm, bt, n, f, rf, ⟨1, on, low, high, pick, mode⟩⟩ a : Nat) : Int)) → Ending.returned (.int .i64 x) = .returned (.int .i64 (Ct.see ⟨t, ty, 1, bk, rm, bt, n, f, rf, ⟨1, on, low, high, pick, mode⟩⟩ a))) := fun x h1 h2 => by
    unfold Ct.see
    by_cases hh : Ct.here ⟨t, ty, 1, bk, rm, bt, n, f, rf, ⟨1, on, low, high, pick, mode⟩⟩ a
    · rw [if_pos hh, h2 hh]
    · rw [if_neg hh, h1 hh]
  by_cases h1 : a < 40960
  · have HN : Hid (¬ Ct.here ⟨t, ty, 1, bk, rm, bt, n, f, rf, ⟨1, on, low, high, pick, mode⟩⟩ a) := fun q => by have := q.1; omega
    clear h r2 r3
    go_enter Tryd.func64, Tryd.ntmps64
    go_wp2_with fail
    go_ret
    exact ⟨HF.out _ (fun _ => rfl) (fun q => absurd q HN.out), rfl⟩
  by_cases h2 : 49151 < a
  · have HN : Hid (¬ Ct.here ⟨t, ty, 1, bk, rm, bt, n, f, rf, ⟨1, on, low, high, pick, mode⟩⟩ a) := fun q => by have := q.2.1; omega
    clear h r2 r3
    go_enter Tryd.func64, Tryd.ntmps64
    go_wp2_with fail
    go_ret
    exact ⟨HF.out _ (fun _ => rfl) (fun q => absurd q HN.out), rfl⟩
  by_cases h3 : rm = 0
  · have HN : Hid (¬ Ct.here ⟨t, ty, 1, bk, rm, bt, n, f, rf, ⟨1, on, low, high, pick, mode⟩⟩ a) := fun q => by have := q.2.2.1; have : 1 ≤ rm := this; omega
    have z3 : ((rm : Int) == 0) = true := by rw [beq_iff_eq]; omega
    clear h r2 r3 h3
    go_enter Tryd.func64, Tryd.ntmps64
    go_wp2_with fail
    go_ret
    exact ⟨HF.out _ (fun _ => rfl) (fun q => absurd q HN.out), rfl⟩
  have z3 : ((rm : Int) == 0) = false := by rw [beq_eq_false_iff_ne]; omega
  by_cases h4 : on = 0
  · have HN : Hid (¬ Ct.here ⟨t, ty, 1, bk, rm, bt, n, f, rf, ⟨1, on, low, high, pick, mode⟩⟩ a) := fun q => by
      have := q.2.2.2
      subst h4
      simp [Mp.seen] at this
    subst h4
    clear h r2 r3 h3
    go_enter Tryd.func64, Tryd.ntmps64
    go_wp2_with fail
    go_ret
    exact ⟨HF.out _ (fun _ => rfl) (fun q => absurd q HN.out), rfl⟩
  obtain rfl : on = 1 := by omega
  by_cases h5 : mode = 0
  · subst h5
    obtain ⟨K, hK⟩ : ∃ K, rm = K * 8192 := ⟨rm / 8192, by have h9 : rm % 8192 = 0 := r3 (show (1 : Nat) ≠ 2 by decide); omega⟩
    have K1 : 1 ≤ K := by omega
    have K16 : K ≤ 16 := by omega
    have ed : (rm : Int).tdiv 8192 = (K : Int) := by rw [Int.tdiv_eq_ediv_of_nonneg (by omega)]; omega
    have em : (0 : Int).tmod (K : Int) = ((0 % K : Nat) : Int) := by rw [Int.tmod_eq_emod_of_nonneg (by omega)]; rfl
    obtain ⟨Q, hQ⟩ : ∃ Q : Nat, Q = 0 % K := ⟨_, rfl⟩
    have Q16 : Q < K := by rw [hQ]; exact Nat.mod_lt _ K1
    rw [← hQ] at em
    have HA : Hid (Ct.at' ⟨t, ty, 1, bk, rm, bt, n, f, rf, ⟨1, 1, low, high, pick, 0⟩⟩ a = Q * 8192 + (a - 40960).toNat) := by
      show (Mp.bank ⟨1, 1, low, high, pick, 0⟩ * 8192 + (a - 40960).toNat) % rm = _
      have hb : Mp.bank ⟨1, 1, low, high, pick, 0⟩ = 0 := rfl
      rw [hb, hK, mod_banks 8192 K _ _ (by omega) K1, ← hQ]
    have HH : Hid (Ct.here ⟨t, ty, 1, bk, rm, bt, n, f, rf, ⟨1, 1, low, high, pick, 0⟩⟩ a) := ⟨by omega, by omega, by show 1 ≤ rm; omega, rfl⟩
    clear h r3 r2 h3 hK hQ
    go_enter Tryd.func64, Tryd.ntmps64
    go_wp2_with fail
    go_ret
    exact ⟨HF.out _ (fun q => absurd HH.out q) (fun _ => by rw [HA.out]; omega), rfl⟩
  obtain rfl : mode = 1 := by omega
  obtain ⟨K, hK⟩ : ∃ K, rm = K * 8192 := ⟨rm / 8192, by have h9 : rm % 8192 = 0 := r3 (show (1 : Nat) ≠ 2 by decide); omega⟩
  have K1 : 1 ≤ K := by omega
  have K16 : K ≤ 16 := by omega
  have ed : (rm : Int).tdiv 8192 = (K : Int) := by rw [Int.tdiv_eq_ediv_of_nonneg (by omega)]; omega
  have em : ((pick : Int) : Int).tmod (K : Int) = ((pick % K : Nat) : Int) := by rw [Int.tmod_eq_emod_of_nonneg (by omega)]; rfl
  obtain ⟨Q, hQ⟩ : ∃ Q : Nat, Q = pick % K := ⟨_, rfl⟩
  have Q16 : Q < K := by rw [hQ]; exact Nat.mod_lt _ K1
  rw [← hQ] at em
  have HA : Hid (Ct.at' ⟨t, ty, 1, bk, rm, bt, n, f, rf, ⟨1, 1, low, high, pick, 1⟩⟩ a = Q * 8192 + (a - 40960).toNat) := by
    show (Mp.bank ⟨1, 1, low, high, pick, 1⟩ * 8192 + (a - 40960).toNat) % rm = _
    have hb : Mp.bank ⟨1, 1, low, high, pick, 1⟩ = pick := rfl
    rw [hb, hK, mod_banks 8192 K _ _ (by omega) K1, ← hQ]
  have HH : Hid (Ct.here ⟨t, ty, 1, bk, rm, bt, n, f, rf, ⟨1, 1, low, high, pick, 1⟩⟩ a) := ⟨by omega, by omega, by show 1 ≤ rm; omega, rfl⟩
  clear h r3 r2 h3 hK hQ
  go_enter Tryd.func64, Tryd.ntmps64
  go_wp2_with fail
  go_ret
  exact ⟨HF.out _ (fun q => absurd HH.out q) (fun _ => by rw [HA.out]; omega), rfl⟩
set_option maxRecDepth 100000 in
set_option maxHeartbeats 2000000 in
theorem seen_2 {a : Int} {on low high pick mode : Nat} {t : ByteArray} {ty bk rm n : Nat} {bt : Bool} {f rf : Nat → Int} (h : RtAt W Y ⟨t, ty, 2, bk, rm, bt, n, f, rf, ⟨2, on, low, high, pick, mode⟩⟩) : Calls Tryd.prog 64 #[.pointer (some ⟨Y.yb, 0, none⟩), .int .i64 a] W fun e w' => e = .returned (.int .i64 (Ct.see ⟨t, ty, 2, bk, rm, bt, n, f, rf, ⟨2, on, low, high, pick, mode⟩⟩ a)) ∧ w' = W := by
  obtain ⟨s0, s1, s2, s3, s4, s5⟩ := h.std.nums
  have s1 : on ≤ 1 := s1
  have s4 : pick ≤ 15 := s4
  have s5 : mode ≤ 1 := s5
  obtain ⟨r1, r2, r3⟩ := h.rm
  have r1 : rm ≤ 131072 := r1
  have rcl : rm ≤ Y.rc := h.rc.1
  have rcm := h.rc.2
  have hB := h.blk
  have c2 : W.cell? ⟨Y.yb, 2, none⟩ = some (.int .i64 2) := heap_cell hB rfl
  have c7 : W.cell? ⟨Y.yb, 7, none⟩ = some (.slice (some ⟨Y.rb, 0, none⟩) rm Y.rc) := heap_cell hB rfl
  have c8 : W.cell? ⟨Y.yb, 8, none⟩ = some (.int .i64 (on : Int)) := heap_cell hB rfl
  have c11 : W.cell? ⟨Y.yb, 11, none⟩ = some (.int .i64 (pick : Int)) := heap_cell hB rfl
  have c12 : W.cell? ⟨Y.yb, 12, none⟩ = some (.int .i64 (mode : Int)) := heap_cell hB rfl
  have hfz : W.frozen? ⟨Y.yb, 0, none⟩ = false := heap_fz hB
  clear hB
  have HF : Hid (∀ x, (¬ Ct.here ⟨t, ty, 2, bk, rm, bt, n, f, rf, ⟨2, on, low, high, pick, mode⟩⟩ a → x = -1) → (Ct.here ⟨t, ty, 2, bk, rm, bt, n, f, rf, ⟨2, on, low, high, pick, mode⟩⟩ a → x = ((Ct.at' ⟨t, ty, 2, bk, rm, bt, n, f, rf, ⟨2, on, low, high, pick, mode⟩⟩ a : Nat) : Int)) → Ending.returned (.int .i64 x) = .returned (.int .i64 (Ct.see ⟨t, ty, 2, bk, rm, bt, n, f, rf, ⟨2, on, low, high, pick, mode⟩⟩ a))) := fun x h1 h2 => by
    unfold Ct.see
    by_cases hh : Ct.here ⟨t, ty, 2, bk, rm, bt, n, f, rf, ⟨2, on, low, high, pick, mode⟩⟩ a
    · rw [if_pos hh, h2 hh]
    · rw [if_neg hh, h1 hh]
  by_cases h1 : a < 40960
  · have HN : Hid (¬ Ct.here ⟨t, ty, 2, bk, rm, bt, n, f, rf, ⟨2, on, low, high, pick, mode⟩⟩ a) := fun q => by have := q.1; omega
    clear h r2 r3
    go_enter Tryd.func64, Tryd.ntmps64
    go_wp2_with fail
    go_ret
    exact ⟨HF.out _ (fun _ => rfl) (fun q => absurd q HN.out), rfl⟩
  by_cases h2 : 49151 < a
  · have HN : Hid (¬ Ct.here ⟨t, ty, 2, bk, rm, bt, n, f, rf, ⟨2, on, low, high, pick, mode⟩⟩ a) := fun q => by have := q.2.1; omega
    clear h r2 r3
    go_enter Tryd.func64, Tryd.ntmps64
    go_wp2_with fail
    go_ret
    exact ⟨HF.out _ (fun _ => rfl) (fun q => absurd q HN.out), rfl⟩
  by_cases h3 : rm = 0
  · have HN : Hid (¬ Ct.here ⟨t, ty, 2, bk, rm, bt, n, f, rf, ⟨2, on, low, high, pick, mode⟩⟩ a) := fun q => by have := q.2.2.1; have : 1 ≤ rm := this; omega
    have z3 : ((rm : Int) == 0) = true := by rw [beq_iff_eq]; omega
    clear h r2 r3 h3
    go_enter Tryd.func64, Tryd.ntmps64
    go_wp2_with fail
    go_ret
    exact ⟨HF.out _ (fun _ => rfl) (fun q => absurd q HN.out), rfl⟩
  have z3 : ((rm : Int) == 0) = false := by rw [beq_eq_false_iff_ne]; omega
  by_cases h4 : on = 0
  · have HN : Hid (¬ Ct.here ⟨t, ty, 2, bk, rm, bt, n, f, rf, ⟨2, on, low, high, pick, mode⟩⟩ a) := fun q => by
      have := q.2.2.2
      subst h4
      simp [Mp.seen] at this
    subst h4
    clear h r2 r3 h3
    go_enter Tryd.func64, Tryd.ntmps64
    go_wp2_with fail
    go_ret
    exact ⟨HF.out _ (fun _ => rfl) (fun q => absurd q HN.out), rfl⟩
  obtain rfl : on = 1 := by omega
  replace r2 : rm = 512 := r2 rfl
  have et : a.tmod 512 = a % 512 := Int.tmod_eq_emod_of_nonneg (by omega)
  have HA : Hid (Ct.at' ⟨t, ty, 2, bk, rm, bt, n, f, rf, ⟨2, 1, low, high, pick, mode⟩⟩ a = a.toNat % 512) := by
    show (0 * 8192 + (a - 40960).toNat) % rm = a.toNat % 512
    rw [r2]
    omega
  have HH : Hid (Ct.here ⟨t, ty, 2, bk, rm, bt, n, f, rf, ⟨2, 1, low, high, pick, mode⟩⟩ a) := ⟨by omega, by omega, by show 1 ≤ rm; omega, rfl⟩
  clear h r3 r2 h3
  go_enter Tryd.func64, Tryd.ntmps64
  go_wp2_with fail
  go_ret
  refine ⟨?_, rfl⟩
  exact HF.out (a % 512) (fun q => absurd HH.out q) (fun _ => by rw [HA.out]; omega)
set_option maxRecDepth 100000 in
set_option maxHeartbeats 2000000 in
theorem seen_3 {a : Int} {on low high pick mode : Nat} {t : ByteArray} {ty bk rm n : Nat} {bt : Bool} {f rf : Nat → Int} (h : RtAt W Y ⟨t, ty, 3, bk, rm, bt, n, f, rf, ⟨3, on, low, high, pick, mode⟩⟩) : Calls Tryd.prog 64 #[.pointer (some ⟨Y.yb, 0, none⟩), .int .i64 a] W fun e w' => e = .returned (.int .i64 (Ct.see ⟨t, ty, 3, bk, rm, bt, n, f, rf, ⟨3, on, low, high, pick, mode⟩⟩ a)) ∧ w' = W := by
  obtain ⟨s0, s1, s2, s3, s4, s5⟩ := h.std.nums
  have s1 : on ≤ 1 := s1
  have s4 : pick ≤ 15 := s4
  have s5 : mode ≤ 1 := s5
  obtain ⟨r1, r2, r3⟩ := h.rm
  have r1 : rm ≤ 131072 := r1
  have rcl : rm ≤ Y.rc := h.rc.1
  have rcm := h.rc.2
  have hB := h.blk
  have c2 : W.cell? ⟨Y.yb, 2, none⟩ = some (.int .i64 3) := heap_cell hB rfl
  have c7 : W.cell? ⟨Y.yb, 7, none⟩ = some (.slice (some ⟨Y.rb, 0, none⟩) rm Y.rc) := heap_cell hB rfl
  have c8 : W.cell? ⟨Y.yb, 8, none⟩ = some (.int .i64 (on : Int)) := heap_cell hB rfl
  have c11 : W.cell? ⟨Y.yb, 11, none⟩ = some (.int .i64 (pick : Int)) := heap_cell hB rfl
  have c12 : W.cell? ⟨Y.yb, 12, none⟩ = some (.int .i64 (mode : Int)) := heap_cell hB rfl
  have hfz : W.frozen? ⟨Y.yb, 0, none⟩ = false := heap_fz hB
  clear hB
  have HF : Hid (∀ x, (¬ Ct.here ⟨t, ty, 3, bk, rm, bt, n, f, rf, ⟨3, on, low, high, pick, mode⟩⟩ a → x = -1) → (Ct.here ⟨t, ty, 3, bk, rm, bt, n, f, rf, ⟨3, on, low, high, pick, mode⟩⟩ a → x = ((Ct.at' ⟨t, ty, 3, bk, rm, bt, n, f, rf, ⟨3, on, low, high, pick, mode⟩⟩ a : Nat) : Int)) → Ending.returned (.int .i64 x) = .returned (.int .i64 (Ct.see ⟨t, ty, 3, bk, rm, bt, n, f, rf, ⟨3, on, low, high, pick, mode⟩⟩ a))) := fun x h1 h2 => by
    unfold Ct.see
    by_cases hh : Ct.here ⟨t, ty, 3, bk, rm, bt, n, f, rf, ⟨3, on, low, high, pick, mode⟩⟩ a
    · rw [if_pos hh, h2 hh]
    · rw [if_neg hh, h1 hh]
  by_cases h1 : a < 40960
  · have HN : Hid (¬ Ct.here ⟨t, ty, 3, bk, rm, bt, n, f, rf, ⟨3, on, low, high, pick, mode⟩⟩ a) := fun q => by have := q.1; omega
    clear h r2 r3
    go_enter Tryd.func64, Tryd.ntmps64
    go_wp2_with fail
    go_ret
    exact ⟨HF.out _ (fun _ => rfl) (fun q => absurd q HN.out), rfl⟩
  by_cases h2 : 49151 < a
  · have HN : Hid (¬ Ct.here ⟨t, ty, 3, bk, rm, bt, n, f, rf, ⟨3, on, low, high, pick, mode⟩⟩ a) := fun q => by have := q.2.1; omega
    clear h r2 r3
    go_enter Tryd.func64, Tryd.ntmps64
    go_wp2_with fail
    go_ret
    exact ⟨HF.out _ (fun _ => rfl) (fun q => absurd q HN.out), rfl⟩
  by_cases h3 : rm = 0
  · have HN : Hid (¬ Ct.here ⟨t, ty, 3, bk, rm, bt, n, f, rf, ⟨3, on, low, high, pick, mode⟩⟩ a) := fun q => by have := q.2.2.1; have : 1 ≤ rm := this; omega
    have z3 : ((rm : Int) == 0) = true := by rw [beq_iff_eq]; omega
    clear h r2 r3 h3
    go_enter Tryd.func64, Tryd.ntmps64
    go_wp2_with fail
    go_ret
    exact ⟨HF.out _ (fun _ => rfl) (fun q => absurd q HN.out), rfl⟩
  have z3 : ((rm : Int) == 0) = false := by rw [beq_eq_false_iff_ne]; omega
  by_cases h4 : on = 0
  · have HN : Hid (¬ Ct.here ⟨t, ty, 3, bk, rm, bt, n, f, rf, ⟨3, on, low, high, pick, mode⟩⟩ a) := fun q => by
      have := q.2.2.2
      subst h4
      simp [Mp.seen] at this
    subst h4
    clear h r2 r3 h3
    go_enter Tryd.func64, Tryd.ntmps64
    go_wp2_with fail
    go_ret
    exact ⟨HF.out _ (fun _ => rfl) (fun q => absurd q HN.out), rfl⟩
  obtain rfl : on = 1 := by omega
  by_cases h5 : 3 < pick
  · have HN : Hid (¬ Ct.here ⟨t, ty, 3, bk, rm, bt, n, f, rf, ⟨3, 1, low, high, pick, mode⟩⟩ a) := fun q => by
      have := q.2.2.2
      simp [Mp.seen] at this
      omega
    have e5 : (3 : Int) < (pick : Int) := by omega
    clear h r2 r3 h3
    go_enter Tryd.func64, Tryd.ntmps64
    go_wp2_with fail
    go_ret
    exact ⟨HF.out _ (fun _ => rfl) (fun q => absurd q HN.out), rfl⟩
  have e5 : ¬ (3 : Int) < (pick : Int) := by omega
  obtain ⟨K, hK⟩ : ∃ K, rm = K * 8192 := ⟨rm / 8192, by have h9 : rm % 8192 = 0 := r3 (show (3 : Nat) ≠ 2 by decide); omega⟩
  have K1 : 1 ≤ K := by omega
  have K16 : K ≤ 16 := by omega
  have ed : (rm : Int).tdiv 8192 = (K : Int) := by rw [Int.tdiv_eq_ediv_of_nonneg (by omega)]; omega
  have em : ((pick : Int) : Int).tmod (K : Int) = ((pick % K : Nat) : Int) := by rw [Int.tmod_eq_emod_of_nonneg (by omega)]; rfl
  obtain ⟨Q, hQ⟩ : ∃ Q : Nat, Q = pick % K := ⟨_, rfl⟩
  have Q16 : Q < K := by rw [hQ]; exact Nat.mod_lt _ K1
  rw [← hQ] at em
  have HA : Hid (Ct.at' ⟨t, ty, 3, bk, rm, bt, n, f, rf, ⟨3, 1, low, high, pick, mode⟩⟩ a = Q * 8192 + (a - 40960).toNat) := by
    show (Mp.bank ⟨3, 1, low, high, pick, mode⟩ * 8192 + (a - 40960).toNat) % rm = _
    have hb : Mp.bank ⟨3, 1, low, high, pick, mode⟩ = pick := rfl
    rw [hb, hK, mod_banks 8192 K _ _ (by omega) K1, ← hQ]
  have HH : Hid (Ct.here ⟨t, ty, 3, bk, rm, bt, n, f, rf, ⟨3, 1, low, high, pick, mode⟩⟩ a) := ⟨by omega, by omega, by show 1 ≤ rm; omega, by simp [Mp.seen]; omega⟩
  clear h r3 r2 h3 hK hQ
  go_enter Tryd.func64, Tryd.ntmps64
  go_wp2_with fail
  go_ret
  exact ⟨HF.out _ (fun q => absurd HH.out q) (fun _ => by rw [HA.out]; omega), rfl⟩
set_option maxRecDepth 100000 in
set_option maxHeartbeats 2000000 in
theorem seen_5 {a : Int} {on low high pick mode : Nat} {t : ByteArray} {ty bk rm n : Nat} {bt : Bool} {f rf : Nat → Int} (h : RtAt W Y ⟨t, ty, 5, bk, rm, bt, n, f, rf, ⟨5, on, low, high, pick, mode⟩⟩) : Calls Tryd.prog 64 #[.pointer (some ⟨Y.yb, 0, none⟩), .int .i64 a] W fun e w' => e = .returned (.int .i64 (Ct.see ⟨t, ty, 5, bk, rm, bt, n, f, rf, ⟨5, on, low, high, pick, mode⟩⟩ a)) ∧ w' = W := by
  obtain ⟨s0, s1, s2, s3, s4, s5⟩ := h.std.nums
  have s1 : on ≤ 1 := s1
  have s4 : pick ≤ 15 := s4
  have s5 : mode ≤ 1 := s5
  obtain ⟨r1, r2, r3⟩ := h.rm
  have r1 : rm ≤ 131072 := r1
  have rcl : rm ≤ Y.rc := h.rc.1
  have rcm := h.rc.2
  have hB := h.blk
  have c2 : W.cell? ⟨Y.yb, 2, none⟩ = some (.int .i64 5) := heap_cell hB rfl
  have c7 : W.cell? ⟨Y.yb, 7, none⟩ = some (.slice (some ⟨Y.rb, 0, none⟩) rm Y.rc) := heap_cell hB rfl
  have c8 : W.cell? ⟨Y.yb, 8, none⟩ = some (.int .i64 (on : Int)) := heap_cell hB rfl
  have c11 : W.cell? ⟨Y.yb, 11, none⟩ = some (.int .i64 (pick : Int)) := heap_cell hB rfl
  have c12 : W.cell? ⟨Y.yb, 12, none⟩ = some (.int .i64 (mode : Int)) := heap_cell hB rfl
  have hfz : W.frozen? ⟨Y.yb, 0, none⟩ = false := heap_fz hB
  clear hB
  have HF : Hid (∀ x, (¬ Ct.here ⟨t, ty, 5, bk, rm, bt, n, f, rf, ⟨5, on, low, high, pick, mode⟩⟩ a → x = -1) → (Ct.here ⟨t, ty, 5, bk, rm, bt, n, f, rf, ⟨5, on, low, high, pick, mode⟩⟩ a → x = ((Ct.at' ⟨t, ty, 5, bk, rm, bt, n, f, rf, ⟨5, on, low, high, pick, mode⟩⟩ a : Nat) : Int)) → Ending.returned (.int .i64 x) = .returned (.int .i64 (Ct.see ⟨t, ty, 5, bk, rm, bt, n, f, rf, ⟨5, on, low, high, pick, mode⟩⟩ a))) := fun x h1 h2 => by
    unfold Ct.see
    by_cases hh : Ct.here ⟨t, ty, 5, bk, rm, bt, n, f, rf, ⟨5, on, low, high, pick, mode⟩⟩ a
    · rw [if_pos hh, h2 hh]
    · rw [if_neg hh, h1 hh]
  by_cases h1 : a < 40960
  · have HN : Hid (¬ Ct.here ⟨t, ty, 5, bk, rm, bt, n, f, rf, ⟨5, on, low, high, pick, mode⟩⟩ a) := fun q => by have := q.1; omega
    clear h r2 r3
    go_enter Tryd.func64, Tryd.ntmps64
    go_wp2_with fail
    go_ret
    exact ⟨HF.out _ (fun _ => rfl) (fun q => absurd q HN.out), rfl⟩
  by_cases h2 : 49151 < a
  · have HN : Hid (¬ Ct.here ⟨t, ty, 5, bk, rm, bt, n, f, rf, ⟨5, on, low, high, pick, mode⟩⟩ a) := fun q => by have := q.2.1; omega
    clear h r2 r3
    go_enter Tryd.func64, Tryd.ntmps64
    go_wp2_with fail
    go_ret
    exact ⟨HF.out _ (fun _ => rfl) (fun q => absurd q HN.out), rfl⟩
  by_cases h3 : rm = 0
  · have HN : Hid (¬ Ct.here ⟨t, ty, 5, bk, rm, bt, n, f, rf, ⟨5, on, low, high, pick, mode⟩⟩ a) := fun q => by have := q.2.2.1; have : 1 ≤ rm := this; omega
    have z3 : ((rm : Int) == 0) = true := by rw [beq_iff_eq]; omega
    clear h r2 r3 h3
    go_enter Tryd.func64, Tryd.ntmps64
    go_wp2_with fail
    go_ret
    exact ⟨HF.out _ (fun _ => rfl) (fun q => absurd q HN.out), rfl⟩
  have z3 : ((rm : Int) == 0) = false := by rw [beq_eq_false_iff_ne]; omega
  by_cases h4 : on = 0
  · have HN : Hid (¬ Ct.here ⟨t, ty, 5, bk, rm, bt, n, f, rf, ⟨5, on, low, high, pick, mode⟩⟩ a) := fun q => by
      have := q.2.2.2
      subst h4
      simp [Mp.seen] at this
    subst h4
    clear h r2 r3 h3
    go_enter Tryd.func64, Tryd.ntmps64
    go_wp2_with fail
    go_ret
    exact ⟨HF.out _ (fun _ => rfl) (fun q => absurd q HN.out), rfl⟩
  obtain rfl : on = 1 := by omega
  obtain ⟨K, hK⟩ : ∃ K, rm = K * 8192 := ⟨rm / 8192, by have h9 : rm % 8192 = 0 := r3 (show (5 : Nat) ≠ 2 by decide); omega⟩
  have K1 : 1 ≤ K := by omega
  have K16 : K ≤ 16 := by omega
  have ed : (rm : Int).tdiv 8192 = (K : Int) := by rw [Int.tdiv_eq_ediv_of_nonneg (by omega)]; omega
  have em : ((pick : Int) : Int).tmod (K : Int) = ((pick % K : Nat) : Int) := by rw [Int.tmod_eq_emod_of_nonneg (by omega)]; rfl
  obtain ⟨Q, hQ⟩ : ∃ Q : Nat, Q = pick % K := ⟨_, rfl⟩
  have Q16 : Q < K := by rw [hQ]; exact Nat.mod_lt _ K1
  rw [← hQ] at em
  have HA : Hid (Ct.at' ⟨t, ty, 5, bk, rm, bt, n, f, rf, ⟨5, 1, low, high, pick, mode⟩⟩ a = Q * 8192 + (a - 40960).toNat) := by
    show (Mp.bank ⟨5, 1, low, high, pick, mode⟩ * 8192 + (a - 40960).toNat) % rm = _
    have hb : Mp.bank ⟨5, 1, low, high, pick, mode⟩ = pick := rfl
    rw [hb, hK, mod_banks 8192 K _ _ (by omega) K1, ← hQ]
  have HH : Hid (Ct.here ⟨t, ty, 5, bk, rm, bt, n, f, rf, ⟨5, 1, low, high, pick, mode⟩⟩ a) := ⟨by omega, by omega, by show 1 ≤ rm; omega, rfl⟩
  clear h r3 r2 h3 hK hQ
  go_enter Tryd.func64, Tryd.ntmps64
  go_wp2_with fail
  go_ret
  exact ⟨HF.out _ (fun q => absurd HH.out q) (fun _ => by rw [HA.out]; omega), rfl⟩
theorem seenR_any {a : Int} (h : RtAt W Y C) : Calls Tryd.prog 64 #[.pointer (some ⟨Y.yb, 0, none⟩), .int .i64 a] W fun e w' => e = .returned (.int .i64 (C.see a)) ∧ w' = W := by
  obtain ⟨t, ty, mpr, bk, rm, bt, n, f, rf, ⟨kd, on, low, high, pick, mode⟩⟩ := C
  have hm : mpr = kd := h.mp
  have hk : kd = 0 ∨ kd = 1 ∨ kd = 2 ∨ kd = 3 ∨ kd = 5 := h.std.kd
  subst hm
  rcases hk with rfl | rfl | rfl | rfl | rfl
  · exact seen_0 h
  · exact seen_1 h
  · exact seen_2 h
  · exact seen_3 h
  · exact seen_5 h
end Go.Proofs.YtojlappgmckokaaDoor
/- Cart: the document's State and Save. -/
namespace Go.Proofs.YtojlappgmckokaaDoor
open Go.Shelf Go.RowKit
set_option linter.unusedVariables false
set_option linter.unusedSimpArgs false
variable {w w' W : World} {C : Ct} {Y : Yd}
theorem own_none (w : World) (base : Nat) (ty : TypeId) : w.ownsRow base ty 1 (.slice none 0 0) 0 [] := ⟨rfl, Or.inl ⟨rfl, rfl⟩⟩
theorem cop_own {v : Value} {n : Nat} {f : Nat → Int} (hn : 1 ≤ n) (o : w.ownsRow W.heap.size 5 1 v n (byL f n)) (u : Up W w) : Cop W n f (.returned v) w := by
  rcases o.2 with ⟨_, hz⟩ | ⟨g', cap', cur, hv, hbase, hg, hn', hcm, hcs, htk⟩
  · omega
  · refine ⟨g', cap', by rw [hv], by omega, ⟨cur, 5, hg, by omega, fun k hk => ?_⟩, hn', hcm, u⟩
    rw [own_at htk k (by omega)]
    exact byL_at hk
theorem one_cell (w : World) (x : Int) : ∀ j u, ([.int .u8 x] : List Value)[j]? = some u → (w.alloc (.cells #[.int .u8 x] 5)).cell? ((⟨w.heap.size, 0, none⟩ : Addr).add j) = some u := by
  intro j u h
  match j, h with
  | 0, h =>
    simp at h
    subst h
    rw [Addr.add_lit]
    exact heap_cell (heap_alloc_new w _) rfl
  | j + 1, h => simp at h
theorem byL_succ (f : Nat → Int) (n : Nat) : byL f n ++ [.int .u8 (f n)] = byL f (n + 1) := by
  unfold byL
  rw [List.range'_concat, List.map_append]
  simp
theorem rgF_5 {m : Mp} (h : m.Std) {i : Nat} (hi : i < 5) : 0 ≤ m.rgF i ∧ m.rgF i ≤ 255 := by
  obtain ⟨_, h1, h2, h3, h4, h5⟩ := h.nums
  match i, hi with
  | 0, _ => exact ⟨Int.natCast_nonneg _, by show (m.on : Int) ≤ 255; omega⟩
  | 1, _ => exact ⟨Int.natCast_nonneg _, by show (m.low : Int) ≤ 255; omega⟩
  | 2, _ => exact ⟨Int.natCast_nonneg _, by show (m.high : Int) ≤ 255; omega⟩
  | 3, _ => exact ⟨Int.natCast_nonneg _, by show (m.pick : Int) ≤ 255; omega⟩
  | 4, _ => exact ⟨Int.natCast_nonneg _, by show (m.mode : Int) ≤ 255; omega⟩
theorem RtAt.reg (h : RtAt w Y C) {i : Nat} (hi : i < 5) : w.cell? ⟨Y.yb, 8 + i, none⟩ = some (.int .i64 (C.m.rgF i)) := by
  have hB := h.blk
  match i, hi with
  | 0, _ => exact heap_cell hB rfl
  | 1, _ => exact heap_cell hB rfl
  | 2, _ => exact heap_cell hB rfl
  | 3, _ => exact heap_cell hB rfl
  | 4, _ => exact heap_cell hB rfl
set_option maxRecDepth 100000 in
set_option maxHeartbeats 1000000 in
theorem stateR_any (h : RtAt W Y C) : Calls Tryd.prog 52 #[.pointer (some ⟨Y.yb, 0, none⟩)] W (Cop W (5 + C.rm) C.st) := by
  have HR : Hid (∀ w, Up W w → ∀ i, i < 5 → w.cell? ⟨Y.yb, 8 + i, none⟩ = some (.int .i64 (C.m.rgF i))) := fun w u i hi => (h.up u).reg hi
  have H5 : Hid (∀ i, i < 5 → 0 ≤ C.m.rgF i ∧ C.m.rgF i ≤ 255) := fun i hi => rgF_5 h.std hi
  have HC : Hid (∀ w, Up W w → w.cell? ⟨Y.yb, 7, none⟩ = some (.slice (some ⟨Y.rb, 0, none⟩) C.rm Y.rc)) := fun w u => heap_cell (h.up u).blk rfl
  have HB : Hid (∀ w, Up W w → By w Y.rb C.rm C.rf) := fun w u => h.ram.up u
  have hrm := h.rm.1
  have rcl := h.rc.1
  have rcm := h.rc.2
  have HFin : Hid (∀ v w', w'.ownsRow W.heap.size 5 1 v (5 + C.rm) (byL C.m.rgF 5 ++ byL C.rf C.rm) → Up W w' → Cop W (5 + C.rm) C.st (.returned v) w') := fun v w' o u => by
    rw [cat_list] at o
    exact cop_own (by omega) o u
  clear h
  go_enter Tryd.func52, Tryd.ntmps52
  go_wp2_with fail
  go_loopw [3, 4] (fun S I wr => ∃ i : Nat, i ≤ 5 ∧ I = .int .i64 (i : Int) ∧ Hid (wr.ownsRow W.heap.size 5 1 S i (byL C.m.rgF i) ∧ Up W wr)) (fun _ I _ => 5 - (intOf I).toNat)
  case atStart => exact ⟨0, Nat.zero_le _, rfl, own_none _ _ _, Up.refl _⟩
  case round =>
    obtain ⟨i, hi, rfl, HO⟩ := hrel
    by_cases hlt : i < 5
    · have e1 : (i : Int) < 5 := by omega
      have kr := HR.out wr HO.out.2 i hlt
      have hr8 := H5.out i hlt
      have HX : Hid (byL C.m.rgF i ++ [.int .u8 (C.m.rgF i)] = byL C.m.rgF (i + 1)) := byL_succ _ _
      generalize C.m.rgF i = RV at *
      have HOa : Hid ((wr.alloc (.cells #[.int .u8 RV] 5)).ownsRow W.heap.size 5 1 u3 i (byL C.m.rgF i) ∧ Up W (wr.alloc (.cells #[.int .u8 RV] 5))) := ⟨ownsRow_up HO.out.1 ((Up.refl wr).alloc _), HO.out.2.alloc _⟩
      clear HO
      go_wp2_with (at_builtin; refine wpList_append_own_at2 _ rfl _ _ _ _ rfl W.heap.size 5 Tryd.t5 (.int .u8 0) 1 1 Tryd.underlying24 Tryd.underlying24 (by kernel_rfl) (by kernel_rfl) (by kernel_rfl) (by kernel_rfl) rfl (by decide) _ i (byL C.m.rgF i) rfl HOa.out.1 ⟨wr.heap.size, 0, none⟩ 1 1 [.int .u8 RV] rfl rfl (one_cell wr RV) (by intro u hu; simp at hu; subst hu; rfl) (by unfold maxLen; omega) (by omega) HOa.out.2.size ?_; intro v' w5 h5 h6 _; have HN : Hid (w5.ownsRow W.heap.size 5 1 v' (i + 1) (byL C.m.rgF (i + 1)) ∧ Up W w5) := ⟨by rw [HX.out] at h5; exact h5, grown_upB HOa.out.2 HOa.out.1 h6⟩; clear h5 h6)
      refine ⟨⟨i + 1, by omega, by go_num, HN⟩, ?_⟩
      simp [intOf]; omega
    · have e1 : ¬ (i : Int) < 5 := by omega
      obtain rfl : i = 5 := by omega
      have c7 := HC.out wr HO.out.2
      go_wp2_with (at_builtin; refine wpList_append_own_at2 _ rfl _ _ _ _ rfl W.heap.size 5 Tryd.t5 (.int .u8 0) 1 1 Tryd.underlying24 Tryd.underlying24 (by kernel_rfl) (by kernel_rfl) (by kernel_rfl) (by kernel_rfl) rfl (by decide) _ 5 (byL C.m.rgF 5) rfl HO.out.1 ⟨Y.rb, 0, none⟩ C.rm Y.rc (byL C.rf C.rm) rfl (by rw [byL_len, Nat.mul_one]) (by_cells (HB.out wr HO.out.2)) (byL_one C.rf C.rm) (by unfold maxLen; omega) (by omega) HO.out.2.size ?_; intro v' w5 h5 h6 _; have HN : Hid (Cop W (5 + C.rm) C.st (.returned v') w5) := HFin.out v' w5 h5 (grown_upB HO.out.2 HO.out.1 h6); clear h5 h6)
      go_ret
      exact HN.out
set_option maxRecDepth 100000 in
set_option maxHeartbeats 1000000 in
theorem saveR_yes (h : RtAt W Y C) (hb : C.bat = true) (h1 : 1 ≤ C.rm) : Calls Tryd.prog 50 #[.pointer (some ⟨Y.yb, 0, none⟩)] W (Cop W C.rm C.rf) := by
  have c5 : W.cell? ⟨Y.yb, 5, none⟩ = some (.bool true) := by rw [← hb]; exact heap_cell h.blk rfl
  have c7 : (W.alloc (.cells #[] 5)).cell? ⟨Y.yb, 7, none⟩ = some (.slice (some ⟨Y.rb, 0, none⟩) C.rm Y.rc) := heap_cell (h.up ((Up.refl W).alloc _)).blk rfl
  have HB : Hid (By (W.alloc (.cells #[] 5)) Y.rb C.rm C.rf) := h.ram.up ((Up.refl W).alloc _)
  have HO0 : Hid ((W.alloc (.cells #[] 5)).ownsRow W.heap.size 5 1 (.slice (some ⟨W.heap.size, 0, none⟩) 0 0) 0 []) := own_of (heap_alloc_new W _) (Nat.le_refl _) (Nat.le_refl _) (Nat.zero_le _) rfl rfl (fun k hk => by omega)
  have HU : Hid (Up W (W.alloc (.cells #[] 5))) := (Up.refl W).alloc _
  have hrm := h.rm.1
  have rcl := h.rc.1
  have rcm := h.rc.2
  clear h
  go_enter Tryd.func50, Tryd.ntmps50
  go_wp2_with (at_builtin; refine wpList_append_own_at2 _ rfl _ _ _ _ rfl W.heap.size 5 Tryd.t5 (.int .u8 0) 1 1 Tryd.underlying24 Tryd.underlying24 (by kernel_rfl) (by kernel_rfl) (by kernel_rfl) (by kernel_rfl) rfl (by decide) _ 0 [] rfl HO0.out ⟨Y.rb, 0, none⟩ C.rm Y.rc (byL C.rf C.rm) rfl (by rw [byL_len, Nat.mul_one]) (by_cells HB.out) (byL_one C.rf C.rm) (by unfold maxLen; omega) (by omega) HU.out.size ?_; intro v' w5 h5 h6 _; have HN : Hid (Cop W C.rm C.rf (.returned v') w5) := cop_own h1 (by rw [Nat.zero_add, List.nil_append] at h5; exact h5) (grown_upB HU.out HO0.out h6); clear h5 h6)
  go_ret
  exact HN.out
set_option maxRecDepth 100000 in
theorem saveR_no (h : RtAt W Y C) (hb : C.bat = false) : Calls Tryd.prog 50 #[.pointer (some ⟨Y.yb, 0, none⟩)] W fun e w' => e = .returned (.slice none 0 0) ∧ w' = W := by
  have c5 : W.cell? ⟨Y.yb, 5, none⟩ = some (.bool false) := by rw [← hb]; exact heap_cell h.blk rfl
  clear h
  go_enter Tryd.func50, Tryd.ntmps50
  go_wp2_with fail
  go_ret
  exact ⟨rfl, rfl⟩
end Go.Proofs.YtojlappgmckokaaDoor
/- Cart: append that leaves the elder list as it was; a list that its owner marks. -/
namespace Go.Proofs.YtojlappgmckokaaDoor
open Go.Shelf Go.RowKit
set_option linter.unusedVariables false
set_option linter.unusedSimpArgs false
variable {w w' W : World}
/-- append to a list of one's own: the elder one still reads as it did -/
theorem app_keep {base n m c : Nat} {v : Value} {xs news : List Value} {ad : Addr} (hown : w.ownsRow base 5 1 v n xs) (hl : news.length = m) (hnews : ∀ j u, news[j]? = some u → w.cell? (ad.add j) = some u) (h1 : ∀ u ∈ news, u.oneCell' = true) (hm : 1 ≤ m) (hb : n + m ≤ 4194304) (hbase : base ≤ w.heap.size) :
    ∃ v' w', (Builtin.append_ #[24, 24] 24 #[v, .slice (some ad) m c]).run Tryd.prog w = .ok v' w' ∧ w'.ownsRow base 5 1 v' (n + m) (xs ++ news) ∧ w'.ownsRow base 5 1 v n xs ∧ w.grownBy w' v.ownBlock ∧ (v'.ownBlock = v.ownBlock ∨ v'.ownBlock = some w.heap.size) ∧ (Up w w' ∨ ∃ g o, w' = w.setCells g o news) := by
  obtain ⟨v', w', hr, h2, h3, _, h5⟩ := run_append_own_at (P := Tryd.prog) w base 24 24 5 Tryd.t5 (.int .u8 0) 1 1 Tryd.underlying24 (by kernel_rfl) (by kernel_rfl) (by kernel_rfl) (by kernel_rfl) rfl (by decide) v n xs hown ad m c news (by rw [Nat.mul_one]; exact hl) hnews h1 (by unfold maxLen; omega) (by omega) hbase
  have hx := hown.1
  suffices q : w'.ownsRow base 5 1 v n xs ∧ (Up w w' ∨ ∃ g o, w' = w.setCells g o news) from ⟨v', w', hr, h2, q.1, h3, h5, q.2⟩
  rcases hown.2 with ⟨rfl, rfl⟩ | ⟨g, cap, cur, rfl, hbg, hg, hnc, hcm, hcs, htake⟩
  · obtain rfl : xs = [] := List.eq_nil_of_length_eq_zero (by simpa using hx)
    exact ⟨World.ownsRow_nil _ _ _ _, Or.inl ⟨h3.os, h3.output, h3.size, fun b hb => h3.block b hb (fun e => by cases e)⟩⟩
  · by_cases hroom : n + m ≤ cap
    · have hr2 := run_append_room_cells (P := Tryd.prog) w 24 24 5 Tryd.t5 Tryd.underlying24 (by kernel_rfl) g 0 n cap ad m c news (by show news.length = m * 1; omega) hnews h1 hroom (fun j hj => by
        show (w.cell? ⟨g, 0 + n * 1 + j, none⟩).isSome = true
        rw [heap_cell hg (Array.getElem?_eq_getElem (show 0 + n * 1 + j < cur.size by omega))]
        rfl) (fun j hj => heap_fz hg)
      rw [hr] at hr2
      injection hr2 with _ hw
      subst hw
      have hs := heap_setCells_same g 5 news (0 + n * 1) cur w hg
      refine ⟨own_of hs hbg hnc hcm ?_ hx (fun k hk => ?_), Or.inr ⟨_, _, rfl⟩⟩
      · rw [putL_size]
        exact hcs
      · rw [putL_at _ _ _ _ (by rw [hcs]; omega), if_neg (by omega)]
        exact own_at htake k hk
    · have holds : ∀ j u, xs[j]? = some u → w.cell? ((⟨g, 0, none⟩ : Addr).add j) = some u := hown.cells (g := g) rfl
      have hr2 := run_append_grow (P := Tryd.prog) w 24 24 5 Tryd.t5 (.int .u8 0) Tryd.underlying24 (by kernel_rfl) (by kernel_rfl) ⟨g, 0, none⟩ n cap xs hx holds ad m c news (by show news.length = m * 1; omega) hnews (by omega) (by omega) (growslice_fits (by omega) (by show (n + m) * 1 ≤ _; omega))
      rw [hr] at hr2
      injection hr2 with _ hw
      subst hw
      exact ⟨ownsRow_up hown (((Up.refl w).drew).alloc _), Or.inl (((Up.refl w).drew).alloc _)⟩
/-- a list full of its mark -/
def rep (m : Int) (n : Nat) : List Value := List.replicate n (.int .u8 m)
theorem rep_len (m : Int) (n : Nat) : (rep m n).length = n := List.length_replicate
theorem rep_add (m : Int) (n k : Nat) : rep m n ++ rep m k = rep m (n + k) := List.replicate_append_replicate
theorem rep_take (m : Int) (n k : Nat) (h : n ≤ k) : (rep m k).take n = rep m n := by unfold rep; rw [List.take_replicate, Nat.min_eq_left h]
/-- a list that reads as its mark -/
def RdM (m : Int) (w : World) (v : Value) (n : Nat) : Prop := ∃ a c, v = .slice a n c ∧ n ≤ c ∧ c ≤ maxLen ∧ (0 < n → ∃ g o, a = some ⟨g, o, none⟩ ∧ ∀ k, k < n → w.cell? ⟨g, o + k, none⟩ = some (.int .u8 m))
theorem RdM.up {m : Int} {v : Value} {n : Nat} (h : RdM m w v n) (u : Up w w') : RdM m w' v n := by
  obtain ⟨a, c, e, h1, h2, h3⟩ := h
  refine ⟨a, c, e, h1, h2, fun h0 => ?_⟩
  obtain ⟨g, o, e2, h4⟩ := h3 h0
  exact ⟨g, o, e2, fun k hk => cell_up u (h4 k hk)⟩
theorem cell_setCells {g o : Nat} {m : Int} {j : Nat} (b p : Nat) (h : w.cell? ⟨b, p, none⟩ = some (.int .u8 m)) : (w.setCells g o (rep m j)).cell? ⟨b, p, none⟩ = some (.int .u8 m) := by
  by_cases e : b = g
  · subst e
    induction j generalizing w o with
    | zero => exact h
    | succ j ih =>
      show ((w.setCell ⟨b, o, none⟩ (.int .u8 m)).setCells b (o + 1) (rep m j)).cell? ⟨b, p, none⟩ = _
      refine ih ?_
      by_cases ep : p = o
      · subst ep
        exact World.cell?_setCell_same _ _ _ h
      · exact (World.cell?_setCell_other _ _ _ _ (fun q => ep (by injection q with _ q _; exact q.symm))).trans h
  · exact ((fr_setCells g (rep m j) o w).cell (World.block_lt_of_cell? _ _ h) e).trans h
theorem RdM.set {m : Int} {v : Value} {n g o j : Nat} (h : RdM m w v n) : RdM m (w.setCells g o (rep m j)) v n := by
  obtain ⟨a, c, e, h1, h2, h3⟩ := h
  refine ⟨a, c, e, h1, h2, fun h0 => ?_⟩
  obtain ⟨g', o', e2, h4⟩ := h3 h0
  exact ⟨g', o', e2, fun k hk => cell_setCells _ _ (h4 k hk)⟩
theorem own_same {base : Nat} {m : Int} {v u : Value} {n N : Nat} (hv : w.ownsRow base 5 1 v n (rep m n)) (hu : w.ownsRow base 5 1 u N (rep m N)) (hb : v.ownBlock = u.ownBlock) (hN : n ≤ N) (hu2 : w'.ownsRow base 5 1 u N (rep m N)) : w'.ownsRow base 5 1 v n (rep m n) := by
  rcases hv.2 with ⟨rfl, rfl⟩ | ⟨g, cap, cur, rfl, hbg, hg, hnc, hcm, hcs, htk⟩
  · exact World.ownsRow_nil _ _ _ _
  · rcases hu.2 with ⟨rfl, _⟩ | ⟨g2, cap2, cur2, rfl, hbg2, hg2, hnc2, hcm2, hcs2, htk2⟩
    · cases hb
    · injection hb with hb
      have hb : g = g2 := hb
      subst hb
      rw [hg] at hg2
      injection hg2 with hg2
      injection hg2 with hg2
      subst hg2
      rcases hu2.2 with ⟨h, _⟩ | ⟨g3, cap3, cur3, h, hbg3, hg3, hnc3, hcm3, hcs3, htk3⟩
      · cases h
      · injection h with h1 _ h3
        injection h1 with h1
        injection h1 with h1 _
        subst h1 h3
        refine ⟨hv.1, Or.inr ⟨g, cap, cur3, rfl, hbg, hg3, hnc, hcm, by omega, ?_⟩⟩
        have : cur3.toList.take (n * 1) = (cur3.toList.take (N * 1)).take (n * 1) := by rw [List.take_take, Nat.min_eq_left (by omega)]
        rw [this, htk3, Nat.mul_one, rep_take m n N hN]
theorem own_keep {base n : Nat} {ty : TypeId} {v : Value} {xs : List Value} (h : w.ownsRow base ty 1 v n xs) (hk : ∀ g, v.ownBlock = some g → w'.heap[g]? = w.heap[g]?) : w'.ownsRow base ty 1 v n xs := by
  refine ⟨h.1, h.2.imp (fun h => h) fun ⟨g, cap, cur, q⟩ => ⟨g, cap, cur, q.1, q.2.1, ?_, q.2.2.2⟩⟩
  rw [hk g (by rw [q.1]; rfl)]
  exact q.2.2.1
/-- a marked list v and one that has grown out of it by k -/
structure Gn (base : Nat) (m : Int) (W : World) (v : Value) (n : Nat) (k : Nat) (u : Value) (w : World) : Prop where
  ov : w.ownsRow base 5 1 v n (rep m n)
  ou : w.ownsRow base 5 1 u (n + k) (rep m (n + k))
  os : w.os = W.os
  output : w.output = W.output
  size : W.heap.size ≤ w.heap.size
  block : ∀ b, b < W.heap.size → v.ownBlock ≠ some b → w.heap[b]? = W.heap[b]?
  loc : u.ownBlock = v.ownBlock ∨ ∃ b, W.heap.size ≤ b ∧ u.ownBlock = some b
  rd : ∀ a na, RdM m W a na → RdM m w a na
variable {base n k : Nat} {m : Int} {v u : Value}
theorem Gn.start (h : W.ownsRow base 5 1 v n (rep m n)) : Gn base m W v n 0 v W := ⟨h, h, rfl, rfl, Nat.le_refl _, fun _ _ _ => rfl, Or.inl rfl, fun _ _ h => h⟩
theorem Gn.up (h : Gn base m W v n k u w) (q : Up w w') : Gn base m W v n k u w' := ⟨ownsRow_up h.ov q, ownsRow_up h.ou q, q.os.trans h.os, q.output.trans h.output, Nat.le_trans h.size q.size, fun b hb hv => (q.block b (Nat.lt_of_lt_of_le hb h.size)).trans (h.block b hb hv), h.loc, fun a na ha => (h.rd a na ha).up q⟩
theorem Gn.step {j c : Nat} {ad : Addr} (h : Gn base m W v n k u w) (hnews : ∀ i x, (rep m j)[i]? = some x → w.cell? (ad.add i) = some x) (hj : 1 ≤ j) (hb : n + k + j ≤ 4194304) (hbase : base ≤ W.heap.size) :
    ∃ u' w', (Builtin.append_ #[24, 24] 24 #[u, .slice (some ad) j c]).run Tryd.prog w = .ok u' w' ∧ Gn base m W v n (k + j) u' w' := by
  obtain ⟨u', w', hr, h2, h3, h4, h5, h6⟩ := app_keep (c := c) h.ou (rep_len m j) hnews (fun x hx => by rw [List.eq_of_mem_replicate hx]; rfl) hj hb (Nat.le_trans hbase h.size)
  refine ⟨u', w', hr, ?_, ?_, h4.os.trans h.os, h4.output.trans h.output, Nat.le_trans h.size h4.size, fun b hb hv => ?_, ?_, fun a na ha => ?_⟩
  · by_cases e : v.ownBlock = u.ownBlock
    · exact own_same h.ov h.ou e (by omega) h3
    · refine own_keep h.ov (fun g hg => h4.block g (h.ov.lt g hg).2 (fun q => e (hg.trans q)))
  · rw [rep_add] at h2
    rw [← Nat.add_assoc]
    exact h2
  · refine (h4.block b (Nat.lt_of_lt_of_le hb h.size) (fun q => ?_)).trans (h.block b hb hv)
    rcases h.loc with e | ⟨b', hb', e⟩
    · exact hv (e ▸ q.symm)
    · rw [e] at q
      injection q with q
      omega
  · rcases h5 with e | e
    · rw [e]; exact h.loc
    · exact Or.inr ⟨_, h.size, e⟩
  · rcases h6 with q | ⟨g, o, rfl⟩
    · exact (h.rd a na ha).up q
    · exact (h.rd a na ha).set
theorem rep_new (w : World) (m : Int) : ∀ i x, (rep m 1)[i]? = some x → (w.alloc (.cells #[.int .u8 m] 5)).cell? ((⟨w.heap.size, 0, none⟩ : Addr).add i) = some x := one_cell w m
theorem own_val {w : World} (h : w.ownsRow base 5 1 v n (rep m n)) : ∃ a c, v = .slice a n c ∧ n ≤ c ∧ c ≤ maxLen := by
  rcases h.2 with ⟨rfl, rfl⟩ | ⟨g, cap, cur, rfl, _, _, h1, h2, _⟩
  · exact ⟨_, _, rfl, Nat.le_refl _, Nat.zero_le _⟩
  · exact ⟨_, _, rfl, h1, h2⟩
set_option maxRecDepth 100000 in
set_option maxHeartbeats 1000000 in
/-- grown: sixty more -/
theorem grown_any (h : W.ownsRow base 5 1 v n (rep m n)) (hn : n ≤ 4000000) (hbase : base ≤ W.heap.size) : Calls Tryd.prog 68 #[v, .int .u8 m] W fun e w' => ∃ u, e = .returned u ∧ Gn base m W v n 60 u w' := by
  have HG : Hid (Gn base m W v n 0 v W) := Gn.start h
  clear h
  go_enter Tryd.func68, Tryd.ntmps68
  go_wp2_with fail
  go_loopw [5, 6] (fun U I wr => ∃ i : Nat, i ≤ 60 ∧ I = .int .i64 (i : Int) ∧ Hid (Gn base m W v n i U wr)) (fun _ I _ => 60 - (intOf I).toNat)
  case atStart => exact ⟨0, Nat.zero_le _, rfl, HG⟩
  case round =>
    clear HG
    obtain ⟨i, hi, rfl, HI⟩ := hrel
    by_cases hlt : i < 60
    · have e1 : (i : Int) < 60 := by omega
      obtain ⟨u', w', hr, hg⟩ := (HI.out.up ((Up.refl wr).alloc (.cells #[.int .u8 m] 5))).step (j := 1) (c := 1) (rep_new wr m) (by decide) (by omega) hbase
      have HR : Hid _ := hr
      have HN : Hid (Gn base m W v n (i + 1) u' w') := hg
      clear hr hg HI
      go_wp2_with (at_builtin; refine Lib.wpList_append_run _ rfl _ _ _ _ rfl _ _ rfl rfl _ _ HR.out ?_)
      refine ⟨⟨i + 1, by omega, by go_num, HN⟩, ?_⟩
      simp [intOf]; omega
    · have e1 : ¬ (i : Int) < 60 := by omega
      obtain rfl : i = 60 := by omega
      go_wp2_with fail
      go_ret
      exact ⟨_, by first | rfl | (simp; done), HI.out⟩
end Go.Proofs.YtojlappgmckokaaDoor
/- Cart: State and Save of the program; what comes out owns its room. -/
namespace Go.Proofs.YtojlappgmckokaaDoor
open Go.Shelf Go.RowKit
set_option linter.unusedVariables false
set_option linter.unusedSimpArgs false
variable {w w' W : World} {g o n : Nat} {f : Nat → Int} {A : Ad} {C : Ct}
theorem own_base {b b' n : Nat} {ty : TypeId} {v : Value} {xs : List Value} (h : w.ownsRow b ty 1 v n xs) (hb : b' ≤ b) : w.ownsRow b' ty 1 v n xs :=
  ⟨h.1, h.2.imp id fun ⟨g, cap, cur, hv, hq, r⟩ => ⟨g, cap, cur, hv, Nat.le_trans hb hq, r⟩⟩
/-- a copy that owns its room -/
def CopO (W : World) (n : Nat) (f : Nat → Int) (e : Ending) (w' : World) : Prop := ∃ g' cap', e = .returned (.slice (some ⟨g', 0, none⟩) n cap') ∧ W.heap.size ≤ g' ∧ w'.ownsRow W.heap.size 5 1 (.slice (some ⟨g', 0, none⟩) n cap') n (byL f n) ∧ n ≤ cap' ∧ cap' ≤ maxLen ∧ Up W w'
theorem copO_of {e : Ending} {v' : Value} (h1 : e = .returned v') (h2 : w'.ownsRow W.heap.size 5 1 v' n (byL f n)) (h3 : v' ≠ .slice none 0 0) (h4 : Below W.heap.size W w') : CopO W n f e w' := by
  rcases h2.2 with ⟨hv, _⟩ | ⟨g', cap', cur, hv, hbase, hg, hn', hcm, hcs, htk⟩
  · exact absurd hv h3
  · subst hv
    exact ⟨g', cap', h1, by omega, h2, hn', hcm, Up.ofBelow h4⟩
theorem cloneO_any {cap : Nat} (hn : n ≤ 4194304) (hc : ∀ k, k < n → W.cell? ⟨g, o + k, none⟩ = some (.int .u8 (f k))) :
    Calls Tryd.prog 39 #[.slice (some ⟨g, o, none⟩) n cap] W (CopO W n f) := by
  refine (Go.Proofs.AnyE.slices_Clone cloB Tryd.t5 (.int .u8 0) 1 1 (by kernel_rfl) (by kernel_rfl) (by kernel_rfl) (by kernel_rfl) rfl (by decide) Tryd.sizeOf5 g o n cap (byL f n) W (by rw [byL_len, Nat.mul_one]) (by unfold maxLen; omega) (by omega) (fun j u hj => ?_) (byL_one f n)).mono ?_
  · have hjn : j < n := by have := (List.getElem?_eq_some_iff.1 hj).1; rwa [byL_len] at this
    rw [byL_at hjn] at hj
    rw [← hj]
    exact hc j hjn
  · rintro e w' ⟨v', h1, h2, h3, h4⟩
    exact copO_of h1 h2 h3 h4
set_option maxRecDepth 100000 in
set_option maxHeartbeats 1000000 in
theorem concatO_any {sb g1 n1 c1 g2 n2 c2 : Nat} {f1 f2 : Nat → Int} (k0 : W.cell? ⟨sb, 0, none⟩ = some (.slice (some ⟨g1, 0, none⟩) n1 c1)) (k1 : W.cell? ⟨sb, 1, none⟩ = some (.slice (some ⟨g2, 0, none⟩) n2 c2)) (b1 : By W g1 n1 f1) (b2 : By W g2 n2 f2) (h1 : 1 ≤ n1) (h2 : n1 ≤ 1000) (h3 : n2 ≤ 131072) : Calls Tryd.prog 46 #[.slice (some ⟨sb, 0, none⟩) 2 2] W (CopO W (n1 + n2) (catF n1 f1 f2)) := by
  have HK : Hid (∀ w, Up W w → w.cell? ⟨sb, 0, none⟩ = some (.slice (some ⟨g1, 0, none⟩) n1 c1) ∧ w.cell? ⟨sb, 1, none⟩ = some (.slice (some ⟨g2, 0, none⟩) n2 c2)) := fun w u => ⟨cell_up u k0, cell_up u k1⟩
  have HB : Hid (∀ w, Up W w → By w g1 n1 f1 ∧ By w g2 n2 f2) := fun w u => ⟨b1.up u, b2.up u⟩
  have HGr : Hid (∀ w, Up W w → Calls Tryd.prog 63 #[.slice none 0 0, .int .i64 ((n1 : Int) + (n2 : Int))] w fun e w' => ∃ v, e = .returned v ∧ w'.ownsRow w.heap.size 5 1 v 0 [] ∧ Up w w') := fun w u => by
    have := grow_any (W := w) (n := n1 + n2) (by omega) (by omega)
    rw [Int.natCast_add] at this
    exact this
  clear b1 b2
  go_enter Tryd.func46, Tryd.ntmps46
  go_wp2_with fail
  have HU0 : Hid (Up W W) := Up.refl W
  go_loopw [3, 11] (fun S J wr => wr = W ∧ ((J = .int .i64 0 ∧ S = .int .i64 0) ∨ (J = .int .i64 1 ∧ S = .int .i64 (n1 : Int)) ∨ (J = .int .i64 2 ∧ S = .int .i64 ((n1 : Int) + (n2 : Int))))) (fun _ J _ => 2 - (intOf J).toNat)
  case atStart => exact ⟨rfl, Or.inl ⟨rfl, rfl⟩⟩
  case round =>
    obtain ⟨hwr, hcs⟩ := hrel
    subst hwr
    rcases hcs with ⟨rfl, rfl⟩ | ⟨rfl, rfl⟩ | ⟨rfl, rfl⟩
    · go_wp2_with fail
      go_round
      case rel => exact ⟨by trivial, Or.inr (Or.inl ⟨by go_num, by go_num⟩)⟩
      case measure => simp [intOf]
    · go_wp2_with fail
      go_round
      case rel => exact ⟨by trivial, Or.inr (Or.inr ⟨by go_num, by go_num⟩)⟩
      case measure => simp [intOf]
    · go_wp2_with fail
      refine (HGr.out _ (Up.refl _)).mono ?_
      rintro e w1 ⟨v, rfl, ho, u1⟩
      have HO1 : Hid (w1.ownsRow wr.heap.size 5 1 v 0 []) := ho
      have HU1 : Hid (Up wr w1) := u1
      clear ho u1 HU0 k0 k1 HGr
      obtain ⟨W0, hW0⟩ : ∃ W0, W0 = wr := ⟨_, rfl⟩
      subst hW0
      go_wp2_with fail
      go_loopw [6, 27] (fun S J wr => (J = .int .i64 0 ∧ Hid (wr.ownsRow W0.heap.size 5 1 S 0 [] ∧ Up W0 wr)) ∨ (J = .int .i64 1 ∧ Hid (wr.ownsRow W0.heap.size 5 1 S n1 (byL f1 n1) ∧ Up W0 wr)) ∨ (J = .int .i64 2 ∧ Hid (wr.ownsRow W0.heap.size 5 1 S (n1 + n2) (byL f1 n1 ++ byL f2 n2) ∧ Up W0 wr))) (fun _ J _ => 2 - (intOf J).toNat)
      case atStart => exact Or.inl ⟨rfl, HO1.out, HU1.out⟩
      case round =>
        clear HO1 HU1
        rcases hrel with ⟨rfl, HR⟩ | ⟨rfl, HR⟩ | ⟨rfl, HR⟩
        · obtain ⟨q0, q1⟩ := HK.out wr HR.out.2
          go_wp2_with (at_builtin; refine wpList_append_own_at2 _ rfl _ _ _ _ rfl W0.heap.size 5 Tryd.t5 (.int .u8 0) 1 1 Tryd.underlying24 Tryd.underlying24 (by kernel_rfl) (by kernel_rfl) (by kernel_rfl) (by kernel_rfl) rfl (by decide) _ 0 [] rfl HR.out.1 ⟨g1, 0, none⟩ n1 c1 (byL f1 n1) rfl (by rw [byL_len, Nat.mul_one]) (by_cells (HB.out wr HR.out.2).1) (byL_one f1 n1) (by unfold maxLen; omega) (by omega) HR.out.2.size ?_; intro v' w5 h5 h6 _; have HN : Hid (w5.ownsRow W0.heap.size 5 1 v' n1 (byL f1 n1) ∧ Up W0 w5) := ⟨by rw [Nat.zero_add, List.nil_append] at h5; exact h5, grown_upB HR.out.2 HR.out.1 h6⟩; clear h5 h6 q0 q1)
          go_round
          case rel => exact Or.inr (Or.inl ⟨by go_num, HN⟩)
          case measure => simp [intOf]
        · obtain ⟨q0, q1⟩ := HK.out wr HR.out.2
          go_wp2_with (at_builtin; refine wpList_append_own_at2 _ rfl _ _ _ _ rfl W0.heap.size 5 Tryd.t5 (.int .u8 0) 1 1 Tryd.underlying24 Tryd.underlying24 (by kernel_rfl) (by kernel_rfl) (by kernel_rfl) (by kernel_rfl) rfl (by decide) _ n1 (byL f1 n1) rfl HR.out.1 ⟨g2, 0, none⟩ n2 c2 (byL f2 n2) rfl (by rw [byL_len, Nat.mul_one]) (by_cells (HB.out wr HR.out.2).2) (byL_one f2 n2) (by unfold maxLen; omega) (by omega) HR.out.2.size ?_; intro v' w5 h5 h6 _; have HN : Hid (w5.ownsRow W0.heap.size 5 1 v' (n1 + n2) (byL f1 n1 ++ byL f2 n2) ∧ Up W0 w5) := ⟨h5, grown_upB HR.out.2 HR.out.1 h6⟩; clear h5 h6 q0 q1)
          go_round
          case rel => exact Or.inr (Or.inr ⟨by go_num, HN⟩)
          case measure => simp [intOf]
        · go_wp2_with fail
          go_ret
          obtain ⟨o1, u1⟩ := HR.out
          rw [cat_list] at o1
          rcases o1.2 with ⟨_, hz⟩ | ⟨g', cap', cur, hv, hbase, hg, hn', hcm, hcs, htk⟩
          · omega
          · refine ⟨g', cap', by rw [← hv]; first | rfl | (simp; done), by omega, by rw [← hv]; exact o1, hn', hcm, u1⟩
set_option maxRecDepth 100000 in
set_option maxHeartbeats 1000000 in
theorem CtAt.stateO (h : CtAt W A C) (hs : C.m.Std) : Calls Tryd.prog 22 #[.pointer (some ⟨A.cb, 0, none⟩)] W (CopO W (5 + C.rm) C.st) := by
  have k7 : W.cell? ⟨A.cb, 7, none⟩ = some (.slice (some ⟨A.rb, 0, none⟩) C.rm A.rc) := heap_cell h.blk rfl
  have k8 : W.cell? ⟨A.cb, 8, none⟩ = some A.v := heap_cell h.blk rfl
  have hrm := h.rm
  have HT : Hid _ := h.mp.told hs
  have HK7 : Hid (∀ w, Up W w → w.cell? ⟨A.cb, 7, none⟩ = some (.slice (some ⟨A.rb, 0, none⟩) C.rm A.rc)) := fun w u => cell_up u k7
  have HB : Hid (∀ w, Up W w → By w A.rb C.rm C.rf) := fun w u => h.ram.up u
  have HE : Hid (C.st = catF 5 C.m.rgF C.rf) := rfl
  obtain ⟨t8, p8, hv8⟩ := mp_iface h.mp
  rw [hv8] at k8 HT
  have HRg : Hid (∀ k, k < 5 → (#[.int .u8 (C.m.on : Int), .int .u8 (C.m.low : Int), .int .u8 (C.m.high : Int), .int .u8 (C.m.pick : Int), .int .u8 (C.m.mode : Int)] : Array Value)[k]? = some (.int .u8 (C.m.rgF k))) := fun k hk => by
    match k, hk with
    | 0, _ => rfl
    | 1, _ => rfl
    | 2, _ => rfl
    | 3, _ => rfl
    | 4, _ => rfl
  generalize C.m.on = x0 at HT HRg
  generalize C.m.low = x1 at HT HRg
  generalize C.m.high = x2 at HT HRg
  generalize C.m.pick = x3 at HT HRg
  generalize C.m.mode = x4 at HT HRg
  generalize C.m.rgF = RG at HRg HE
  generalize C.st = ST at HE ⊢
  generalize C.rf = RF at HB HE
  generalize C.rm = n at *
  generalize A.cb = cb at *
  generalize A.rb = rb at *
  generalize A.rc = rc at *
  clear h hs hv8
  go_enter Tryd.func22, Tryd.ntmps22
  go_wp2_with fail
  refine Calls.mono HT.out ?_
  rintro e w1 ⟨rfl, u1⟩
  have HU1 : Hid (Up W w1) := u1
  clear u1 HT k7 k8
  go_wp2_with fail
  have HR : Hid ((w1.alloc (.cells #[.int .u8 (x0 : Int), .int .u8 (x1 : Int), .int .u8 (x2 : Int), .int .u8 (x3 : Int), .int .u8 (x4 : Int)] 87)).heap[w1.heap.size]? = some (.cells #[.int .u8 (x0 : Int), .int .u8 (x1 : Int), .int .u8 (x2 : Int), .int .u8 (x3 : Int), .int .u8 (x4 : Int)] 87 (0, 0))) := heap_alloc_new w1 _
  have HU2 : Hid (Up W (w1.alloc (.cells #[.int .u8 (x0 : Int), .int .u8 (x1 : Int), .int .u8 (x2 : Int), .int .u8 (x3 : Int), .int .u8 (x4 : Int)] 87))) := HU1.out.alloc _
  generalize World.alloc w1 _ = w2 at HR HU2 ⊢
  generalize w1.heap.size = g1 at HR ⊢
  clear HU1
  refine wp_region_held_drew (S := fun w => w.cell? ⟨cb, 7, none⟩ = some (.slice (some ⟨rb, 0, none⟩) n rc)) (by kernel_rfl) ?_ (fun hHeld => ?_)
  · exact HK7.out _ HU2.out.drew
  have HU3 : Hid (Up W w2.drew) := HU2.out.drew
  have HR3 : Hid (By w2.drew g1 5 RG) := ⟨_, _, HR.out, by simp, HRg.out⟩
  clear HU2 HR
  generalize World.drew w2 = wd at HU3 HR3 hHeld ⊢
  refine wpAnyH_take (i := 0) (v := ?_) (by simp only [List.getElem?_toArray, List.getElem?_cons_zero]; rfl) (by kernel_rfl) (by kernel_rfl) (by kernel_rfl) (by intro _ _ _ h; exact h) (Or.inl ⟨by rfl, ?_⟩) (by assumption) ?_
  rotate_left
  · (intro w hSw; (try dsimp only at hSw); go_simp <;> with_reducible rfl)
  try simp only [Act.put, List.setIfInBounds_toArray, List.set_cons_zero, List.set_cons_succ]
  refine wpAnyH_take (i := 1) (v := ?_) (by simp only [List.getElem?_toArray, List.getElem?_cons_succ, List.getElem?_cons_zero]; rfl) (by kernel_rfl) (by kernel_rfl) (by kernel_rfl) (by intro _ _ _ h; exact h) (Or.inl ⟨by rfl, ?_⟩) (by assumption) ?_
  rotate_left
  · (intro w hSw; (try dsimp only at hSw); go_simp <;> with_reducible rfl)
  try simp only [Act.put, List.setIfInBounds_toArray, List.set_cons_zero, List.set_cons_succ]
  refine wpAnyH_take (i := 2) (v := ?_) (by simp only [List.getElem?_toArray, List.getElem?_cons_succ, List.getElem?_cons_zero]; rfl) (by kernel_rfl) (by kernel_rfl) (by kernel_rfl) (by intro _ _ _ h; exact h) (Or.inl ⟨by rfl, ?_⟩) (by assumption) ?_
  rotate_left
  · (intro w hSw; (try dsimp only at hSw); go_simp <;> with_reducible rfl)
  try simp only [Act.put, List.setIfInBounds_toArray, List.set_cons_zero, List.set_cons_succ]
  refine wpAnyH_take (i := 3) (v := ?_) (by simp only [List.getElem?_toArray, List.getElem?_cons_succ, List.getElem?_cons_zero]; rfl) (by kernel_rfl) (by kernel_rfl) (by kernel_rfl) (by intro _ _ _ h; exact h) (Or.inl ⟨by rfl, ?_⟩) (by assumption) ?_
  rotate_left
  · (intro w hSw; (try dsimp only at hSw); go_simp <;> with_reducible rfl)
  try simp only [Act.put, List.setIfInBounds_toArray, List.set_cons_zero, List.set_cons_succ]
  refine wpAnyH_take (i := 4) (v := ?_) (by simp only [List.getElem?_toArray, List.getElem?_cons_succ, List.getElem?_cons_zero]; rfl) (by kernel_rfl) (by kernel_rfl) (by kernel_rfl) (by intro _ _ _ h; exact h) (Or.inl ⟨by rfl, ?_⟩) (by assumption) ?_
  rotate_left
  · (intro w hSw; (try dsimp only at hSw); go_simp <;> with_reducible rfl)
  try simp only [Act.put, List.setIfInBounds_toArray, List.set_cons_zero, List.set_cons_succ]
  refine wpAnyH_ready (rs := [5]) (by kernel_rfl) (by simp) ?_
  refine AllReadyH.cons (by simp only [List.getElem?_toArray, List.getElem?_cons_succ, List.getElem?_cons_zero]; rfl) (fun KK hK => ?_) AllReadyH.nil
  go_simp
  have HC : Hid (∀ w, Up (wd.alloc (.cells #[.slice (some ⟨g1, 0, none⟩) 5 5, .slice (some ⟨rb, 0, none⟩) n rc] 24)) w → Calls Tryd.prog 46 #[.slice (some ⟨wd.heap.size, 0, none⟩) 2 2] w (CopO w (5 + n) (catF 5 RG RF))) := fun w u => by
    have hb := (u.block _ (heap_at (heap_alloc_new wd _))).trans (heap_alloc_new wd (.cells #[.slice (some ⟨g1, 0, none⟩) 5 5, .slice (some ⟨rb, 0, none⟩) n rc] 24))
    have ua : Up wd w := ((Up.refl wd).alloc _).trans u
    exact concatO_any (heap_cell hb rfl) (heap_cell hb rfl) (HR3.out.up ua) (HB.out w (HU3.out.trans ua)) (by decide) (by decide) hrm
  have HU4 : Hid (Up W (wd.alloc (.cells #[.slice (some ⟨g1, 0, none⟩) 5 5, .slice (some ⟨rb, 0, none⟩) n rc] 24))) := HU3.out.alloc _
  generalize World.alloc wd _ = we at HC HU4 ⊢
  generalize wd.heap.size = sb at HC ⊢
  refine hK.out _ _ (HK7.out _ HU4.out) (fun hHeld => ?_)
  clear hK KK
  try simp only [Act.put, List.setIfInBounds_toArray, List.set_cons_zero, List.set_cons_succ]
  refine wpAnyH_ready (rs := [6]) (by kernel_rfl) (by simp) ?_
  refine AllReadyH.cons (by simp only [List.getElem?_toArray, List.getElem?_cons_succ, List.getElem?_cons_zero]; rfl) (fun KK hK => ?_) AllReadyH.nil
  go_simp
  refine Calls.mono (HC.out we (Up.refl _)) ?_
  rintro e w7 ⟨g', cap', rfl, hg, hby, hc1, hc2, u7⟩
  have HZ : Hid (we.heap.size ≤ g' ∧ w7.ownsRow we.heap.size 5 1 (.slice (some ⟨g', 0, none⟩) (5 + n) cap') (5 + n) (byL (catF 5 RG RF) (5 + n)) ∧ 5 + n ≤ cap' ∧ cap' ≤ maxLen ∧ Up W w7) := ⟨hg, hby, hc1, hc2, HU4.out.trans u7⟩
  clear hg hby hc1 hc2 u7 HC
  refine hK.out _ _ (HK7.out _ HZ.out.2.2.2.2) (fun hHeld => ?_)
  clear hK KK
  try simp only [Act.put, List.setIfInBounds_toArray, List.set_cons_zero, List.set_cons_succ]
  refine wpAnyH_take (i := 7) (v := ?_) (by simp only [List.getElem?_toArray, List.getElem?_cons_succ, List.getElem?_cons_zero]; rfl) (by kernel_rfl) (by kernel_rfl) (by kernel_rfl) (by intro _ _ _ h; exact h) (Or.inl ⟨by rfl, ?_⟩) (by assumption) ?_
  rotate_left
  · (intro w hSw; (try dsimp only at hSw); go_simp <;> with_reducible rfl)
  try simp only [Act.put, List.setIfInBounds_toArray, List.set_cons_zero, List.set_cons_succ]
  refine wpAnyH_done (by kernel_rfl) ?_ _
  clear hHeld
  go_wp2_with fail
  first | go_ret | go_ret2
  obtain ⟨z1, z2, z3, z4, z5⟩ := HZ.out
  exact ⟨g', cap', by first | rfl | (simp; done), Nat.le_trans HU4.out.size z1, by rw [HE.out]; exact own_base z2 HU4.out.size, z3, z4, z5⟩
set_option maxRecDepth 100000 in
theorem CtAt.saveO (h : CtAt W A C) (hb : C.bat = true) : Calls Tryd.prog 24 #[.pointer (some ⟨A.cb, 0, none⟩)] W (CopO W C.rm C.rf) := by
  have k5 : W.cell? ⟨A.cb, 5, none⟩ = some (.bool true) := by rw [← hb]; exact heap_cell h.blk rfl
  have k7 : W.cell? ⟨A.cb, 7, none⟩ = some (.slice (some ⟨A.rb, 0, none⟩) C.rm A.rc) := heap_cell h.blk rfl
  have HC : Hid _ := cloneO_any (W := W) (g := A.rb) (o := 0) (n := C.rm) (f := C.rf) (cap := A.rc) (by have := h.rm; omega) (fun k hk => by rw [Nat.zero_add]; exact h.ram.cell k hk)
  clear h hb
  go_enter Tryd.func24, Tryd.ntmps24
  go_wp2_with fail
  refine Calls.mono HC.out ?_
  rintro e w1 ⟨g', cap', rfl, h1⟩
  have H1 : Hid _ := h1
  clear h1
  go_wp2_with fail
  go_ret
  exact ⟨g', cap', by first | rfl | (simp; done), H1.out⟩
end Go.Proofs.YtojlappgmckokaaDoor
