/- Proved: the walk of SchedRound. -/
import Derived.Test.YtakciepfckdpfaaScN
namespace Go.Proofs.Ytakciepfckdpfaa
open Go.RowKit
set_option linter.unusedVariables false
set_option linter.unusedSimpArgs false
variable {W : World}
theorem pickN {c : Int} {n : Nat} (h : 0 < n) : ∃ s : Nat, pickI c (n : Int) = (s : Int) ∧ s < n := by
  unfold pickI
  split
  · exact ⟨((-(c + 1)) % (n : Int)).toNat, by have := Int.emod_nonneg (-(c + 1)) (b := (n : Int)) (by omega); omega, by have := Int.emod_lt_of_pos (-(c + 1)) (b := (n : Int)) (by omega); have := Int.emod_nonneg (-(c + 1)) (b := (n : Int)) (by omega); omega⟩
  · exact ⟨(c % (n : Int)).toNat, by have := Int.emod_nonneg c (b := (n : Int)) (by omega); omega, by have := Int.emod_lt_of_pos c (b := (n : Int)) (by omega); have := Int.emod_nonneg c (b := (n : Int)) (by omega); omega⟩
theorem pick_nat (c : Int) (n : Nat) (hc : I64 c) (hn : 0 < n) (hn2 : n ≤ 1000) : ∃ s : Nat, s < n ∧ ∀ w, Calls Try.prog 9 #[.int .i64 c, .int .i64 (n : Int)] w fun e w' => e = .returned (.int .i64 (s : Int)) ∧ w' = w := by
  obtain ⟨s, h1, h2⟩ := pickN (c := c) hn
  refine ⟨s, h2, fun w => ?_⟩
  rw [← h1]
  exact pick_any c (n : Int) w hc (by omega) (by omega)
set_option maxRecDepth 100000 in
set_option maxHeartbeats 1000000 in
theorem round_walk {a0 a1 : Int} {aa : Option Addr} {ab ao len cap : Nat} {f : Nat → Int} (h0 : I64 a0) (h1 : I64 a1) (D : Ints W aa ab ao len cap f) :
    Calls Try.prog 4 #[.int .i64 a0, .int .i64 a1, .slice aa len cap] W fun e w' => e = .returned (.bool true) ∧ Up W w' := by
  have l1 := D.lc
  have l2 : cap ≤ 9223372036854775807 := by have := D.cm; unfold maxLen at this; omega
  obtain ⟨k0, hk0, HP8⟩ := pick_nat a0 8 h0 (by decide) (by decide)
  obtain ⟨n0, hn0, HP12⟩ := pick_nat a1 12 h1 (by decide) (by decide)
  have HB : Hid (Calls Try.prog 8 #[] W fun e w' => e = .returned (.bool true) ∧ Up W w') := begun_any W
  have H8 : Hid (∀ w, Calls Try.prog 9 #[.int .i64 a0, .int .i64 8] w fun e w' => e = .returned (.int .i64 (k0 : Int)) ∧ w' = w) := HP8
  have H12 : Hid (∀ w, Calls Try.prog 9 #[.int .i64 a1, .int .i64 12] w fun e w' => e = .returned (.int .i64 (n0 : Int)) ∧ w' = w) := HP12
  obtain ⟨k, hk⟩ : ∃ k, k = 1 + k0 := ⟨_, rfl⟩
  obtain ⟨n, hn⟩ : ∃ n, n = 1 + n0 := ⟨_, rfl⟩
  have ek : (1 : Int) + (k0 : Int) = (k : Int) := by omega
  have en : (1 : Int) + (n0 : Int) = (n : Int) := by omega
  have HM : Hid (∀ w, Calls Try.prog 10 #[.int .i64 (k : Int), .int .i64 (n : Int)] w fun e w' => ∃ sb, e = .returned (.pointer (some ⟨sb, 0, none⟩)) ∧ Sx w (fun b => b < w.heap.size) sb ⟨rot n 0, offs k⟩ w') := fun w => by rw [rot_zero]; exact made_any w (by omega) (by omega) (by omega)
  have HI : Hid (∀ w i, Up W w → i < len → aa = some ⟨ab, ao, none⟩ ∧ w.cell? ⟨ab, ao + i, none⟩ = some (.int .i64 (f i)) ∧ ∃ s : Nat, s < k ∧ ∀ w, Calls Try.prog 9 #[.int .i64 (f i), .int .i64 (k : Int)] w fun e w' => e = .returned (.int .i64 (s : Int)) ∧ w' = w) := fun w i u hi => ⟨D.ad (by omega), cell_up u (D.cell i hi), pick_nat _ k (D.i64 i) (by omega) (by omega)⟩
  have hk8 : k ≤ 8 := by omega
  have hn12 : n ≤ 12 := by omega
  have hn1 : 1 ≤ n := by omega
  have HT : Hid (∀ (W1 : World) K w sb i s, s < k → Sx W1 K sb ⟨rot n i, offs k⟩ w → Calls Try.prog 11 #[.pointer (some ⟨sb, 0, none⟩), .int .i64 (s : Int)] w fun e w' => e = .returned (.tuple #[.int .i64 ((i % n : Nat) : Int), .int .i64 0]) ∧ ∀ w1, w1 = w' → Calls Try.prog 12 #[.pointer (some ⟨sb, 0, none⟩), .int .i64 (s : Int)] w1 fun e w' => e = .returned (.tuple #[.int .i64 ((i % n : Nat) : Int), .int .i64 0]) ∧ Sx W1 K sb ⟨rot n (i + 1), offs k⟩ w') := fun W1 K w sb i s hs h => by
    have t := Sd.turn hs (rot_next (n := n) (i := i) (by omega)) (rot_at (by omega))
    rw [rot_succ (by omega)] at t
    refine (h.begin (s := (s : Int))).mono fun e w' h2 => ?_
    rw [t.1, t.2.1, t.2.2.1] at h2
    refine ⟨h2.1, fun w1 e1 => ?_⟩
    subst e1
    refine (h2.2.1.done (s := (s : Int))).mono fun e w' h3 => ?_
    rw [t.2.2.2.1, t.2.2.2.2.1, t.2.2.2.2.2] at h3
    exact ⟨h3.1, h3.2.1⟩
  clear hk hn D hk0 hn0 HP8 HP12 h0 h1
  go_enter Try.func4, Try.ntmps4
  go_wp2_with fail
  refine Calls.mono HB.out ?_
  rintro e w1 ⟨rfl, u1⟩
  have HU1 : Hid (Up W w1) := u1
  clear u1 HB
  go_wp2_with fail
  refine (H8.out _).mono ?_
  rintro e w' ⟨rfl, hw⟩
  obtain rfl := hw.symm
  clear hw
  go_wp2_with fail
  refine (H12.out _).mono ?_
  rintro e w' ⟨rfl, hw⟩
  obtain rfl := hw.symm
  clear hw H8 H12
  go_wp2_with fail
  refine (HM.out _).mono ?_
  rintro e w2 ⟨sb, rfl, h⟩
  have HS : Hid _ := h
  clear h HM
  go_wp2_with fail
  go_loopw [11, 12, 13, 14, 15, 16] (fun I _ _ _ _ _ wr => ∃ i : Nat, i ≤ len ∧ I = .int .i64 (i : Int) ∧ Hid (Sx w1 (fun b => b < w1.heap.size) sb ⟨rot n i, offs k⟩ wr)) (fun I _ _ _ _ _ _ => len - (intOf I).toNat)
  case atStart => exact ⟨0, by omega, rfl, HS⟩
  case round =>
    clear HS
    obtain ⟨i, hi, rfl, HS⟩ := hrel
    by_cases hlt : i < len
    · have d1 : (i : Int) < (len : Int) := by omega
      obtain ⟨rfl, kc, s, hs, hP⟩ := HI.out wr i (HU1.out.trans HS.out.up) hlt
      have H1 : Hid _ := hP
      have H2 : Hid _ := HT.out _ _ wr sb i s hs HS.out
      clear hP HS HT HI
      obtain ⟨q, hq⟩ : ∃ q, i % n = q := ⟨_, rfl⟩
      have hm : (i : Int) % (n : Int) = (q : Int) := by omega
      rw [hq] at H2
      clear hq
      go_wp2_with fail
      refine (H1.out _).mono ?_
      rintro e w' ⟨rfl, hw⟩
      obtain rfl := hw.symm
      clear hw
      go_wp2_with fail
      refine Calls.mono H2.out ?_
      rintro e w3 ⟨rfl, h⟩
      have H3 : Hid _ := h w3 rfl
      clear h H2
      go_wp2_with fail
      refine Calls.mono H3.out ?_
      rintro e w4 ⟨rfl, h⟩
      have H4 : Hid _ := h
      clear h H3
      go_wp2_with fail
      refine ⟨⟨i + 1, by omega, by first | rfl | (simp; done), H4⟩, ?_⟩
      simp [intOf]
      omega
    · have d1 : ¬ (i : Int) < (len : Int) := by omega
      have H4 : Hid _ := HU1.out.trans HS.out.up
      clear HS
      go_wp2_with fail
      go_ret
      exact ⟨by first | rfl | (simp; done), H4.out⟩
end Go.Proofs.Ytakciepfckdpfaa
