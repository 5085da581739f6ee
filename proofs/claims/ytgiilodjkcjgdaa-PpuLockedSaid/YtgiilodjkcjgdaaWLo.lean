/- PpuLocked: the walk. -/
import Derived.Test.YtgiilodjkcjgdaaWTm
namespace Go.Proofs.Ytgiilodjkcjgdaa
open Go.RowKit
set_option linter.unusedVariables false
variable {b : Nat} {p : Pic}
/-- the picture that is locked: a byte of each memory, then on without background -/
def lockPic (a k : Nat) : Pic := ((offPic.setV a 17).setO k 34).setR 0 128
theorem offPic_has : offPic.has 128 = false := by decide
theorem lockPic_bare (a k : Nat) : Bare (lockPic a k) := ⟨((offPic_in.setV a 17 (by decide)).setO k 34 (by decide)).setR 0 128 (by decide), by show (offPic.setR 0 128).has 128 = true; decide, by show (offPic.setR 0 128).has 32 = false; decide, by show (offPic.setR 0 128).has 2 = false; decide⟩
theorem lockPic_tk (a k : Nat) : Tk (lockPic a k) 0 (lockPic a k) := ⟨rfl, rfl, fun _ _ => rfl, rfl, rfl⟩
theorem lockPic_mode {a k n : Nat} {q : Pic} (h : Tk (lockPic a k) n q) : q.mode = modeK n := by
  unfold Pic.mode modeK
  rw [if_neg (by rw [h.has 128]; show ¬ ((offPic.setR 0 128).has 128 = false); decide), h.ly, h.clk]
  simp only [show (144 ≤ (lnK n : Int)) = (144 ≤ lnK n) from propext (by omega), show ((ckK n : Int) < 80) = (ckK n < 80) from propext (by omega), show ((ckK n : Int) < 252) = (ckK n < 252) from propext (by omega)]
theorem lockPic_stat {a k n : Nat} {q : Pic} (h : Tk (lockPic a k) n q) : bits .and .i64 q.statB 3 = modeK n := by
  have er : q.rg 1 = 0 := h.rg 1 (by decide)
  unfold Pic.statB
  rw [lockPic_mode h, er]
  have hm : modeK n = 0 ∨ modeK n = 1 ∨ modeK n = 2 ∨ modeK n = 3 := by unfold modeK; split; decide; split; decide; split <;> decide
  split <;> rcases hm with e | e | e | e <;> rw [e] <;> decide

/-- a picture in a mode, with a byte of each memory -/
structure Lk (W0 : World) (b a k : Nat) (M vv oo : Int) (W : World) : Prop where
  at' : ∃ q, PxAt W b q ∧ q.In ∧ q.mode = M ∧ q.vr a = vv ∧ q.oa k = oo
  up : Up W0 W
  nb : W0.heap.size ≤ b
variable {W0 W : World} {a k : Nat} {M vv oo : Int}
theorem mode_setV (q : Pic) (n : Nat) (x : Int) : (q.setV n x).mode = q.mode := rfl
theorem mode_setO (q : Pic) (n : Nat) (x : Int) : (q.setO n x).mode = q.mode := rfl
theorem Lk.drewN (h : Lk W0 b a k M vv oo W) (n : Nat) : Lk W0 b a k M vv oo (W.drewN n) := by
  obtain ⟨q, h1, h2⟩ := h.at'
  exact ⟨⟨q, h1.drewN n, h2⟩, h.up.trans (Up.drewN W n), h.nb⟩
theorem lockedV {q : Pic} (n : Nat) (hn : n < 8192) : q.locked (32768 + (n : Int)) = decide (q.mode = 3) := by
  unfold Pic.locked
  rw [isO_no (by omega), isV_yes (by omega) (by omega)]
  rcases q.mode_b with e | e | e | e <;> rw [e] <;> decide
theorem lockedO {q : Pic} (n : Nat) (hn : n < 160) : q.locked (65024 + (n : Int)) = decide (q.mode = 2 ∨ q.mode = 3) := by
  unfold Pic.locked
  rw [isO_yes (by omega) (by omega), isV_no (by omega)]
  rcases q.mode_b with e | e | e | e <;> rw [e] <;> decide
theorem Lk.memV (h : Lk W0 b a k M vv oo W) (ha : a < 8192) : Calls Try.prog 19 #[.pointer (some ⟨b, 0, none⟩), .int .i64 (32768 + (a : Int))] W fun e w' => e = .returned (.int .i64 vv) ∧ w' = W := by
  obtain ⟨q, h1, h2, h3, h4, h5⟩ := h.at'
  have := memV_any h2 a ha _ rfl W h1
  rw [h4] at this
  exact this
theorem Lk.memO (h : Lk W0 b a k M vv oo W) (hk : k < 160) : Calls Try.prog 19 #[.pointer (some ⟨b, 0, none⟩), .int .i64 (65024 + (k : Int))] W fun e w' => e = .returned (.int .i64 oo) ∧ w' = W := by
  obtain ⟨q, h1, h2, h3, h4, h5⟩ := h.at'
  have := memO_any h2 k hk _ rfl W h1
  rw [h5] at this
  exact this
theorem Lk.readV (h : Lk W0 b a k M vv oo W) (ha : a < 8192) : Calls Try.prog 18 #[.pointer (some ⟨b, 0, none⟩), .int .i64 (32768 + (a : Int))] W fun e w' => e = .returned (.int .i64 (if M = 3 then 255 else vv)) ∧ w' = W := by
  have hm : ∀ W, Lk W0 b a k M vv oo W → Calls Try.prog 19 #[.pointer (some ⟨b, 0, none⟩), .int .i64 (32768 + (a : Int))] W fun e w' => e = .returned (.int .i64 vv) ∧ w' = W := fun W h => h.memV ha
  obtain ⟨q, h1, h2, h3, h4, h5⟩ := h.at'
  by_cases e : M = 3
  · rw [if_pos e]
    exact readL_any _ (by rw [lockedV a ha, h3, e]; rfl) W h1
  · rw [if_neg e]
    refine readM_any _ _ (by rw [lockedV a ha, h3]; exact decide_eq_false e) (isR_no (by omega)) W h1 (fun W hp => ?_)
    have := memV_any h2 a ha _ rfl W hp
    rw [h4] at this
    exact this
theorem Lk.readO (h : Lk W0 b a k M vv oo W) (hk : k < 160) : Calls Try.prog 18 #[.pointer (some ⟨b, 0, none⟩), .int .i64 (65024 + (k : Int))] W fun e w' => e = .returned (.int .i64 (if M = 2 ∨ M = 3 then 255 else oo)) ∧ w' = W := by
  obtain ⟨q, h1, h2, h3, h4, h5⟩ := h.at'
  by_cases e : M = 2 ∨ M = 3
  · rw [if_pos e]
    exact readL_any _ (by rw [lockedO k hk, h3]; exact decide_eq_true e) W h1
  · rw [if_neg e]
    refine readM_any _ _ (by rw [lockedO k hk, h3]; exact decide_eq_false e) (isR_no (by omega)) W h1 (fun W hp => ?_)
    have := memO_any h2 k hk _ rfl W hp
    rw [h5] at this
    exact this
theorem Lk.writeV (h : Lk W0 b a k M vv oo W) (ha : a < 8192) (x : Int) : Calls Try.prog 16 #[.pointer (some ⟨b, 0, none⟩), .int .i64 (32768 + (a : Int)), .int .i64 x] W fun e w' => e = .returned (.tuple #[]) ∧ Lk W0 b a k M (if M = 3 then vv else cutB x) oo w' := by
  obtain ⟨q, h1, h2, h3, h4, h5⟩ := h.at'
  by_cases e : M = 3
  · rw [if_pos e]
    refine (writeL_any _ x (by rw [lockedV a ha, h3, e]; rfl) W h1).mono fun e w' ⟨g1, g2⟩ => ⟨g1, ?_⟩
    rw [g2]
    exact h
  · rw [if_neg e]
    refine (writeV_any a ha _ x rfl (by rw [lockedV a ha, h3]; exact decide_eq_false e) W h1).mono fun e w' ⟨g1, g2, g3⟩ => ⟨g1, ⟨_, g2, h2.setV a _ (cutB_b x), h3, by show (if a = a then cutB x else q.vr a) = _; rw [if_pos rfl], h5⟩, Fr.up h.up h.nb g3, h.nb⟩
theorem Lk.writeO (h : Lk W0 b a k M vv oo W) (hk : k < 160) (x : Int) : Calls Try.prog 16 #[.pointer (some ⟨b, 0, none⟩), .int .i64 (65024 + (k : Int)), .int .i64 x] W fun e w' => e = .returned (.tuple #[]) ∧ Lk W0 b a k M vv (if M = 2 ∨ M = 3 then oo else cutB x) w' := by
  obtain ⟨q, h1, h2, h3, h4, h5⟩ := h.at'
  by_cases e : M = 2 ∨ M = 3
  · rw [if_pos e]
    refine (writeL_any _ x (by rw [lockedO k hk, h3]; exact decide_eq_true e) W h1).mono fun e w' ⟨g1, g2⟩ => ⟨g1, ?_⟩
    rw [g2]
    exact h
  · rw [if_neg e]
    refine (writeO_any k hk _ x rfl (by rw [lockedO k hk, h3]; exact decide_eq_false e) W h1).mono fun e w' ⟨g1, g2, g3⟩ => ⟨g1, ⟨_, g2, h2.setO k _ (cutB_b x), h3, h4, by show (if k = k then cutB x else q.oa k) = _; rw [if_pos rfl]⟩, Fr.up h.up h.nb g3, h.nb⟩
theorem Lk.dma (h : Lk W0 b a k M vv oo W) (hk : k < 160) (x : Int) : Calls Try.prog 23 #[.pointer (some ⟨b, 0, none⟩), .int .i64 (k : Int), .int .i64 x] W fun e w' => e = .returned (.tuple #[]) ∧ Lk W0 b a k M vv (cutB x) w' := by
  obtain ⟨q, h1, h2, h3, h4, h5⟩ := h.at'
  refine (dmaIn_any k hk x W h1).mono fun e w' ⟨g1, g2, g3⟩ => ⟨g1, ⟨_, g2, h2.setO k _ (cutB_b x), h3, h4, by show (if k = k then cutB x else q.oa k) = _; rw [if_pos rfl]⟩, Fr.up h.up h.nb g3, h.nb⟩
set_option maxRecDepth 100000 in
set_option maxHeartbeats 4000000 in
theorem locked_walk {W : World} {n0 a0 v : Int} (hn : I64 n0) (ha : I64 a0) (hv : I64 v) :
    Calls Try.prog 6 #[.int .i64 n0, .int .i64 a0, .int .i64 v] W fun e w' => e = .returned (.bool true) ∧ Up W w' := by
  have HN : Hid _ := newP_any W
  have HPa : Hid (∀ W, Calls Try.prog 17 #[.int .i64 a0, .int .i64 8192] W fun e w' => e = .returned (.int .i64 (pickI a0 8192)) ∧ w' = W) := fun W => pick_any a0 8192 W ha (by decide) (by decide)
  have a1 := pickI_lo a0 8192 (by decide)
  have a2 := pickI_hi a0 8192 (by decide)
  have HPk : Hid (∀ W, Calls Try.prog 17 #[.int .i64 a0, .int .i64 160] W fun e w' => e = .returned (.int .i64 (pickI a0 160)) ∧ w' = W) := fun W => pick_any a0 160 W ha (by decide) (by decide)
  have k1 := pickI_lo a0 160 (by decide)
  have k2 := pickI_hi a0 160 (by decide)
  have HPn : Hid (∀ W, Calls Try.prog 17 #[.int .i64 n0, .int .i64 20000] W fun e w' => e = .returned (.int .i64 (pickI n0 20000)) ∧ w' = W) := fun W => pick_any n0 20000 W hn (by decide) (by decide)
  have n1 := pickI_lo n0 20000 (by decide)
  have n2 := pickI_hi n0 20000 (by decide)
  obtain ⟨v1, v2⟩ := hv
  generalize pickI a0 8192 = A at *
  generalize pickI a0 160 = K at *
  generalize pickI n0 20000 = N at *
  obtain ⟨a, rfl⟩ := Int.eq_ofNat_of_zero_le a1
  obtain ⟨k, rfl⟩ := Int.eq_ofNat_of_zero_le k1
  obtain ⟨n, rfl⟩ := Int.eq_ofNat_of_zero_le n1
  have HB : Hid _ := lockPic_bare a k
  have hA : a < 8192 := by omega
  have hK : k < 160 := by omega
  clear hn ha a1 k1 n1
  generalize hg : W.heap.size = g at HN
  have HQ : Hid (W.heap.size ≤ g) := Nat.le_of_eq hg
  go_enter Try.func6, Try.ntmps6
  go_wp2_with fail
  refine Calls.mono HN.out ?_
  rintro e w1 ⟨rfl, h1, u1⟩
  have H1 : Hid _ := And.intro h1 u1
  clear h1 u1 HN hg
  go_wp2_with fail
  refine (start_off w1 H1.out.1).mono ?_
  rintro e w2 ⟨rfl, h2, F2⟩
  have H2 : Hid (PxAt w2 g offPic ∧ Up W w2) := ⟨h2, Fr.up H1.out.2 HQ.out F2⟩
  clear h2 F2 H1
  go_wp2_with fail
  refine (HPa.out _).mono ?_
  rintro e w' ⟨rfl, hw'⟩
  obtain rfl := hw'.symm
  go_wp2_with fail
  refine (HPk.out _).mono ?_
  rintro e w' ⟨rfl, hw'⟩
  obtain rfl := hw'.symm
  go_wp2_with fail
  refine (writeV_any a hA _ 17 rfl (off_mode offPic_has _) _ H2.out.1).mono ?_
  rintro e w3 ⟨rfl, h3, F3⟩
  have H3 : Hid (PxAt w3 g (offPic.setV a 17) ∧ Up W w3) := ⟨h3, Fr.up H2.out.2 HQ.out F3⟩
  clear h3 F3 H2
  go_wp2_with fail
  refine (writeO_any k hK _ 34 rfl (off_mode (p := offPic.setV a 17) offPic_has _) _ H3.out.1).mono ?_
  rintro e w4 ⟨rfl, h4, F4⟩
  have H4 : Hid (PxAt w4 g ((offPic.setV a 17).setO k 34) ∧ Up W w4) := ⟨h4, Fr.up H3.out.2 HQ.out F4⟩
  clear h4 F4 H3
  go_wp2_with fail
  refine (writeR_any (q := lockPic a k) 0 (by decide) 65344 128 rfl _ H4.out.1 (fun W h => wreg0On_any (p := (offPic.setV a 17).setO k 34) 128 offPic_has W h)).mono ?_
  rintro e w5 ⟨rfl, h5, F5⟩
  have H5 : Hid (Tb W g (lockPic a k) 0 w5) := ⟨⟨_, lockPic_tk a k, h5⟩, Fr.up H4.out.2 HQ.out F5, HQ.out⟩
  clear h5 F5 H4
  go_wp2_with fail
  refine (HPn.out _).mono ?_
  rintro e w' ⟨rfl, hw'⟩
  obtain rfl := hw'.symm
  go_wp2_with fail
  clear HPa HPk HPn
  go_loopw [10] (fun I wr => ∃ (i j : Nat), i + j = n ∧ I = .int .i64 i ∧ Hid (Tb W g (lockPic a k) j wr)) (fun I _ => (intOf I).toNat)
  case atStart => exact ⟨n, 0, by omega, rfl, H5⟩
  case round =>
    clear H5
    obtain ⟨i, j, hi, rfl, M0⟩ := hrel
    by_cases hlt : 0 < i
    · have d1 : decide (0 < (i : Int)) = true := decide_eq_true (by omega)
      have e1 : 0 < (i : Int) := by omega
      have e2 : (i : Int) < 20000 := by omega
      have HT : Hid _ := M0.out.tick HB.out
      go_wp2_with fail
      refine Calls.mono HT.out ?_
      rintro e w6 ⟨rfl, h6⟩
      have H6 : Hid _ := h6
      clear h6 HT
      go_wp2_with fail
      refine ⟨⟨i - 1, j + 1, by omega, ?_, H6⟩, ?_⟩
      · congr 1; omega
      · simp [intOf]
        omega
    · have d1 : decide (0 < (i : Int)) = false := decide_eq_false (by omega)
      obtain ⟨q, hq, hp⟩ := M0.out.at'
      have hm : modeK j = 0 ∨ modeK j = 1 ∨ modeK j = 2 ∨ modeK j = 3 := by unfold modeK; split; decide; split; decide; split <;> decide
      have L0 : Hid (Lk W g a k (modeK j) 17 34 wr) := ⟨⟨q, hp, hq.inn HB.out.inn, lockPic_mode hq, by rw [hq.vr]; show (if a = a then (17 : Int) else _) = _; rw [if_pos rfl], by rw [hq.oa]; show (if k = k then (34 : Int) else _) = _; rw [if_pos rfl]⟩, M0.out.up, HQ.out⟩
      have HRs : Hid _ := readStatR_any (hq.inn HB.out.inn) wr hp
      have hS := lockPic_stat hq
      generalize q.statB = S at HRs hS
      generalize modeK j = M at hm L0 hS
      clear hq hp M0
      rcases hm with rfl | rfl | rfl | rfl <;>
      · go_wp2_with fail
        refine Calls.mono HRs.out ?_
        rintro e w' ⟨rfl, m4, rfl⟩
        have L1 : Hid _ := L0.out.drewN m4
        clear L0 HRs
        go_wp2_with fail
        refine (L1.out.readV hA).mono ?_
        rintro e w' ⟨rfl, hw'⟩
        obtain rfl := hw'.symm
        go_wp2_with fail
        refine (L1.out.readO hK).mono ?_
        rintro e w' ⟨rfl, hw'⟩
        obtain rfl := hw'.symm
        go_wp2_with fail
        refine (L1.out.writeV hA v).mono ?_
        rintro e w7 ⟨rfl, h7⟩
        have L2 : Hid _ := h7
        clear h7 L1
        go_wp2_with fail
        refine (L2.out.writeO hK v).mono ?_
        rintro e w8 ⟨rfl, h8⟩
        have L3 : Hid _ := h8
        clear h8 L2
        have hw := wrapB v
        obtain ⟨c1, c2⟩ := cutB_b v
        have HC : Hid (cutB v = cutB v) := rfl
        generalize cutB v = C at *
        go_wp2_with fail
        refine (L3.out.memV hA).mono ?_
        rintro e w' ⟨rfl, hw'⟩
        obtain rfl := hw'.symm
        go_wp2_with fail
        refine (L3.out.memO hK).mono ?_
        rintro e w' ⟨rfl, hw'⟩
        obtain rfl := hw'.symm
        go_wp2_with fail
        refine (L3.out.dma hK _).mono ?_
        rintro e w9 ⟨rfl, h9⟩
        have L4 : Hid _ := h9
        clear h9 L3
        go_wp2_with fail
        refine (dmaOut_any 160 5 (by decide) _).mono ?_
        rintro e w' ⟨rfl, hw'⟩
        obtain rfl := hw'.symm
        go_wp2_with fail
        refine (dmaOut_any (-1) 5 (by decide) _).mono ?_
        rintro e w' ⟨rfl, hw'⟩
        obtain rfl := hw'.symm
        go_wp2_with fail
        refine (L4.out.memO hK).mono ?_
        rintro e w' ⟨rfl, hw'⟩
        obtain rfl := hw'.symm
        go_wp2_with fail
        refine (L4.out.memV hA).mono ?_
        rintro e w' ⟨rfl, hw'⟩
        obtain rfl := hw'.symm
        go_wp2_with fail
        go_ret
        exact ⟨rfl, L4.out.up⟩
end Go.Proofs.Ytgiilodjkcjgdaa
