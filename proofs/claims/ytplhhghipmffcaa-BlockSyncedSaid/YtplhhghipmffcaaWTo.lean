/- BlockTorn: the walk. -/
import Derived.Test.YtplhhghipmffcaaBkK
namespace Go.Proofs.Ytplhhghipmffcaa
open Go.RowKit
set_option linter.unusedVariables false
set_option linter.unusedSimpArgs false
variable {w w' W : World} {g n m o : Nat} {f f' : Nat → Int} {K K' : Nat → Prop} {sb : Nat} {A : Ad} {S : Sto}
theorem Ints.none (w : World) (f : Nat → Int) (hf : ∀ k, I64 (f k)) : Ints w none 0 0 0 0 f := ⟨Nat.le_refl _, Nat.zero_le _, fun h => absurd h (by decide), hf, fun k hk => absurd hk (by omega)⟩
theorem i64zero : I64 0 := by unfold I64; decide
theorem fillF_eq {v : Int} {a b : Nat} (h : a = b) : fillF v a = fillF v b := by rw [h]
/-- the bytes that are left of one write -/
theorem torn_at (x y : Int) (k i : Nat) (e : Bool) (pk : Nat → Int) (hk : k ≤ 512) (hp : pk 0 = if e = true then (k : Int) + 513 else (k : Int)) (hi : i < 512) :
    crashN pk [(1, fillF y)] (putF (fun _ => 0) (512 * 1) 512 (fillF x)) 1 (512 + i) = (if (e = false ∧ i < k) ∨ (e = true ∧ 512 - k ≤ i) then fillF y i else fillF x i) ∧ crashN pk [(1, fillF y)] (putF (fun _ => 0) (512 * 1) 512 (fillF x)) 1 i = 0 := by
  have hc : crashN pk [(1, fillF y)] (putF (fun _ => 0) (512 * 1) 512 (fillF x)) 1 = tear (putF (fun _ => 0) (512 * 1) 512 (fillF x)) (1, fillF y) (pk 0) := rfl
  have hL : spLen (pk 0) = k := by
    unfold spLen
    rw [hp]
    split <;> omega
  have hF : spFrom (pk 0) = if e = true then 512 - k else 0 := by
    have hL2 := hL
    unfold spLen at hL2
    unfold spFrom
    rw [hL2, hp]
    cases e
    · simp only [Bool.false_eq_true, if_false]
      rw [if_pos (by omega)]
    · simp only [if_true]
      rw [if_neg (by omega)]
  rw [hc]
  unfold tear
  rw [hL, hF]
  show putF _ (512 * 1 + _) k (fun j => fillF y (_ + j)) (512 + i) = _ ∧ putF _ (512 * 1 + _) k (fun j => fillF y (_ + j)) i = 0
  cases e
  · simp only [Bool.false_eq_true, if_false, false_and, or_false, true_and]
    refine ⟨?_, ?_⟩
    · by_cases h : i < k
      · rw [if_pos h, putF_in _ _ (by omega) (by omega)]
        exact fillF_eq (by omega)
      · rw [if_neg h, putF_out _ _ (by omega), putF_in _ _ (by omega) (by omega)]
        exact fillF_eq (by omega)
    · rw [putF_out _ _ (by omega), putF_out _ _ (by omega)]
  · simp only [if_true, Bool.true_eq_false, false_and, false_or, true_and]
    refine ⟨?_, ?_⟩
    · by_cases h : 512 - k ≤ i
      · rw [if_pos h, putF_in _ _ (by omega) (by omega)]
        exact fillF_eq (by omega)
      · rw [if_neg h, putF_out _ _ (by omega), putF_in _ _ (by omega) (by omega)]
        exact fillF_eq (by omega)
    · rw [putF_out _ _ (by omega), putF_out _ _ (by omega)]
/-- a list of two numbers, just made -/
theorem two_ints (w : World) (x y : Int) (hx : I64 x) (hy : I64 y) : Ints (w.alloc (.cells #[.int .i64 x, .int .i64 y] 3)) (some ⟨w.heap.size, 0, none⟩) w.heap.size 0 2 2 (fun k => if k = 0 then x else y) := by
  have hb : (w.alloc (.cells #[.int .i64 x, .int .i64 y] 3)).heap[w.heap.size]? = some (.cells #[.int .i64 x, .int .i64 y] 3 (0, 0)) := heap_alloc_new w _
  refine ⟨by decide, by decide, fun _ => rfl, fun k => by (split; exact hx; exact hy), fun k hk => ?_⟩
  match k, hk with
  | 0, _ => exact heap_cell hb rfl
  | 1, _ => exact heap_cell hb rfl
  | k + 2, hk => exact absurd hk (by omega)
set_option maxRecDepth 100000 in
set_option maxHeartbeats 4000000 in
theorem torn_walk {x y k0 : Int} {e0 : Bool} (hx : I64 x) (hy : I64 y) (hk : I64 k0) :
    Calls Try.prog 3 #[.int .i64 x, .int .i64 y, .int .i64 k0, .bool e0] W fun e w' => e = .returned (.bool true) ∧ Up W w' := by
  have HMd : Hid (∀ w, w = W → Calls Try.prog 9 #[.int .i64 2, .slice none 0 0, .slice none 0 0] w fun e w' => ∃ sb, e = .returned (.tuple #[.pointer (some ⟨sb, 0, none⟩), .bool true]) ∧ Sx W (fun b => b < W.heap.size) sb (Sto.fresh 2 (fun _ => 0)) w') := fun w hw => by
    subst hw
    exact made_any (n := 2) (hs := fun _ => 0) (hp := fun _ => 0) (by decide) (by decide) (Ints.none w _ (fun _ => i64zero)) (Ints.none w _ (fun _ => i64zero)) (by decide) (by decide)
  have HFx : Hid (∀ w, Calls Try.prog 11 #[.int .i64 x, .int .i64 0] w (Cop w 512 (fillF x))) := fun w => filled_any (m := 512) hx (by decide) (by decide)
  have HFy : Hid (∀ w, Calls Try.prog 11 #[.int .i64 y, .int .i64 0] w (Cop w 512 (fillF y))) := fun w => filled_any (m := 512) hy (by decide) (by decide)
  have HPk : Hid (∀ w, Calls Try.prog 13 #[.int .i64 k0, .int .i64 513] w fun e w' => e = .returned (.int .i64 (pickI k0 513)) ∧ w' = w) := fun w => pick_any k0 513 w hk (by decide) (by decide)
  have p1 := pickI_lo k0 513 (by decide)
  have p2 := pickI_hi k0 513 (by decide)
  generalize pickI k0 513 = KI at *
  obtain ⟨k, rfl⟩ := Int.eq_ofNat_of_zero_le p1
  clear p1 hx hy hk
  have hk5 : k ≤ 512 := by omega
  go_enter Try.func3, Try.ntmps3
  go_wp2_with fail
  refine (HMd.out _ rfl).mono ?_
  rintro e w1 ⟨sb, rfl, h1⟩
  have H1 : Hid (Sx W (fun b => b < W.heap.size) sb (Sto.fresh 2 (fun _ => 0)) w1) := h1
  clear h1 HMd
  go_wp2_with fail
  refine (HFx.out _).mono ?_
  rintro e w2 ⟨g2, c2, rfl, q1, q2, q3, q4, q5⟩
  have HW2 : Hid _ := H1.out.write (i := 1) q5 q1 q2 q3 q4 (by show 1 < 2; decide) (by show (-1 : Int) ≠ 0; decide) (by show 0 ≤ 1099511627776; decide)
  clear q1 q2 q3 q4 q5 H1
  go_wp2_with fail
  refine Calls.mono HW2.out ?_
  rintro e w3 ⟨rfl, h3, _⟩
  have HS3 : Hid _ := h3.sync (by show 1 ≤ 1099511627776; decide)
  clear h3 HW2
  go_wp2_with fail
  refine Calls.mono HS3.out ?_
  rintro e w4 ⟨rfl, h4, _⟩
  have H4 : Hid _ := h4
  clear h4 HS3
  go_wp2_with fail
  refine (HFy.out _).mono ?_
  rintro e w5 ⟨g5, c5, rfl, q1, q2, q3, q4, q5⟩
  have HW5 : Hid _ := H4.out.write (i := 1) q5 q1 q2 q3 q4 (by show 1 < 2; decide) (by show (if (-1 : Int) = -1 then (-1 : Int) else -1 - 1) ≠ 0; decide) (by show 0 ≤ 1099511627776; decide)
  clear q1 q2 q3 q4 q5 H4
  go_wp2_with fail
  refine Calls.mono HW5.out ?_
  rintro e w6 ⟨rfl, h6, _⟩
  have H6 : Hid (Sx W (fun b => b < W.heap.size) sb ((((Sto.fresh 2 (fun _ => 0)).wrote 1 (fillF x)).synced).wrote 1 (fillF y)) w6) := h6
  clear h6 HW5
  go_wp2_with fail
  refine (HPk.out _).mono ?_
  rintro e w' ⟨rfl, hw'⟩
  obtain rfl := hw'.symm
  clear HPk
  have HCr : Hid (∀ p : Int, I64 p → Calls Try.prog 14 #[.pointer (some ⟨sb, 0, none⟩), .slice (some ⟨w6.heap.size, 0, none⟩) 2 2] (w6.alloc (.cells #[.int .i64 p, .int .i64 4] 3)) fun e w' => ∃ lg lc, e = .returned (.slice (some ⟨lg, 0, none⟩) 1024 lc) ∧ By w' lg 1024 (crashN (pkN 2 (fun k => if k = 0 then p else 4)) [(1, fillF y)] (putF (fun _ => 0) (512 * 1) 512 (fillF x)) 1) ∧ 1024 ≤ lc ∧ lc ≤ 9223372036854775807 ∧ Up W w') := fun p hp => by
    have ua := (Up.refl w6).alloc (.cells #[.int .i64 p, .int .i64 4] 3)
    refine ((H6.out.more ua).crash (by show (1 : Nat) ≤ _; decide) (two_ints w6 p 4 hp ⟨by decide, by decide⟩)).mono ?_
    rintro e w7 ⟨lg, lc, q0, q1, q2, q3, q4, q5⟩
    exact ⟨lg, lc, q0, q2, q3, by unfold maxLen at q4; omega, H6.out.up.trans (ua.trans q5)⟩
  cases e0
  · have HC1 : Hid _ := HCr.out ((k : Int)) ⟨by omega, by omega⟩
    have HTo : Hid (∀ i, i < 512 → _) := fun i hi => torn_at x y k i false (pkN 2 (fun j => if j = 0 then ((k : Int)) else 4)) hk5 (by unfold pkN; rw [if_pos (by decide)]; show (if ((k : Int)) < 0 then _ else ((k : Int))) = ((k : Int)); rw [if_neg (by omega)]) hi
    clear HCr H6
    go_wp2_with fail
    refine Calls.mono HC1.out ?_
    rintro e w7 ⟨lg, lc, rfl, q1, q2, q3, q4⟩
    have H7 : Hid (By w7 lg 1024 _ ∧ Up W w7) := ⟨q1, q4⟩
    clear q1 q4 HC1
    go_wp2_with fail
    refine (HFx.out _).mono ?_
    rintro e w8 ⟨g8, c8, rfl, r1, r2, r3, r4, r5⟩
    have H8 : Hid (By w8 lg 1024 _ ∧ By w8 g8 512 (fillF x) ∧ Up W w8) := ⟨H7.out.1.up r5, r2, H7.out.2.trans r5⟩
    have l8 : c8 ≤ 9223372036854775807 := by unfold maxLen at r4; omega
    clear r1 r2 r4 r5 H7
    go_wp2_with fail
    refine (HFy.out _).mono ?_
    rintro e w9 ⟨g9, c9, rfl, r1, r2, r6, r4, r5⟩
    have H9 : Hid (By w9 lg 1024 _ ∧ By w9 g8 512 (fillF x) ∧ By w9 g9 512 (fillF y) ∧ Up W w9) := ⟨H8.out.1.up r5, H8.out.2.1.up r5, r2, H8.out.2.2.trans r5⟩
    have l9 : c9 ≤ 9223372036854775807 := by unfold maxLen at r4; omega
    clear r1 r2 r4 r5 H8 HFx HFy
    go_wp2_with fail
    generalize hLF : crashN _ _ _ _ = LF at H9 HTo
    clear hLF
    go_loop [15, 16] (fun I _ => ∃ i : Nat, i ≤ 512 ∧ I = .int .i64 i) (fun I _ => 512 - (intOf I).toNat)
    case atStart => exact ⟨0, by omega, rfl⟩
    case round =>
      obtain ⟨i, hi, rfl⟩ := hrel
      by_cases hlt : i < 512
      · have e1 : (i : Int) < 512 := by omega
        have k1 := H9.out.1.cell (512 + i) (by omega)
        have k2 := H9.out.1.cell i (by omega)
        have k3 := H9.out.2.1.cell i hlt
        have k4 := H9.out.2.2.1.cell i hlt
        obtain ⟨t1, t2⟩ := HTo.out i hlt
        rw [t2] at k2
        rw [t1] at k1
        have e2 : ((512 : Int) + (i : Int)).toNat = 512 + i := by omega
        by_cases hc : i < k
        · rw [if_pos (by first | exact Or.inl ⟨trivial, hc⟩ | exact Or.inr ⟨trivial, hc⟩)] at k1
          have hci : (i : Int) < (k : Int) := by omega
          generalize fillF x i = vx at *
          generalize fillF y i = vy at *
          clear t1 t2 HTo H9 hc
          go_wp2_with fail
          go_round
          case rel => exact ⟨i + 1, by omega, by go_num⟩
          case measure => simp [intOf]; omega
        · rw [if_neg (by rintro (⟨h1, h2⟩ | ⟨h1, h2⟩) <;> first | exact hc h2 | cases h1)] at k1
          have hci : ¬ (i : Int) < (k : Int) := by omega
          generalize fillF x i = vx at *
          generalize fillF y i = vy at *
          clear t1 t2 HTo H9 hc
          go_wp2_with fail
          go_round
          case rel => exact ⟨i + 1, by omega, by go_num⟩
          case measure => simp [intOf]; omega
      · have e1 : ¬ (i : Int) < 512 := by omega
        go_wp2_with fail
        go_ret
        exact ⟨by first | rfl | (simp; done), H9.out.2.2.2⟩
  · have HC1 : Hid _ := HCr.out ((k : Int) + 513) ⟨by omega, by omega⟩
    have HTo : Hid (∀ i, i < 512 → _) := fun i hi => torn_at x y k i true (pkN 2 (fun j => if j = 0 then ((k : Int) + 513) else 4)) hk5 (by unfold pkN; rw [if_pos (by decide)]; show (if ((k : Int) + 513) < 0 then _ else ((k : Int) + 513)) = ((k : Int) + 513); rw [if_neg (by omega)]) hi
    clear HCr H6
    go_wp2_with fail
    refine Calls.mono HC1.out ?_
    rintro e w7 ⟨lg, lc, rfl, q1, q2, q3, q4⟩
    have H7 : Hid (By w7 lg 1024 _ ∧ Up W w7) := ⟨q1, q4⟩
    clear q1 q4 HC1
    go_wp2_with fail
    refine (HFx.out _).mono ?_
    rintro e w8 ⟨g8, c8, rfl, r1, r2, r3, r4, r5⟩
    have H8 : Hid (By w8 lg 1024 _ ∧ By w8 g8 512 (fillF x) ∧ Up W w8) := ⟨H7.out.1.up r5, r2, H7.out.2.trans r5⟩
    have l8 : c8 ≤ 9223372036854775807 := by unfold maxLen at r4; omega
    clear r1 r2 r4 r5 H7
    go_wp2_with fail
    refine (HFy.out _).mono ?_
    rintro e w9 ⟨g9, c9, rfl, r1, r2, r6, r4, r5⟩
    have H9 : Hid (By w9 lg 1024 _ ∧ By w9 g8 512 (fillF x) ∧ By w9 g9 512 (fillF y) ∧ Up W w9) := ⟨H8.out.1.up r5, H8.out.2.1.up r5, r2, H8.out.2.2.trans r5⟩
    have l9 : c9 ≤ 9223372036854775807 := by unfold maxLen at r4; omega
    clear r1 r2 r4 r5 H8 HFx HFy
    go_wp2_with fail
    generalize hLF : crashN _ _ _ _ = LF at H9 HTo
    clear hLF
    go_loop [15, 16] (fun I _ => ∃ i : Nat, i ≤ 512 ∧ I = .int .i64 i) (fun I _ => 512 - (intOf I).toNat)
    case atStart => exact ⟨0, by omega, rfl⟩
    case round =>
      obtain ⟨i, hi, rfl⟩ := hrel
      by_cases hlt : i < 512
      · have e1 : (i : Int) < 512 := by omega
        have k1 := H9.out.1.cell (512 + i) (by omega)
        have k2 := H9.out.1.cell i (by omega)
        have k3 := H9.out.2.1.cell i hlt
        have k4 := H9.out.2.2.1.cell i hlt
        obtain ⟨t1, t2⟩ := HTo.out i hlt
        rw [t2] at k2
        rw [t1] at k1
        have e2 : ((512 : Int) + (i : Int)).toNat = 512 + i := by omega
        by_cases hc : 512 - k ≤ i
        · rw [if_pos (by first | exact Or.inl ⟨trivial, hc⟩ | exact Or.inr ⟨trivial, hc⟩)] at k1
          have hci : (512 : Int) - (k : Int) ≤ (i : Int) := by omega
          generalize fillF x i = vx at *
          generalize fillF y i = vy at *
          clear t1 t2 HTo H9 hc
          go_wp2_with fail
          go_round
          case rel => exact ⟨i + 1, by omega, by go_num⟩
          case measure => simp [intOf]; omega
        · rw [if_neg (by rintro (⟨h1, h2⟩ | ⟨h1, h2⟩) <;> first | exact hc h2 | cases h1)] at k1
          have hci : ¬ (512 : Int) - (k : Int) ≤ (i : Int) := by omega
          generalize fillF x i = vx at *
          generalize fillF y i = vy at *
          clear t1 t2 HTo H9 hc
          go_wp2_with fail
          go_round
          case rel => exact ⟨i + 1, by omega, by go_num⟩
          case measure => simp [intOf]; omega
      · have e1 : ¬ (i : Int) < 512 := by omega
        go_wp2_with fail
        go_ret
        exact ⟨by first | rfl | (simp; done), H9.out.2.2.2⟩
end Go.Proofs.Ytplhhghipmffcaa
