/- BlockFirm: the walk. -/
import Derived.Test.YtplhhghipmffcaaBkL
namespace Go.Proofs.Ytplhhghipmffcaa
open Go.RowKit
set_option linter.unusedVariables false
set_option linter.unusedSimpArgs false
variable {w w' W : World} {g n m o : Nat} {f f' : Nat → Int} {K K' : Nat → Prop} {sb : Nat} {A : Ad} {S : Sto}
/-- a store of three sectors: how many writes more, how many are pending -/
def Fs (W : World) (sb : Nat) (l : Int) (p : Nat) (w : World) : Prop := ∃ S, Sx W (fun b => b < W.heap.size) sb S w ∧ S.n = 3 ∧ S.left = l ∧ S.pend.length = p
variable {l : Int} {p : Nat}
theorem Fs.up (h : Fs W sb l p w) : Up W w := by
  obtain ⟨S, h, _⟩ := h
  exact h.up
theorem Fs.more (h : Fs W sb l p w) (u : Up w w') : Fs W sb l p w' := by
  obtain ⟨S, h, h2⟩ := h
  exact ⟨S, h.more u, h2⟩
theorem Fs.pending (h : Fs W sb l p w) : Calls Try.prog 19 #[.pointer (some ⟨sb, 0, none⟩)] w fun e w' => e = .returned (.int .i64 (p : Int)) ∧ w' = w := by
  obtain ⟨S, h, _, _, h2⟩ := h
  have := h.pending
  rw [h2] at this
  exact this
theorem Fs.sync (h : Fs W sb l p w) (hp : p ≤ 100) : Calls Try.prog 12 #[.pointer (some ⟨sb, 0, none⟩)] w fun e w' => e = .returned (.tuple #[]) ∧ Fs W sb l 0 w' := by
  obtain ⟨S, h, h1, h2, h3⟩ := h
  exact (h.sync (by omega)).mono fun e w' ⟨q1, q2, _⟩ => ⟨q1, S.synced, q2, h1, h2, rfl⟩
theorem Fs.limit (h : Fs W sb l p w) {x y : Int} (hx : I64 x) (hy : y = max x 0) : Calls Try.prog 22 #[.pointer (some ⟨sb, 0, none⟩), .int .i64 x] w fun e w' => e = .returned (.tuple #[]) ∧ Fs W sb y p w' := by
  obtain ⟨S, h, h1, h2, h3⟩ := h
  exact (h.limit hx).mono fun e w' ⟨q1, q2, _⟩ => ⟨q1, S.limit x, q2, h1, hy.symm, h3⟩
theorem Fs.readNo (h : Fs W sb l p w) {x : Int} (hx : I64 x) (hno : x < 0 ∨ 3 ≤ x) : Calls Try.prog 15 #[.pointer (some ⟨sb, 0, none⟩), .int .i64 x] w fun e w' => e = .returned (.tuple #[.slice none 0 0, .int .i64 1]) ∧ w' = w := by
  obtain ⟨S, h, h1, h2, h3⟩ := h
  exact h.readNo hx (by rw [h1]; exact hno)
theorem Fs.writeNo (h : Fs W sb l p w) {x : Int} {aa : Option Addr} {dl dc : Nat} (hx : I64 x) (hl : dl ≤ 9223372036854775807) (hno : ¬ (0 ≤ x ∧ x < 3) ∨ dl ≠ 512) : Calls Try.prog 10 #[.pointer (some ⟨sb, 0, none⟩), .int .i64 x, .slice aa dl dc] w fun e w' => e = .returned (.int .i64 1) ∧ w' = w := by
  obtain ⟨S, h, h1, h2, h3⟩ := h
  exact h.writeNo hx hl (by rw [h1]; exact hno)
theorem Fs.writeFull (h : Fs W sb 0 p w) {x : Int} {aa : Option Addr} {dc : Nat} (hx : 0 ≤ x ∧ x < 3) : Calls Try.prog 10 #[.pointer (some ⟨sb, 0, none⟩), .int .i64 x, .slice aa 512 dc] w fun e w' => e = .returned (.int .i64 101) ∧ w' = w := by
  obtain ⟨S, h, h1, h2, h3⟩ := h
  obtain ⟨i, rfl⟩ := Int.eq_ofNat_of_zero_le hx.1
  exact h.writeFull (by omega) h2
theorem Fs.write {w0 : World} {x y : Int} {cap : Nat} {fd : Nat → Int} (h : Fs W sb l p w0) (hl : 0 < l) (hy : y = l - 1) (hp : p ≤ 100) (u : Up w0 w) (hg : w0.heap.size ≤ g) (hb : By w g 512 fd) (hc1 : 512 ≤ cap) (hc2 : cap ≤ maxLen) (hx : 0 ≤ x ∧ x < 3) :
    Calls Try.prog 10 #[.pointer (some ⟨sb, 0, none⟩), .int .i64 x, .slice (some ⟨g, 0, none⟩) 512 cap] w fun e w' => e = .returned (.int .i64 0) ∧ Fs W sb y (p + 1) w' := by
  obtain ⟨S, h, h1, h2, h3⟩ := h
  obtain ⟨i, rfl⟩ := Int.eq_ofNat_of_zero_le hx.1
  refine (h.write u hg hb hc1 hc2 (i := i) (by omega) (by omega) (by omega)).mono fun e w' ⟨q1, q2, _⟩ => ⟨q1, S.wrote i fd, q2, h1, ?_, ?_⟩
  · show (if S.left = -1 then -1 else S.left - 1) = y
    rw [if_neg (by omega), h2, hy]
  · show (S.pend ++ [(i, fd)]).length = p + 1
    rw [List.length_append, h3]
    rfl
set_option maxRecDepth 100000 in
set_option maxHeartbeats 4000000 in
theorem firm_walk {x y : Int} (hx : I64 x) (hy : I64 y) :
    Calls Try.prog 6 #[.int .i64 x, .int .i64 y] W fun e w' => e = .returned (.bool true) ∧ Up W w' := by
  have HPx : Hid (∀ w, Calls Try.prog 13 #[.int .i64 x, .int .i64 1099511627776] w fun e w' => e = .returned (.int .i64 (pickI x 1099511627776)) ∧ w' = w) := fun w => pick_any x _ w hx (by decide) (by decide)
  have HPy : Hid (∀ w, Calls Try.prog 13 #[.int .i64 y, .int .i64 5] w fun e w' => e = .returned (.int .i64 (pickI y 5)) ∧ w' = w) := fun w => pick_any y _ w hy (by decide) (by decide)
  have p1 := pickI_lo x 1099511627776 (by decide)
  have p2 := pickI_hi x 1099511627776 (by decide)
  have p3 := pickI_lo y 5 (by decide)
  have p4 := pickI_hi y 5 (by decide)
  generalize pickI x 1099511627776 = XI at *
  generalize pickI y 5 = YI at *
  obtain ⟨F, rfl⟩ := Int.eq_ofNat_of_zero_le p1
  obtain ⟨n, rfl⟩ := Int.eq_ofNat_of_zero_le p3
  clear hx hy p1 p3
  have hF : F < 1099511627776 := by omega
  have hn : n < 5 := by omega
  clear p2 p4
  have HP4 : Hid (∀ w, Calls Try.prog 13 #[.int .i64 (F : Int), .int .i64 4] w fun e w' => e = .returned (.int .i64 ((F % 4 : Nat) : Int)) ∧ w' = w) := fun w => by
    have := pick_any (F : Int) 4 w ⟨by omega, by omega⟩ (by decide) (by decide)
    have e : pickI (F : Int) 4 = ((F % 4 : Nat) : Int) := by unfold pickI; rw [if_neg (by omega)]; omega
    rw [e] at this
    exact this
  have HP5 : Hid (∀ w, Calls Try.prog 13 #[.int .i64 (F : Int), .int .i64 511] w fun e w' => e = .returned (.int .i64 ((F % 511 : Nat) : Int)) ∧ w' = w) := fun w => by
    have := pick_any (F : Int) 511 w ⟨by omega, by omega⟩ (by decide) (by decide)
    have e : pickI (F : Int) 511 = ((F % 511 : Nat) : Int) := by unfold pickI; rw [if_neg (by omega)]; omega
    rw [e] at this
    exact this
  obtain ⟨a4, ha4⟩ : ∃ a, a = F % 4 := ⟨_, rfl⟩
  obtain ⟨b5, hb5⟩ : ∃ b, b = F % 511 := ⟨_, rfl⟩
  rw [← ha4] at HP4
  rw [← hb5] at HP5
  have ha : a4 < 4 := by omega
  have hb : b5 < 511 := by omega
  clear ha4 hb5
  obtain ⟨N1, hN1⟩ : ∃ N, N = 1 + 512 * a4 + b5 := ⟨_, rfl⟩
  have eN1 : (1 : Int) + 512 * (a4 : Int) + (b5 : Int) = (N1 : Int) := by omega
  have HN1 : Hid (N1 % 512 ≠ 0 ∧ N1 ≤ 100000) := ⟨by omega, by omega⟩
  have hmk1 : ∀ w : World, (Instr.makeSlice 27 (.int .i64 (N1 : Int)) (.int .i64 (N1 : Int))).run Try.prog w = .ok (.slice (some ⟨w.heap.size, 0, none⟩) N1 N1) (w.alloc (.cells (madeCells #[.int .u8 0] N1) 5)) := fun w => mkB w N1 (by omega)
  clear hN1
  obtain ⟨N2, hN2⟩ : ∃ N : Nat, N = 2097664 := ⟨_, rfl⟩
  obtain ⟨CS, hCS⟩ : ∃ CS, CS = madeCells #[Value.int .u8 0] N2 := ⟨_, rfl⟩
  have eN2 : (N2 : Int) = 2097664 := by omega
  have HN2 : Hid (2097152 < N2 ∧ N2 ≤ 3000000) := ⟨by omega, by omega⟩
  have hmk2 : ∀ w : World, (Instr.makeSlice 27 (.int .i64 2097664) (.int .i64 2097664)).run Try.prog w = .ok (.slice (some ⟨w.heap.size, 0, none⟩) N2 N2) (w.alloc (.cells CS 5)) := fun w => by
    have := mkB w N2 (by omega)
    rw [eN2, ← hCS] at this
    exact this
  clear eN2 hCS hN2
  have HMd : Hid (∀ w, w = W → Calls Try.prog 9 #[.int .i64 3, .slice none 0 0, .slice none 0 0] w fun e w' => ∃ sb, e = .returned (.tuple #[.pointer (some ⟨sb, 0, none⟩), .bool true]) ∧ Fs W sb (-1) 0 w') := fun w hw => by
    subst hw
    exact (made_any (n := 3) (hs := fun _ => 0) (hp := fun _ => 0) (by decide) (by decide) (Ints.none w _ (fun _ => i64zero)) (Ints.none w _ (fun _ => i64zero)) (by decide) (by decide)).mono fun e w' ⟨sb, h1, h2⟩ => ⟨sb, h1, _, h2, rfl, rfl, rfl⟩
  have HFi : Hid (∀ (v more : Int) (m : Nat) w, I64 v → 512 + more = (m : Int) → m ≤ 1000 → Calls Try.prog 11 #[.int .i64 v, .int .i64 more] w (Cop w m (fillF v))) := fun v more m w h1 h2 h3 => filled_any h1 h2 (by omega)
  have HNw : Hid (∀ (z : Int) w, I64 z → (z < 1 ∨ 4096 < z) → Calls Try.prog 20 #[.int .i64 z] w fun e w' => e = .returned (.tuple #[.pointer none, .int .i64 1]) ∧ w' = w) := fun z w h1 h2 => new_no h1 h2
  have HOf : Hid (∀ (aa : Option Addr) (N c : Nat) w, N ≤ 9223372036854775807 → (N = 0 ∨ N % 512 ≠ 0 ∨ 2097152 < N) → Calls Try.prog 21 #[.slice aa N c] w fun e w' => e = .returned (.tuple #[.pointer none, .int .i64 1]) ∧ w' = w) := fun aa N c w h1 h2 => of_no h1 h2
  go_enter Try.func6, Try.ntmps6
  go_wp2_with fail
  refine (HPx.out _).mono ?_
  rintro e w' ⟨rfl, hw'⟩
  obtain rfl := hw'.symm
  go_wp2_with fail
  refine (HMd.out _ rfl).mono ?_
  rintro e w1 ⟨sb, rfl, h1⟩
  have H1 : Hid (Fs W sb (-1) 0 w1) := h1
  clear h1 HMd
  go_wp2_with fail
  refine (HNw.out _ _ ⟨by omega, by omega⟩ (by omega)).mono ?_
  rintro e w' ⟨rfl, hw'⟩
  obtain rfl := hw'.symm
  go_wp2_with fail
  refine (HNw.out _ _ ⟨by omega, by omega⟩ (by omega)).mono ?_
  rintro e w' ⟨rfl, hw'⟩
  obtain rfl := hw'.symm
  go_wp2_with fail
  refine (HOf.out _ _ _ _ (by omega) (by omega)).mono ?_
  rintro e w' ⟨rfl, hw'⟩
  obtain rfl := hw'.symm
  go_wp2_with fail
  refine (HP4.out _).mono ?_
  rintro e w' ⟨rfl, hw'⟩
  obtain rfl := hw'.symm
  go_wp2_with fail
  refine (HP5.out _).mono ?_
  rintro e w' ⟨rfl, hw'⟩
  obtain rfl := hw'.symm
  go_wp2_with fail
  have H2 : Hid (Fs W sb (-1) 0 (w1.alloc (.cells (madeCells #[.int .u8 0] N1) 5))) := H1.out.more ((Up.refl w1).alloc _)
  generalize World.alloc w1 _ = w2 at H2 ⊢
  generalize w1.heap.size = z1
  clear H1 hmk1
  refine (HOf.out _ _ _ _ (by have := HN1.out; omega) (Or.inr (Or.inl HN1.out.1))).mono ?_
  rintro e w' ⟨rfl, hw'⟩
  obtain rfl := hw'.symm
  go_wp2_with fail
  have H3 : Hid (Fs W sb (-1) 0 (w2.alloc (.cells CS 5))) := H2.out.more ((Up.refl w2).alloc _)
  generalize World.alloc w2 _ = w3 at H3 ⊢
  generalize w2.heap.size = z2
  clear H2 hmk2
  refine (HOf.out _ _ _ _ (by have := HN2.out; omega) (Or.inr (Or.inr HN2.out.1))).mono ?_
  rintro e w' ⟨rfl, hw'⟩
  obtain rfl := hw'.symm
  clear HN1 HN2
  go_wp2_with fail
  refine (H3.out.readNo ⟨by omega, by omega⟩ (by omega)).mono ?_
  rintro e w' ⟨rfl, hw'⟩
  obtain rfl := hw'.symm
  go_wp2_with fail
  refine (H3.out.readNo ⟨by omega, by omega⟩ (by omega)).mono ?_
  rintro e w' ⟨rfl, hw'⟩
  obtain rfl := hw'.symm
  go_wp2_with fail
  refine (HFi.out 1 0 512 _ ⟨by omega, by omega⟩ (by omega) (by omega)).mono ?_
  rintro e w4 ⟨g, gc, rfl, q1, q2, q3, q4, q5⟩
  have H4 : Hid (Fs W sb _ _ w4) := H3.out.more q5
  have L : Hid (w3.heap.size ≤ g ∧ By w4 g 512 (fillF 1) ∧ 512 ≤ gc ∧ gc ≤ maxLen ∧ Up w3 w4) := ⟨q1, q2, q3, q4, q5⟩
  clear q1 q2 q3 q4 q5
  go_wp2_with fail
  refine (H4.out.writeNo ⟨by omega, by omega⟩ (by omega) (Or.inl (by omega))).mono ?_
  rintro e w' ⟨rfl, hw'⟩
  obtain rfl := hw'.symm
  go_wp2_with fail
  clear L H3
  refine (HFi.out 1 0 512 _ ⟨by omega, by omega⟩ (by omega) (by omega)).mono ?_
  rintro e w5 ⟨g, gc, rfl, q1, q2, q3, q4, q5⟩
  have H5 : Hid (Fs W sb _ _ w5) := H4.out.more q5
  have L : Hid (w4.heap.size ≤ g ∧ By w5 g 512 (fillF 1) ∧ 512 ≤ gc ∧ gc ≤ maxLen ∧ Up w4 w5) := ⟨q1, q2, q3, q4, q5⟩
  clear q1 q2 q3 q4 q5
  go_wp2_with fail
  refine (H5.out.writeNo ⟨by omega, by omega⟩ (by omega) (Or.inl (by omega))).mono ?_
  rintro e w' ⟨rfl, hw'⟩
  obtain rfl := hw'.symm
  go_wp2_with fail
  clear L H4
  refine (HFi.out 1 (-1) 511 _ ⟨by omega, by omega⟩ (by omega) (by omega)).mono ?_
  rintro e w6 ⟨g, gc, rfl, q1, q2, q3, q4, q5⟩
  have H6 : Hid (Fs W sb _ _ w6) := H5.out.more q5
  have L : Hid (w5.heap.size ≤ g ∧ By w6 g 511 (fillF 1) ∧ 511 ≤ gc ∧ gc ≤ maxLen ∧ Up w5 w6) := ⟨q1, q2, q3, q4, q5⟩
  clear q1 q2 q3 q4 q5
  go_wp2_with fail
  refine (H6.out.writeNo ⟨by omega, by omega⟩ (by omega) (Or.inr (by decide))).mono ?_
  rintro e w' ⟨rfl, hw'⟩
  obtain rfl := hw'.symm
  go_wp2_with fail
  clear L H5
  refine (HFi.out 1 1 513 _ ⟨by omega, by omega⟩ (by omega) (by omega)).mono ?_
  rintro e w7 ⟨g, gc, rfl, q1, q2, q3, q4, q5⟩
  have H7 : Hid (Fs W sb _ _ w7) := H6.out.more q5
  have L : Hid (w6.heap.size ≤ g ∧ By w7 g 513 (fillF 1) ∧ 513 ≤ gc ∧ gc ≤ maxLen ∧ Up w6 w7) := ⟨q1, q2, q3, q4, q5⟩
  clear q1 q2 q3 q4 q5
  go_wp2_with fail
  refine (H7.out.writeNo ⟨by omega, by omega⟩ (by omega) (Or.inr (by decide))).mono ?_
  rintro e w' ⟨rfl, hw'⟩
  obtain rfl := hw'.symm
  go_wp2_with fail
  clear L H6
  refine (H7.out.writeNo ⟨by omega, by omega⟩ (by omega) (Or.inr (by decide))).mono ?_
  rintro e w' ⟨rfl, hw'⟩
  obtain rfl := hw'.symm
  go_wp2_with fail
  refine (H7.out.pending).mono ?_
  rintro e w' ⟨rfl, hw'⟩
  obtain rfl := hw'.symm
  go_wp2_with fail
  refine (HPy.out _).mono ?_
  rintro e w' ⟨rfl, hw'⟩
  obtain rfl := hw'.symm
  go_wp2_with fail
  have HL : Hid _ := H7.out.limit (x := (n : Int)) (y := (n : Int)) ⟨by omega, by omega⟩ (by omega)
  clear H7
  refine Calls.mono HL.out ?_
  rintro e w8 ⟨rfl, h⟩
  have H8 : Hid (Fs W sb (n : Int) 0 w8) := h
  clear h HL
  go_wp2_with fail
  clear HPx HPy HP4 HP5 HNw HOf
  go_loopw [22] (fun I wr => ∃ k : Nat, k ≤ n ∧ I = .int .i64 k ∧ Hid (Fs W sb ((n : Int) - (k : Int)) k wr)) (fun I _ => n - (intOf I).toNat)
  case atStart => exact ⟨0, by omega, rfl, by have := H8.out; rw [show ((n : Int)) = (n : Int) - ((0 : Nat) : Int) by omega] at this; exact this⟩
  case round =>
    clear H8
    obtain ⟨k, hk, rfl, M0⟩ := hrel
    by_cases hlt : k < n
    · have e1 : (k : Int) < (n : Int) := by omega
      have e3 : (k : Int).tmod 3 = (k : Int) % 3 := Int.tmod_eq_emod_of_nonneg (by omega)
      go_wp2_with fail
      refine (HFi.out (k : Int) 0 512 _ ⟨by omega, by omega⟩ (by omega) (by omega)).mono ?_
      rintro e w20 ⟨g, gc, rfl, q1, q2, q3, q4, q5⟩
      have H20 : Hid (Fs W sb _ _ w20) := M0.out.more q5
      clear q1 q2 q3 q4 q5 M0
      go_wp2_with fail
      refine (H20.out.writeNo ⟨by omega, by omega⟩ (by omega) (Or.inl (by omega))).mono ?_
      rintro e w' ⟨rfl, hw'⟩
      obtain rfl := hw'.symm
      go_wp2_with fail
      refine (HFi.out (k : Int) 0 512 _ ⟨by omega, by omega⟩ (by omega) (by omega)).mono ?_
      rintro e w21 ⟨g', gc', rfl, q1, q2, q3, q4, q5⟩
      have HW : Hid (∀ z : Int, 0 ≤ z ∧ z < 3 → _) := fun z hz => H20.out.write (x := z) (y := (n : Int) - ((k + 1 : Nat) : Int)) (by omega) (by omega) (by omega) q5 q1 q2 q3 q4 hz
      clear q1 q2 q3 q4 q5 H20
      go_wp2_with fail
      refine (HW.out _ (by omega)).mono ?_
      rintro e w22 ⟨rfl, h⟩
      have H22 : Hid (Fs W sb ((n : Int) - ((k + 1 : Nat) : Int)) (k + 1) w22) := h
      clear h HW
      go_wp2_with fail
      refine ⟨⟨k + 1, by omega, by first | rfl | (simp; done), H22⟩, ?_⟩
      simp [intOf]
      try omega
    · have e1 : ¬ (k : Int) < (n : Int) := by omega
      obtain rfl : k = n := by omega
      have H30 : Hid (Fs W sb 0 k wr) := by
        have := M0.out
        rw [show (k : Int) - (k : Int) = 0 by omega] at this
        exact this
      clear M0
      obtain ⟨w30, rfl⟩ : ∃ w30, w30 = wr := ⟨_, rfl⟩
      go_wp2_with fail
      refine (HFi.out 9 0 512 _ ⟨by omega, by omega⟩ (by omega) (by omega)).mono ?_
      rintro e w31 ⟨g, gc, rfl, q1, q2, q3, q4, q5⟩
      have H31 : Hid (Fs W sb _ _ w31) := H30.out.more q5
      have L : Hid (w30.heap.size ≤ g ∧ By w31 g 512 (fillF 9) ∧ 512 ≤ gc ∧ gc ≤ maxLen ∧ Up w30 w31) := ⟨q1, q2, q3, q4, q5⟩
      clear q1 q2 q3 q4 q5
      go_wp2_with fail
      refine (H31.out.writeFull (by decide)).mono ?_
      rintro e w' ⟨rfl, hw'⟩
      obtain rfl := hw'.symm
      go_wp2_with fail
      clear L H30
      refine (HFi.out 9 1 513 _ ⟨by omega, by omega⟩ (by omega) (by omega)).mono ?_
      rintro e w32 ⟨g, gc, rfl, q1, q2, q3, q4, q5⟩
      have H32 : Hid (Fs W sb _ _ w32) := H31.out.more q5
      have L : Hid (w31.heap.size ≤ g ∧ By w32 g 513 (fillF 9) ∧ 513 ≤ gc ∧ gc ≤ maxLen ∧ Up w31 w32) := ⟨q1, q2, q3, q4, q5⟩
      clear q1 q2 q3 q4 q5
      go_wp2_with fail
      refine (H32.out.writeNo ⟨by omega, by omega⟩ (by omega) (Or.inr (by decide))).mono ?_
      rintro e w' ⟨rfl, hw'⟩
      obtain rfl := hw'.symm
      go_wp2_with fail
      clear L H31
      have HL : Hid _ := H32.out.sync (by omega)
      clear H32
      refine Calls.mono HL.out ?_
      rintro e w33 ⟨rfl, h⟩
      have H33 : Hid (Fs W sb 0 0 w33) := h
      clear h HL
      go_wp2_with fail
      refine (HFi.out 9 0 512 _ ⟨by omega, by omega⟩ (by omega) (by omega)).mono ?_
      rintro e w34 ⟨g, gc, rfl, q1, q2, q3, q4, q5⟩
      have H34 : Hid (Fs W sb _ _ w34) := H33.out.more q5
      have L : Hid (w33.heap.size ≤ g ∧ By w34 g 512 (fillF 9) ∧ 512 ≤ gc ∧ gc ≤ maxLen ∧ Up w33 w34) := ⟨q1, q2, q3, q4, q5⟩
      clear q1 q2 q3 q4 q5
      go_wp2_with fail
      refine (H34.out.writeFull (by decide)).mono ?_
      rintro e w' ⟨rfl, hw'⟩
      obtain rfl := hw'.symm
      go_wp2_with fail
      clear L H33
      have HL : Hid _ := H34.out.limit (x := 1) (y := 1) ⟨by omega, by omega⟩ (by decide)
      clear H34
      refine Calls.mono HL.out ?_
      rintro e w35 ⟨rfl, h⟩
      have H35 : Hid (Fs W sb 1 0 w35) := h
      clear h HL
      go_wp2_with fail
      refine (HFi.out 9 0 512 _ ⟨by omega, by omega⟩ (by omega) (by omega)).mono ?_
      rintro e w36 ⟨g, gc, rfl, q1, q2, q3, q4, q5⟩
      have H36 : Hid (Fs W sb _ _ w36) := H35.out.more q5
      have L : Hid (w35.heap.size ≤ g ∧ By w36 g 512 (fillF 9) ∧ 512 ≤ gc ∧ gc ≤ maxLen ∧ Up w35 w36) := ⟨q1, q2, q3, q4, q5⟩
      clear q1 q2 q3 q4 q5
      go_wp2_with fail
      have HL : Hid _ := H35.out.write (x := 1) (y := 0) (by decide) (by decide) (by decide) L.out.2.2.2.2 L.out.1 L.out.2.1 L.out.2.2.1 L.out.2.2.2.1 (by decide)
      clear L H36 H35
      refine Calls.mono HL.out ?_
      rintro e w37 ⟨rfl, h⟩
      have H37 : Hid (Fs W sb 0 1 w37) := h
      clear h HL
      go_wp2_with fail
      refine (HFi.out 9 0 512 _ ⟨by omega, by omega⟩ (by omega) (by omega)).mono ?_
      rintro e w38 ⟨g, gc, rfl, q1, q2, q3, q4, q5⟩
      have H38 : Hid (Fs W sb _ _ w38) := H37.out.more q5
      have L : Hid (w37.heap.size ≤ g ∧ By w38 g 512 (fillF 9) ∧ 512 ≤ gc ∧ gc ≤ maxLen ∧ Up w37 w38) := ⟨q1, q2, q3, q4, q5⟩
      clear q1 q2 q3 q4 q5
      go_wp2_with fail
      refine (H38.out.writeFull (by decide)).mono ?_
      rintro e w' ⟨rfl, hw'⟩
      obtain rfl := hw'.symm
      go_wp2_with fail
      clear L H37
      have HL : Hid _ := H38.out.limit (x := -(F : Int)) (y := 0) ⟨by omega, by omega⟩ (by omega)
      clear H38
      refine Calls.mono HL.out ?_
      rintro e w39 ⟨rfl, h⟩
      have H39 : Hid (Fs W sb 0 1 w39) := h
      clear h HL
      go_wp2_with fail
      refine (HFi.out 9 0 512 _ ⟨by omega, by omega⟩ (by omega) (by omega)).mono ?_
      rintro e w40 ⟨g, gc, rfl, q1, q2, q3, q4, q5⟩
      have H40 : Hid (Fs W sb _ _ w40) := H39.out.more q5
      have L : Hid (w39.heap.size ≤ g ∧ By w40 g 512 (fillF 9) ∧ 512 ≤ gc ∧ gc ≤ maxLen ∧ Up w39 w40) := ⟨q1, q2, q3, q4, q5⟩
      clear q1 q2 q3 q4 q5
      go_wp2_with fail
      refine (H40.out.writeFull (by decide)).mono ?_
      rintro e w' ⟨rfl, hw'⟩
      obtain rfl := hw'.symm
      go_wp2_with fail
      clear L H39
      refine (H40.out.pending).mono ?_
      rintro e w' ⟨rfl, hw'⟩
      obtain rfl := hw'.symm
      go_wp2_with fail
      go_ret
      exact ⟨by first | rfl | (simp; done), H40.out.up⟩
end Go.Proofs.Ytplhhghipmffcaa
