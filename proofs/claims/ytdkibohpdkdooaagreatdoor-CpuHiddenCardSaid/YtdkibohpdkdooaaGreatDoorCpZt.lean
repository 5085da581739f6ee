/- Tick, over the translation. -/
import Derived.Test.YtdkibohpdkdooaaGreatDoorCpZ
namespace Go.Proofs.YtdkibohpdkdooaaGreatDoor
open Go.RowKit
set_option linter.unusedVariables false
theorem i64_mask (n : Int) (k : Nat) (hk : k < 63) (m : Int) (hm : m = ((2 ^ k - 1 : Nat) : Int)) : bits .and .i64 n m = n % ((2 ^ k : Nat) : Int) := by
  subst hm
  have hp : 2 ^ k < 2 ^ 63 := Nat.pow_lt_pow_right (by decide) hk
  have hpos : 0 < 2 ^ k := Nat.two_pow_pos k
  have h1 : (BitVec.ofInt 64 ((2 ^ k - 1 : Nat) : Int)).toNat = 2 ^ k - 1 := by
    rw [BitVec.ofInt_natCast, BitVec.toNat_ofNat]; exact Nat.mod_eq_of_lt (by omega)
  have key : (BitVec.ofInt 64 n &&& BitVec.ofInt 64 ((2 ^ k - 1 : Nat) : Int)).toNat = (n % ((2 ^ 64 : Nat) : Int)).toNat % 2 ^ k := by
    rw [BitVec.toNat_and, BitVec.toNat_ofInt, h1, Nat.and_two_pow_sub_one_eq_mod]
  show IntKind.i64.wrap ((BitVec.ofInt 64 n &&& BitVec.ofInt 64 ((2 ^ k - 1 : Nat) : Int)).toNat : Nat) = _
  rw [key, IntKind.wrap_i64]
  have hd : ((2 ^ k : Nat) : Int) ∣ ((2 ^ 64 : Nat) : Int) := Int.natCast_dvd_natCast.2 (Nat.pow_dvd_pow 2 (by omega))
  have hnn : 0 ≤ n % ((2 ^ 64 : Nat) : Int) := Int.emod_nonneg _ (by decide)
  have e1 : (((n % ((2 ^ 64 : Nat) : Int)).toNat % 2 ^ k : Nat) : Int) = n % ((2 ^ k : Nat) : Int) := by
    rw [Int.natCast_emod, Int.toNat_of_nonneg hnn, Int.emod_emod_of_dvd _ hd]
  rw [e1]
  have l1 := Int.emod_nonneg n (show ((2 ^ k : Nat) : Int) ≠ 0 by omega)
  have l2 := Int.emod_lt_of_pos n (show 0 < ((2 ^ k : Nat) : Int) by omega)
  omega
theorem and31 (x : Int) (h0 : -9223372036854775808 ≤ x) (h1 : x ≤ 9223372036854775807) : bits .and .i64 x 31 = x % 32 := by
  exact i64_mask x 5 (by decide) 31 rfl
theorem rowNew (w2 : World) (R : Row) : ∀ W3 old, (w2.alloc (.cells old 75)).setRow w2.heap.size R.cells = W3 → W3.heap[w2.heap.size]? = some (.cells R.cells 75 (0, 0)) ∧ Up w2 W3 := by
  rintro W3 old rfl
  exact ⟨setRow_heap _ _ _ _ _ _ (heap_alloc_new w2 _), ((Up.refl w2).alloc _).setRow (Nat.le_refl _) _⟩
set_option maxRecDepth 100000 in
set_option maxHeartbeats 1000000 in
theorem tick_rest (d l : Int) (b : Nat) (s : St) (w : World) (h : Cp w b s) (o : s.Ok) (hs : s.state ≠ 0) (hl : bits .and .i64 l 31 = l % 32) :
    Calls Tryz.prog 18 #[.pointer (some ⟨b, 0, none⟩), .int .i64 d, .int .i64 l] w fun e w' => e = .returned (.int .i64 0) ∧ Cp w' b (s.look (l % 32)) ∧ Fr b w w' := by
  have c11 : w.cell? ⟨b, 11, none⟩ = some (.int .i64 s.state) := h.cell 11
  have hs' : (s.state != 0) = true := bne_iff_ne.2 hs
  have hl0 : 0 ≤ l % 32 := by omega
  have hl1 : l % 32 ≤ 31 := by omega
  have hu8 : IntKind.u8.wrap (l % 32) = l % 32 := wraps_u8 _ (by omega) (by omega)
  clear hs
  go_enter Tryz.func18, Tryz.ntmps18
  go_wp2_with (first
    | (go_at_call 24; refine (look_any (l % 32) b s _ (by exact h) o ⟨hl0, hl1⟩).mono ?_; rintro e w1 ⟨rfl, h1, F1⟩))
  go_ret
  exact ⟨rfl, h1, F1⟩
set_option maxRecDepth 100000 in
set_option maxHeartbeats 1000000 in
theorem tick_run (d l : Int) (b : Nat) (s s1 : St) (w : World) (h : Cp w b s) (v : s.Inv) (hL : Lb b w) (hs : s.state = 0) (hl : bits .and .i64 l 31 = l % 32) (e1 : s.act (d % 256) (l % 32) = s1) :
    Calls Tryz.prog 18 #[.pointer (some ⟨b, 0, none⟩), .int .i64 d, .int .i64 l] w fun e w' => e = .returned (.int .i64 (s1.tick1 (l % 32)).2) ∧ Cp w' b (s1.tick1 (l % 32)).1 ∧ Fr b w w' := by
  have c11 : w.cell? ⟨b, 11, none⟩ = some (.int .i64 s.state) := h.cell 11
  rw [hs] at c11
  have hl0 : 0 ≤ l % 32 := by omega
  have hl1 : l % 32 ≤ 31 := by omega
  have hu8 : IntKind.u8.wrap (l % 32) = l % 32 := wraps_u8 _ (by omega) (by omega)
  have hd8 : IntKind.u8.wrap d = d % 256 := IntKind.wrap_u8 d
  have hd0 : 0 ≤ d % 256 := by omega
  have hd1 : d % 256 ≤ 255 := by omega
  have HA : Hid (∀ W, Cp W b s → Calls Tryz.prog 25 #[.pointer (some ⟨b, 0, none⟩), .int .u8 (d % 256), .int .u8 (l % 32)] W fun e w' => e = .returned (.tuple #[]) ∧ Cp w' b s1 ∧ Fr b W w') := fun W hW => by rw [← e1]; exact act_any (d % 256) (l % 32) b s W hW v hs ⟨hd0, hd1⟩ ⟨hl0, hl1⟩
  obtain ⟨o1, m1, a1, p1, t1⟩ := act_ok (d % 256) (l % 32) s v hs ⟨hd0, hd1⟩
  rw [e1] at o1 m1 a1 p1 t1
  clear e1 hs v
  obtain ⟨R, hR⟩ : ∃ R, R = s1.row := ⟨_, rfl⟩
  have HR : Hid (s1.row = R) := hR.symm
  have hRs : R.sure ≤ 2 := by rw [hR]; exact row_sure s1
  have hRd : R.d ≤ 32 := by rw [hR]; exact row_d s1
  have HE := enterDoes R.d hRd
  have hask := o1.asked
  have ha1 := hask.1
  have ha2 := hask.2
  clear hR hask
  have wa : IntKind.i64.wrap s1.asked = s1.asked := wi _ ha1 (by omega)
  by_cases ho : s1.over s1.row = true
  rotate_left
  · have hof : s1.over R = false := by rw [HR.out] at ho; simpa using ho
    have HT : Hid (s1.tick1 (l % 32) = (s1, 0)) := by show _ = _; unfold St.tick1; rw [if_neg ho]
    rw [HT.out]
    clear ho
    go_enter Tryz.func18, Tryz.ntmps18
    go_wp2_with (first
      | (go_at_call 25; refine (HA.out _ (by exact h)).mono ?_; rintro e w1 ⟨rfl, h1, F1⟩)
      | (go_at_call 26; refine (row_any b s1 _ (by exact h1) o1).mono ?_; rw [HR.out]; rintro e w2 ⟨rfl, hu2⟩
         have HN2 : Hid (∀ o, (w2.alloc o).heap[w2.heap.size]? = some o) := heap_alloc_new w2
         have HX2 : Hid _ := rowNew w2 R
         have h2 := h1.up hu2
         have F2 : Fr b w w2 := F1.trans (Fr.ofUp hu2)
         clear hu2 h1 F1)
      | (refine wpList_store_rowTo rfl 75 _ _ rfl rfl w2.heap.size R.cells rfl rfl 75 _ (HN2.out _) (by kernel_rfl) rfl (cells_one R) ?_
         generalize hW3 : World.setRow _ _ _ = W3
         obtain ⟨hg3, hu3⟩ := HX2.out W3 _ hW3
         have h3 := h2.up hu3
         have F3 : Fr b w W3 := F2.trans (Fr.ofUp hu3)
         have hlt3 : w2.heap.size < W3.heap.size := (Array.getElem?_eq_some_iff.1 hg3).1
         have hgb3 : w2.heap.size ≠ b := by have := h2.lt; omega
         obtain ⟨q0, q1, q2, q3, q4, q5, q6, q7⟩ := rowBlock R hg3
         have HG3 : Hid _ := hg3
         clear hW3 hu3 h2 F2 HX2 hg3)
      | (go_at_call 27; refine (over_any R b s1 _ (by exact h3) o1 hRs).mono ?_; rw [hof]; rintro e w4 ⟨rfl, hu4⟩
         have h4 := h3.up hu4
         have F4 : Fr b w w4 := F3.trans (Fr.ofUp hu4)
         obtain ⟨p0, p1, p2, p3, p4, p5, p6, p7⟩ := rowBlock R ((hu4.block _ hlt3).trans HG3.out)
         have L4 : Lb b w4 := hL.fr F4
         have c21 : w4.cell? ⟨b, 21, none⟩ = some (.int .u8 s1.asked) := h4.cell 21
         have c14 : w4.cell? ⟨b, 14, none⟩ = some (.int .u8 s1.phase) := h4.cell 14
         clear hu4 h3 F3 q0 q1 q2 q3 q4 q5 q6 q7))
    go_ret
    exact ⟨rfl, h4, F4⟩
  · have hof : s1.over R = true := by rw [HR.out] at ho; exact ho
    by_cases hp : s1.phase = 2
    · have HT : Hid (s1.tick1 (l % 32) = (doP R.d s1, s1.asked)) := by show _ = _; unfold St.tick1; rw [if_pos ho, if_pos hp, HR.out]
      rw [HT.out]
      have hp' : (s1.phase == 2) = true := by rw [hp]; rfl
      clear ho hp
      go_enter Tryz.func18, Tryz.ntmps18
      go_wp2_with (first
      | (go_at_call 25; refine (HA.out _ (by exact h)).mono ?_; rintro e w1 ⟨rfl, h1, F1⟩)
      | (go_at_call 26; refine (row_any b s1 _ (by exact h1) o1).mono ?_; rw [HR.out]; rintro e w2 ⟨rfl, hu2⟩
         have HN2 : Hid (∀ o, (w2.alloc o).heap[w2.heap.size]? = some o) := heap_alloc_new w2
         have HX2 : Hid _ := rowNew w2 R
         have h2 := h1.up hu2
         have F2 : Fr b w w2 := F1.trans (Fr.ofUp hu2)
         clear hu2 h1 F1)
      | (refine wpList_store_rowTo rfl 75 _ _ rfl rfl w2.heap.size R.cells rfl rfl 75 _ (HN2.out _) (by kernel_rfl) rfl (cells_one R) ?_
         generalize hW3 : World.setRow _ _ _ = W3
         obtain ⟨hg3, hu3⟩ := HX2.out W3 _ hW3
         have h3 := h2.up hu3
         have F3 : Fr b w W3 := F2.trans (Fr.ofUp hu3)
         have hlt3 : w2.heap.size < W3.heap.size := (Array.getElem?_eq_some_iff.1 hg3).1
         have hgb3 : w2.heap.size ≠ b := by have := h2.lt; omega
         obtain ⟨q0, q1, q2, q3, q4, q5, q6, q7⟩ := rowBlock R hg3
         have HG3 : Hid _ := hg3
         clear hW3 hu3 h2 F2 HX2 hg3)
      | (go_at_call 27; refine (over_any R b s1 _ (by exact h3) o1 hRs).mono ?_; rw [hof]; rintro e w4 ⟨rfl, hu4⟩
         have h4 := h3.up hu4
         have F4 : Fr b w w4 := F3.trans (Fr.ofUp hu4)
         obtain ⟨p0, p1, p2, p3, p4, p5, p6, p7⟩ := rowBlock R ((hu4.block _ hlt3).trans HG3.out)
         have L4 : Lb b w4 := hL.fr F4
         have c21 : w4.cell? ⟨b, 21, none⟩ = some (.int .u8 s1.asked) := h4.cell 21
         have c14 : w4.cell? ⟨b, 14, none⟩ = some (.int .u8 s1.phase) := h4.cell 14
         clear hu4 h3 F3 q0 q1 q2 q3 q4 q5 q6 q7)
      | (refine (does_any R.d hRd b s1 _ (by exact h4) o1 (by exact L4) a1).mono ?_; rintro e w5 ⟨rfl, h5, F5⟩))
      go_ret
      exact ⟨rfl, h5, F4.trans F5⟩
    · have HT : Hid (s1.tick1 (l % 32) = (s1.finish R (l % 32), s1.asked)) := by show _ = _; unfold St.tick1; rw [if_pos ho, if_neg hp, HR.out]
      rw [HT.out]
      have hp' : (s1.phase == 2) = false := beq_eq_false_iff_ne.2 hp
      have HFi : Hid (∀ W, Cp W b s1 → Lb b W → Calls Tryz.prog 28 #[.pointer (some ⟨b, 0, none⟩), .agg #[.int .u8 R.a0, .int .u8 R.a1, .int .u8 R.a2, .int .u8 R.a3, .int .u8 R.a4, .int .u8 R.a5, .int .u8 R.sure, .func (.func (doesF R.d)) #[] #[]], .int .u8 (l % 32)] W fun e w' => e = .returned (.tuple #[]) ∧ Cp w' b (s1.finish R (l % 32)) ∧ Fr b W w') := fun W hW hB => finish_any R (l % 32) b s1 W hW o1 hB a1 hRs hRd ⟨hl0, hl1⟩
      clear ho hp
      go_enter Tryz.func18, Tryz.ntmps18
      go_wp2_with (first
      | (go_at_call 25; refine (HA.out _ (by exact h)).mono ?_; rintro e w1 ⟨rfl, h1, F1⟩)
      | (go_at_call 26; refine (row_any b s1 _ (by exact h1) o1).mono ?_; rw [HR.out]; rintro e w2 ⟨rfl, hu2⟩
         have HN2 : Hid (∀ o, (w2.alloc o).heap[w2.heap.size]? = some o) := heap_alloc_new w2
         have HX2 : Hid _ := rowNew w2 R
         have h2 := h1.up hu2
         have F2 : Fr b w w2 := F1.trans (Fr.ofUp hu2)
         clear hu2 h1 F1)
      | (refine wpList_store_rowTo rfl 75 _ _ rfl rfl w2.heap.size R.cells rfl rfl 75 _ (HN2.out _) (by kernel_rfl) rfl (cells_one R) ?_
         generalize hW3 : World.setRow _ _ _ = W3
         obtain ⟨hg3, hu3⟩ := HX2.out W3 _ hW3
         have h3 := h2.up hu3
         have F3 : Fr b w W3 := F2.trans (Fr.ofUp hu3)
         have hlt3 : w2.heap.size < W3.heap.size := (Array.getElem?_eq_some_iff.1 hg3).1
         have hgb3 : w2.heap.size ≠ b := by have := h2.lt; omega
         obtain ⟨q0, q1, q2, q3, q4, q5, q6, q7⟩ := rowBlock R hg3
         have HG3 : Hid _ := hg3
         clear hW3 hu3 h2 F2 HX2 hg3)
      | (go_at_call 27; refine (over_any R b s1 _ (by exact h3) o1 hRs).mono ?_; rw [hof]; rintro e w4 ⟨rfl, hu4⟩
         have h4 := h3.up hu4
         have F4 : Fr b w w4 := F3.trans (Fr.ofUp hu4)
         obtain ⟨p0, p1, p2, p3, p4, p5, p6, p7⟩ := rowBlock R ((hu4.block _ hlt3).trans HG3.out)
         have L4 : Lb b w4 := hL.fr F4
         have c21 : w4.cell? ⟨b, 21, none⟩ = some (.int .u8 s1.asked) := h4.cell 21
         have c14 : w4.cell? ⟨b, 14, none⟩ = some (.int .u8 s1.phase) := h4.cell 14
         clear hu4 h3 F3 q0 q1 q2 q3 q4 q5 q6 q7)
      | (go_at_call 28; refine (HFi.out _ (by exact h4) (by exact L4)).mono ?_; rintro e w5 ⟨rfl, h5, F5⟩))
      go_ret
      exact ⟨rfl, h5, F4.trans F5⟩
/-- Tick -/
theorem tick_any (d l : Int) (b : Nat) (s : St) (w : World) (h : Cp w b s) (v : s.Inv) (hL : Lb b w) (hl : -9223372036854775808 ≤ l ∧ l ≤ 9223372036854775807) :
    Calls Tryz.prog 18 #[.pointer (some ⟨b, 0, none⟩), .int .i64 d, .int .i64 l] w fun e w' => e = .returned (.int .i64 (s.tick d l).2) ∧ Cp w' b (s.tick d l).1 ∧ Fr b w w' := by
  unfold St.tick
  by_cases hs : s.state = 0
  · rw [if_neg (by simp [hs])]
    exact tick_run d l b s _ w h v hL hs (and31 l hl.1 hl.2) rfl
  · rw [if_pos hs]
    exact tick_rest d l b s w h v.ok hs (and31 l hl.1 hl.2)
end Go.Proofs.YtdkibohpdkdooaaGreatDoor
