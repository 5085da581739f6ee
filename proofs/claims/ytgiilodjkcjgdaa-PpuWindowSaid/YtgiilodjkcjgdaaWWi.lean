/- PpuWindow: the walk. -/
import Derived.Test.YtgiilodjkcjgdaaPwD
import Derived.Test.YtgiilodjkcjgdaaWCo
namespace Go.Proofs.Ytgiilodjkcjgdaa
open Go.RowKit
set_option linter.unusedVariables false
variable {b : Nat} {p : Pic}
def winR (y x a c : Int) (i : Nat) : Int := if i = 11 then c else if i = 10 then a else if i = 0 then 177 else plainR y x i
theorem winR_i64 (y x a c : Int) (ha : 0 ≤ a ∧ a < 170) (hc : 7 ≤ c ∧ c < 167) (i : Nat) : I64 (winR y x a c i) := by
  unfold winR
  split
  · unfold I64; omega
  · split
    · unfold I64; omega
    · split
      · unfold I64; decide
      · exact plainR_i64 y x i
theorem win_num (V : Nat → Int) (y x a c : Int) (m r k : Nat) : (scPic V (winR y x a c)).num m r k = (scPic V (plainR 0 0)).num m r k := by
  have e16 : (scPic V (winR y x a c)).has 16 = (scPic V (plainR 0 0)).has 16 := by
    have e0 : (scPic V (winR y x a c)).rg 0 = 177 := by show regsTo (winR y x a c) 0 0 = 177; unfold regsTo; rw [if_pos (by decide)]; show regN 177 0 = 177; decide
    have e1 : (scPic V (plainR 0 0)).rg 0 = 145 := plain_rg0 0 0
    unfold Pic.has
    rw [e0, e1]
    decide
  unfold Pic.num Pic.lo Pic.hi Pic.tileN Pic.tileAt
  rw [e16]
  rfl
theorem win_point (V : Nat → Int) (y x : Int) (a c : Nat) (ha : a < 170) (hc0 : 7 ≤ c) (hc : c < 167) (l k : Nat) : pointWS V (winR y x (a : Int) (c : Int)) l k = if a ≤ l ∧ c ≤ k + 7 then colourI 228 (ringV V (l - a) ((k + 7 - c) % 256)) else pointS V (plainR y x) l k := by
  unfold pointWS Pic.pointW
  have e0 : (scPic V (winR y x (a : Int) (c : Int))).rg 0 = 177 := by show regsTo (winR y x (a : Int) (c : Int)) 0 0 = 177; unfold regsTo; rw [if_pos (by decide)]; show regN 177 0 = 177; decide
  have e7 : (scPic V (winR y x (a : Int) (c : Int))).rg 7 = 228 := by show regN 228 7 = 228; decide
  have e2 : (scPic V (winR y x (a : Int) (c : Int))).rg 2 = pickI y 256 := by
    show pickI (pickI y 256) 256 = _
    exact pickI_small (pickI_lo _ _ (by decide)) (pickI_hi _ _ (by decide))
  have e3 : (scPic V (winR y x (a : Int) (c : Int))).rg 3 = pickI x 256 := by
    show pickI (pickI x 256) 256 = _
    exact pickI_small (pickI_lo _ _ (by decide)) (pickI_hi _ _ (by decide))
  have e10 : (scPic V (winR y x (a : Int) (c : Int))).rg 10 = (a : Int) := by
    show pickI (a : Int) 256 = _
    exact pickI_small (by omega) (by omega)
  have e11 : (scPic V (winR y x (a : Int) (c : Int))).rg 11 = (c : Int) := by
    show pickI (c : Int) 256 = _
    exact pickI_small (by omega) (by omega)
  have h1 : (scPic V (winR y x (a : Int) (c : Int))).has 1 = true := by unfold Pic.has; rw [e0]; decide
  have h8 : (scPic V (winR y x (a : Int) (c : Int))).mapBy 8 = 6144 := by unfold Pic.mapBy Pic.has; rw [e0]; decide
  have h64 : (scPic V (winR y x (a : Int) (c : Int))).mapBy 64 = 6144 := by unfold Pic.mapBy Pic.has; rw [e0]; decide
  have ey : (scPic V (winR y x (a : Int) (c : Int))).wyN = a := by unfold Pic.wyN; rw [e10]; rfl
  have eo : (scPic V (winR y x (a : Int) (c : Int))).winO = c - 7 := by unfold Pic.winO; rw [e11]; omega
  rw [e7, e2, e3, h1, h8, h64, ey, eo, if_pos rfl, win_num, win_num, plain_point]
  by_cases h : a ≤ l ∧ c ≤ k + 7
  · rw [if_pos h, if_pos ⟨h.1, by omega⟩, show k - (c - 7) = k + 7 - c by omega]
    rfl
  · rw [if_neg h, if_neg (by omega)]
    rfl
theorem own_point (V : Nat → Int) (l k : Nat) (hl : l < 256) : pointS V (plainR 0 0) l k = colourI 228 (ringV V l (k % 256)) := by
  rw [plain_point]
  have e : pickI 0 256 = 0 := by decide
  rw [e]
  congr 2
  · omega
  · simp
set_option maxRecDepth 100000 in
set_option maxHeartbeats 4000000 in
theorem window_walk {W : World} {sr so : Value} {pa : Option Addr} {pb po pl pc : Nat} {P : Nat → Pce} {wy wx y x : Int} (D : Pcs W pa pb po pl pc P) (hwy : I64 wy) (hwx : I64 wx) (hy : I64 y) (hx : I64 x) :
    Calls Try.prog 10 #[.agg #[sr, so, .slice pa pl pc], .int .i64 wy, .int .i64 wx, .int .i64 y, .int .i64 x] W fun e w' => e = .returned (.bool true) ∧ Up W w' := by
  have HD : Hid (∀ w', Up W w' → Pcs w' pa pb po pl pc P) := fun w' u => D.up u
  have HPy : Hid (∀ W, Calls Try.prog 17 #[.int .i64 wy, .int .i64 170] W fun e w' => e = .returned (.int .i64 (pickI wy 170)) ∧ w' = W) := fun W => pick_any wy 170 W hwy (by decide) (by decide)
  have HPx : Hid (∀ W, Calls Try.prog 17 #[.int .i64 wx, .int .i64 160] W fun e w' => e = .returned (.int .i64 (pickI wx 160)) ∧ w' = W) := fun W => pick_any wx 160 W hwx (by decide) (by decide)
  have a0 := pickI_lo wy 170 (by decide)
  have a1 := pickI_hi wy 170 (by decide)
  have c0 := pickI_lo wx 160 (by decide)
  have c1 := pickI_hi wx 160 (by decide)
  have HPl : Hid (∀ W sr so, Calls Try.prog 27 #[.agg #[sr, so, .slice pa pl pc], .int .i64 y, .int .i64 x] W fun e w' => ∃ g, e = .returned (.agg #[.slice (some ⟨g, 0, none⟩) 12 12, .slice none 0 0, .slice pa pl pc]) ∧ W.heap.size ≤ g ∧ RgAt w' g (plainR y x) ∧ Up W w') := fun W sr so => plain_any W sr so hy hx
  have HPt : Hid (∀ W sr so, Calls Try.prog 27 #[.agg #[sr, so, .slice pa pl pc], .int .i64 0, .int .i64 0] W fun e w' => ∃ g, e = .returned (.agg #[.slice (some ⟨g, 0, none⟩) 12 12, .slice none 0 0, .slice pa pl pc]) ∧ W.heap.size ≤ g ∧ RgAt w' g (plainR 0 0) ∧ Up W w') := fun W sr so => plain_any W sr so (by unfold I64; decide) (by unfold I64; decide)
  have HSh : Hid (∀ y x w g, Up W w → RgAt w g (plainR y x) → Calls Try.prog 24 #[.agg #[.slice (some ⟨g, 0, none⟩) 12 12, .slice none 0 0, .slice pa pl pc]] w fun e w' => ∃ q, e = .returned (.tuple #[.slice (some ⟨q, 0, none⟩) 23040 23040, .bool true]) ∧ w.heap.size ≤ q ∧ NmAt w' q 23040 (fun i => pointS (putP P pl) (plainR y x) (i / 160) (i % 160)) ∧ Up w w') := fun y x w g u r => shot_any (plainR_i64 y x) (fun w' u' i hi => (r.up u').cell i hi) (fun w' u' => HD.out w' (u.trans u')) (plain_32 y x) (plain_2 y x)
  generalize pickI wy 170 = A at *
  generalize pickI wx 160 = C at *
  obtain ⟨a, rfl⟩ := Int.eq_ofNat_of_zero_le a0
  obtain ⟨c', rfl⟩ := Int.eq_ofNat_of_zero_le c0
  have HShW : Hid (∀ w g, Up W w → RgAt w g (winR y x (a : Int) (7 + (c' : Int))) → Calls Try.prog 24 #[.agg #[.slice (some ⟨g, 0, none⟩) 12 12, .slice none 0 0, .slice pa pl pc]] w fun e w' => ∃ q, e = .returned (.tuple #[.slice (some ⟨q, 0, none⟩) 23040 23040, .bool true]) ∧ w.heap.size ≤ q ∧ NmAt w' q 23040 (fun i => pointWS (putP P pl) (winR y x (a : Int) (7 + (c' : Int))) (i / 160) (i % 160)) ∧ Up w w') := fun w g u r => shotW_any (winR_i64 y x _ _ ⟨a0, by omega⟩ ⟨by omega, by omega⟩) (fun w' u' i hi => (r.up u').cell i hi) (fun w' u' => HD.out w' (u.trans u')) (by show (bits .and .u8 (regN 177 0) 32 != 0) = true; decide) (by show (bits .and .u8 (regN 177 0) 2 != 0) = false; decide) (by show 7 ≤ pickI (7 + (c' : Int)) 256; rw [pickI_small (by omega) (by omega)]; omega) (by show pickI (7 + (c' : Int)) 256 ≤ 166; rw [pickI_small (by omega) (by omega)]; omega)
  clear D hwy hwx hy hx a0 c0
  obtain ⟨sb, hsb⟩ : ∃ sb, sb = W.heap.size := ⟨_, rfl⟩
  have hs2 : (W.alloc (Obj.cells #[sr, so, .slice pa pl pc] 37)).heap[sb]? = some (.cells #[sr, so, .slice pa pl pc] 37 (0, 0)) := by rw [hsb]; exact heap_alloc_new W _
  have hs3 : sb < (W.alloc (Obj.cells #[sr, so, .slice pa pl pc] 37)).heap.size := by rw [hsb]; simp
  have U0 : Hid (Up W (W.alloc (Obj.cells #[sr, so, .slice pa pl pc] 37))) := (Up.refl W).alloc _
  have HSb : Hid (∀ w', Up (W.alloc (Obj.cells #[sr, so, .slice pa pl pc] 37)) w' → w'.rangeAt sb 0 [sr, so, .slice pa pl pc]) := fun w' u => by
    have hb := (u.block sb hs3).trans hs2
    exact range3 (by rw [cell_of_row _ _ _ _ _ _ hb]; rfl) (by rw [cell_of_row _ _ _ _ _ _ hb]; rfl) (by rw [cell_of_row _ _ _ _ _ _ hb]; rfl)
  clear hs2 hs3
  go_enter Try.func10, Try.ntmps10
  go_wp2_with fail
  rw [← hsb]
  clear hsb
  generalize World.alloc W _ = W1 at U0 HSb ⊢
  refine (HPl.out _ _ _).mono ?_
  rintro e w2 ⟨g, rfl, hg, r1, u1⟩
  have H2 : Hid (RgAt w2 g (plainR y x) ∧ Up W w2 ∧ W.heap.size ≤ g ∧ g < w2.heap.size ∧ Up W1 w2) := ⟨r1, U0.out.trans u1, Nat.le_trans U0.out.size hg, r1.lt, u1⟩
  clear r1 u1 hg HPl U0
  go_wp2_with fail
  have H3 : Hid (Cs W g w2.heap.size pa pl pc (plainR y x) (w2.alloc (Obj.cells #[.slice (some ⟨g, 0, none⟩) 12 12, .slice none 0 0, .slice pa pl pc] 37)) ∧ Up W1 (w2.alloc (Obj.cells #[.slice (some ⟨g, 0, none⟩) 12 12, .slice none 0 0, .slice pa pl pc] 37))) := ⟨⟨H2.out.1.up ((Up.refl _).alloc _), heap_alloc_new _ _, H2.out.2.1.alloc _, H2.out.2.2.1, by have := H2.out.2.2.2.1; omega⟩, H2.out.2.2.2.2.alloc _⟩
  generalize World.alloc w2 _ = w3 at H3 ⊢
  generalize w2.heap.size = pk at H3 ⊢
  clear H2
  refine (HSh.out _ _ _ _ H3.out.1.up H3.out.1.rg).mono ?_
  rintro e w4 ⟨q0, rfl, hq0, n0, u4⟩
  have H4 : Hid (Cs W g pk pa pl pc (plainR y x) w4 ∧ NmAt w4 q0 23040 (fun i => pointS (putP P pl) (plainR y x) (i / 160) (i % 160)) ∧ q0 ≠ g ∧ Up W1 w4) := ⟨H3.out.1.more u4, n0, by have := H3.out.1.rg.lt; omega, H3.out.2.trans u4⟩
  have HRS : Hid _ := HSb.out _ H4.out.2.2.2
  clear n0 u4 hq0 H3 HSb
  go_wp2_with (refine wpList_load_mid rfl 37 _ rfl sb 0 rfl [sr, so, .slice pa pl pc] _ HRS.out Try.underlying37 rfl (by kernel_rfl) ?_)
  refine (HPt.out _ _ _).mono ?_
  rintro e w5 ⟨g2, rfl, hg2, r2, u5⟩
  have H5 : Hid (Cs W g pk pa pl pc (plainR y x) w5 ∧ NmAt w5 q0 23040 (fun i => pointS (putP P pl) (plainR y x) (i / 160) (i % 160)) ∧ q0 ≠ g ∧ RgAt w5 g2 (plainR 0 0)) := ⟨H4.out.1.more u5, H4.out.2.1.of_block (u5.block _ H4.out.2.1.lt), H4.out.2.2.1, r2⟩
  clear r2 u5 hg2 HPt H4 HRS
  go_wp2_with fail
  have H6 : Hid (Cs W g pk pa pl pc (plainR y x) (w5.alloc (Obj.cells #[.slice (some ⟨g2, 0, none⟩) 12 12, .slice none 0 0, .slice pa pl pc] 37)) ∧ NmAt (w5.alloc (Obj.cells #[.slice (some ⟨g2, 0, none⟩) 12 12, .slice none 0 0, .slice pa pl pc] 37)) q0 23040 (fun i => pointS (putP P pl) (plainR y x) (i / 160) (i % 160)) ∧ q0 ≠ g ∧ RgAt (w5.alloc (Obj.cells #[.slice (some ⟨g2, 0, none⟩) 12 12, .slice none 0 0, .slice pa pl pc] 37)) g2 (plainR 0 0)) := ⟨H5.out.1.more ((Up.refl _).alloc _), H5.out.2.1.of_block (((Up.refl _).alloc _).block _ H5.out.2.1.lt), H5.out.2.2.1, H5.out.2.2.2.up ((Up.refl _).alloc _)⟩
  generalize World.alloc w5 _ = w6 at H6 ⊢
  clear H5
  refine (HSh.out _ _ _ _ H6.out.1.up H6.out.2.2.2).mono ?_
  rintro e w7 ⟨q1, rfl, hq1, n1, u7⟩
  have H7 : Hid (Cs W g pk pa pl pc (plainR y x) w7 ∧ NmAt w7 q0 23040 (fun i => pointS (putP P pl) (plainR y x) (i / 160) (i % 160)) ∧ q0 ≠ g ∧ NmAt w7 q1 23040 (fun i => pointS (putP P pl) (plainR 0 0) (i / 160) (i % 160)) ∧ q1 ≠ g) := ⟨H6.out.1.more u7, H6.out.2.1.of_block (u7.block _ H6.out.2.1.lt), H6.out.2.2.1, n1, by have := H6.out.1.rg.lt; omega⟩
  clear n1 u7 hq1 H6 HSh
  go_wp2_with fail
  refine (HPy.out _).mono ?_
  rintro e w' ⟨rfl, hw'⟩
  obtain rfl := hw'.symm
  go_wp2_with fail
  refine (HPx.out _).mono ?_
  rintro e w' ⟨rfl, hw'⟩
  obtain rfl := hw'.symm
  clear HPy HPx
  have kp := H7.out.1.cell0
  have k0 : w7.cell? ⟨g, 0, none⟩ = some _ := H7.out.1.rg.cell 0 (by decide)
  have f0 := H7.out.1.rg.fz 0
  have E1 := H7.out.1.set 0 (by decide) 177
  have kp1 := E1.cell0
  have k1 : (w7.setCell ⟨g, 0, none⟩ (.int .i64 177)).cell? ⟨g, 10, none⟩ = some _ := E1.rg.cell 10 (by decide)
  have f1 := E1.rg.fz 10
  have E2 := E1.set 10 (by decide) (a : Int)
  have kp2 := E2.cell0
  have k2 : ((w7.setCell ⟨g, 0, none⟩ (.int .i64 177)).setCell ⟨g, 10, none⟩ (.int .i64 (a : Int))).cell? ⟨g, 11, none⟩ = some _ := E2.rg.cell 11 (by decide)
  have f2 := E2.rg.fz 11
  have E3 := E2.set 11 (by decide) (7 + (c' : Int))
  have H8 : Hid (Cs W g pk pa pl pc (winR y x (a : Int) (7 + (c' : Int))) (((w7.setCell ⟨g, 0, none⟩ (.int .i64 177)).setCell ⟨g, 10, none⟩ (.int .i64 (a : Int))).setCell ⟨g, 11, none⟩ (.int .i64 (7 + (c' : Int)))) ∧ NmAt (((w7.setCell ⟨g, 0, none⟩ (.int .i64 177)).setCell ⟨g, 10, none⟩ (.int .i64 (a : Int))).setCell ⟨g, 11, none⟩ (.int .i64 (7 + (c' : Int)))) q0 23040 (fun i => pointS (putP P pl) (plainR y x) (i / 160) (i % 160)) ∧ NmAt (((w7.setCell ⟨g, 0, none⟩ (.int .i64 177)).setCell ⟨g, 10, none⟩ (.int .i64 (a : Int))).setCell ⟨g, 11, none⟩ (.int .i64 (7 + (c' : Int)))) q1 23040 (fun i => pointS (putP P pl) (plainR 0 0) (i / 160) (i % 160))) := ⟨E3, ((H7.out.2.1.of_block (Below.heap_setCell _ _ _ _ H7.out.2.2.1)).of_block (Below.heap_setCell _ _ _ _ H7.out.2.2.1)).of_block (Below.heap_setCell _ _ _ _ H7.out.2.2.1), ((H7.out.2.2.2.1.of_block (Below.heap_setCell _ _ _ _ H7.out.2.2.2.2)).of_block (Below.heap_setCell _ _ _ _ H7.out.2.2.2.2)).of_block (Below.heap_setCell _ _ _ _ H7.out.2.2.2.2)⟩
  have HRR : Hid _ := E3.range
  clear E1 E2 E3 H7
  go_wp2_with (refine wpList_load_mid rfl 37 _ rfl pk 0 rfl [.slice (some ⟨g, 0, none⟩) 12 12, .slice none 0 0, .slice pa pl pc] _ HRR.out Try.underlying37 rfl (by kernel_rfl) ?_)
  clear kp k0 f0 kp1 k1 f1 kp2 k2 f2 HRR
  generalize World.setCell (World.setCell (World.setCell w7 _ _) _ _) _ _ = w8 at H8 ⊢
  refine (HShW.out _ _ H8.out.1.up H8.out.1.rg).mono ?_
  rintro e w9 ⟨q2, rfl, hq2, n2, u9⟩
  have HUp : Hid (∀ n, Up W (w9.drewN n)) := fun n => (H8.out.1.more u9).up.trans (Up.drewN _ n)
  have HF : Hid (∀ y1 x1 : Nat, y1 < 144 → x1 < 160 → ∃ u v : Int, w9.cell? ⟨q0, y1 * 160 + x1, none⟩ = some (.int .u8 u) ∧ w9.cell? ⟨q2, y1 * 160 + x1, none⟩ = some (.int .u8 v) ∧ (a ≤ y1 ∧ c' ≤ x1 → w9.cell? ⟨q1, (y1 - a) * 160 + (x1 - c'), none⟩ = some (.int .u8 v)) ∧ (¬ (a ≤ y1 ∧ c' ≤ x1) → u = v)) := fun y1 x1 hy1 hx1 => by
    have s0 := (H8.out.2.1.of_block (u9.block _ H8.out.2.1.lt)).cell (y1 * 160 + x1) (by omega)
    have s2 := n2.cell (y1 * 160 + x1) (by omega)
    have e3 : (y1 * 160 + x1) / 160 = y1 := by omega
    have e4 : (y1 * 160 + x1) % 160 = x1 := by omega
    have ec : (7 + (c' : Int)) = ((7 + c' : Nat) : Int) := by omega
    rw [e3, e4] at s0 s2
    rw [ec, win_point _ _ _ a (7 + c') (by omega) (by omega) (by omega)] at s2
    refine ⟨_, _, s0, s2, fun hw => ?_, fun hw => ?_⟩
    · have s1 := (H8.out.2.2.of_block (u9.block _ H8.out.2.2.lt)).cell ((y1 - a) * 160 + (x1 - c')) (by omega)
      have e5 : ((y1 - a) * 160 + (x1 - c')) / 160 = y1 - a := by omega
      have e6 : ((y1 - a) * 160 + (x1 - c')) % 160 = x1 - c' := by omega
      rw [e5, e6, own_point _ _ _ (by omega)] at s1
      rw [if_pos (by omega), show x1 + 7 - (7 + c') = x1 - c' by omega]
      exact s1
    · rw [if_neg (by omega)]
  clear n2 u9 hq2 H8 HShW HD
  go_wp2_with fail
  go_loopw [21] (fun I wr => ∃ (y1 n : Nat), y1 ≤ 144 ∧ I = .int .i64 y1 ∧ wr = w9.drewN n) (fun I _ => 144 - (intOf I).toNat)
  case atStart => exact ⟨0, 0, by omega, rfl, rfl⟩
  case round =>
    obtain ⟨y1, n, hy, rfl, rfl⟩ := hrel
    by_cases hly : y1 < 144
    · have d1 : decide ((y1 : Int) < 144) = true := decide_eq_true (by omega)
      have e1 : (y1 : Int) < 144 := by omega
      go_wp2_with fail
      go_loopw [22] (fun I wr => ∃ (x1 m : Nat), x1 ≤ 160 ∧ I = .int .i64 x1 ∧ wr = w9.drewN m) (fun I _ => 160 - (intOf I).toNat)
      case atStart => exact ⟨0, n, by omega, rfl, rfl⟩
      case round =>
        obtain ⟨x1, m, hx, rfl, rfl⟩ := hrel
        by_cases hlx : x1 < 160
        · have d2 : decide ((x1 : Int) < 160) = true := decide_eq_true (by omega)
          have e2 : (x1 : Int) < 160 := by omega
          obtain ⟨u, v, s0, s2, s1, su⟩ := HF.out y1 x1 hly hlx
          have i1 : ((y1 : Int) * 160 + (x1 : Int)).toNat = y1 * 160 + x1 := by omega
          by_cases hw : a ≤ y1 ∧ c' ≤ x1
          · have s3 := s1 hw
            have i2 : (((y1 : Int) - (a : Int)) * 160 + (x1 : Int) + 7 - (7 + (c' : Int))).toNat = (y1 - a) * 160 + (x1 - c') := by omega
            have w1 : (a : Int) ≤ (y1 : Int) := by omega
            have w2 : (7 + (c' : Int)) ≤ (x1 : Int) + 7 := by omega
            have w3 : decide ((a : Int) ≤ (y1 : Int)) = true := decide_eq_true w1
            have w4 : decide ((7 + (c' : Int)) ≤ (x1 : Int) + 7) = true := decide_eq_true w2
            clear su s1 hw
            go_wp2_with fail
            refine ⟨⟨x1 + 1, m, by omega, ?_, rfl⟩, ?_⟩
            · first | rfl | (simp; done)
            · simp [intOf]
              omega
          · have hv := su hw
            subst hv
            clear su s1
            by_cases ha : a ≤ y1
            · have w1 : (a : Int) ≤ (y1 : Int) := by omega
              have w2 : ¬ (7 + (c' : Int)) ≤ (x1 : Int) + 7 := by omega
              have w3 : decide ((a : Int) ≤ (y1 : Int)) = true := decide_eq_true w1
              have w4 : decide ((7 + (c' : Int)) ≤ (x1 : Int) + 7) = false := decide_eq_false w2
              clear hw ha
              go_wp2_with fail
              refine ⟨⟨x1 + 1, m, by omega, ?_, rfl⟩, ?_⟩
              · first | rfl | (simp; done)
              · simp [intOf]
                omega
            · have w1 : ¬ (a : Int) ≤ (y1 : Int) := by omega
              have w3 : decide ((a : Int) ≤ (y1 : Int)) = false := decide_eq_false w1
              clear hw ha
              go_wp2_with fail
              refine ⟨⟨x1 + 1, m, by omega, ?_, rfl⟩, ?_⟩
              · first | rfl | (simp; done)
              · simp [intOf]
                omega
        · have d2 : decide ((x1 : Int) < 160) = false := decide_eq_false (by omega)
          go_wp2_with fail
          refine ⟨⟨y1 + 1, m, by omega, ?_, rfl⟩, ?_⟩
          · first | rfl | (simp; done)
          · simp [intOf]
            omega
    · have d1 : decide ((y1 : Int) < 144) = false := decide_eq_false (by omega)
      go_wp2_with fail
      go_ret
      exact ⟨rfl, HUp.out _⟩
end Go.Proofs.Ytgiilodjkcjgdaa
