/- PpuColours: the walk. -/
import Derived.Test.YtgiilodjkcjgdaaWSc2
namespace Go.Proofs.Ytgiilodjkcjgdaa
open Go.RowKit
set_option linter.unusedVariables false
variable {b : Nat} {p : Pic}
def colR1 (c : Int) (i : Nat) : Int := if i = 7 then c else plainR 3 5 i
def colR2 (c : Int) (i : Nat) : Int := if i = 0 then 144 else colR1 c i
/-- the number of a point of the plain scene -/
def numV (V : Nat → Int) (l k : Nat) : Int := ringV V (((l : Int) + 3) % 256).toNat ((5 + k) % 256)
theorem col_point0 (V : Nat → Int) (l k : Nat) : pointS V (plainR 3 5) l k = colourI 228 (numV V l k) := by
  rw [plain_point]
  rfl
theorem colR_num (V : Nat → Int) (c : Int) (m r k : Nat) : (scPic V (colR1 c)).num m r k = (scPic V (plainR 0 0)).num m r k := by
  unfold Pic.num Pic.lo Pic.hi Pic.tileN Pic.tileAt Pic.has
  have e : (scPic V (colR1 c)).rg 0 = (scPic V (plainR 0 0)).rg 0 := (show regsTo (colR1 c) 0 0 = 145 by unfold regsTo; rw [if_pos (by decide)]; show regN 145 0 = 145; decide).trans (plain_rg0 0 0).symm
  rw [e]
  rfl
theorem col_point1 (V : Nat → Int) (c : Int) (c0 : 0 ≤ c) (c1 : c < 256) (l k : Nat) : pointS V (colR1 c) l k = colourI c (numV V l k) := by
  unfold pointS Pic.pointG
  have e7 : (scPic V (colR1 c)).rg 7 = c := by show regN c 7 = c; unfold regN; rw [if_neg (by decide)]; exact pickI_small c0 c1
  have e2 : (scPic V (colR1 c)).rg 2 = 3 := by show regN 3 2 = 3; decide
  have e3 : (scPic V (colR1 c)).rg 3 = 5 := by show regN 5 3 = 5; decide
  have e0 : (scPic V (colR1 c)).rg 0 = 145 := by show regsTo (colR1 c) 0 0 = 145; unfold regsTo; rw [if_pos (by decide)]; show regN 145 0 = 145; decide
  have h1 : (scPic V (colR1 c)).has 1 = true := by unfold Pic.has; rw [e0]; decide
  have h8 : (scPic V (colR1 c)).mapBy 8 = 6144 := by unfold Pic.mapBy Pic.has; rw [e0]; decide
  rw [e7, e2, e3, h1, h8, if_pos rfl, colR_num]
  rfl
theorem col_point2 (V : Nat → Int) (c : Int) (c0 : 0 ≤ c) (c1 : c < 256) (l k : Nat) : pointS V (colR2 c) l k = colourI c 0 := by
  unfold pointS Pic.pointG
  have e7 : (scPic V (colR2 c)).rg 7 = c := by show regN c 7 = c; unfold regN; rw [if_neg (by decide)]; exact pickI_small c0 c1
  have e0 : (scPic V (colR2 c)).rg 0 = 144 := by show regsTo (colR2 c) 0 0 = 144; unfold regsTo; rw [if_pos (by decide)]; show regN 144 0 = 144; decide
  have h1 : (scPic V (colR2 c)).has 1 = false := by unfold Pic.has; rw [e0]; decide
  rw [e7, h1, if_neg (by decide)]
theorem numV_b (V : Nat → Int) (hV : ∀ k, 0 ≤ V k ∧ V k ≤ 255) (l k : Nat) : 0 ≤ numV V l k ∧ numV V l k ≤ 3 := by
  unfold numV ringV Pic.num Pic.lo Pic.hi
  exact numberI_b _ _ _ (hV _).1 (hV _).2 (hV _).1 (hV _).2
theorem colour228 (n : Int) (h0 : 0 ≤ n) (h1 : n ≤ 3) : colourI 228 n = n := by
  have : n = 0 ∨ n = 1 ∨ n = 2 ∨ n = 3 := by omega
  rcases this with rfl | rfl | rfl | rfl <;> decide
theorem colR1_i64 (c : Int) (c0 : 0 ≤ c) (c1 : c < 256) (i : Nat) : I64 (colR1 c i) := by
  unfold colR1
  split
  · unfold I64; omega
  · exact plainR_i64 3 5 i
theorem colR2_i64 (c : Int) (c0 : 0 ≤ c) (c1 : c < 256) (i : Nat) : I64 (colR2 c i) := by
  unfold colR2
  split
  · unfold I64; omega
  · exact colR1_i64 c c0 c1 i
theorem putB_b {V : Nat → Int} (P : Pce) (hV : ∀ k, 0 ≤ V k ∧ V k ≤ 255) (hP : ∀ k, 0 ≤ P.f k ∧ P.f k ≤ 255) : ∀ n k, 0 ≤ putB V P n k ∧ putB V P n k ≤ 255 := by
  intro n
  induction n with
  | zero => exact hV
  | succ n ih =>
    intro k
    show 0 ≤ (if 32768 + (k : Int) = spotI P.at' n then P.f n else putB V P n k) ∧ (if 32768 + (k : Int) = spotI P.at' n then P.f n else putB V P n k) ≤ 255
    split
    · exact hP n
    · exact ih k
theorem putP_b (P : Nat → Pce) : ∀ n, (∀ i, i < n → ∀ k, 0 ≤ (P i).f k ∧ (P i).f k ≤ 255) → ∀ k, 0 ≤ putP P n k ∧ putP P n k ≤ 255 := by
  intro n
  induction n with
  | zero => intro _ k; exact (show (0 : Int) ≤ 0 ∧ (0 : Int) ≤ 255 by decide)
  | succ n ih =>
    intro h k
    exact putB_b (P n) (ih (fun i hi => h i (by omega))) (h n (by omega)) _ k
/-- the same point by three palettes -/
theorem col_shift (c n : Int) (c0 : 0 ≤ c) (c1 : c < 256) (n0 : 0 ≤ n) (n1 : n ≤ 3) : colourI c n = bits .and .i64 (c / 2 ^ (2 * n).toNat) 3 := by
  have key : ∀ x : Int, 0 ≤ x → x ≤ 255 → bits .and .u8 x 3 = bits .and .i64 x 3 := byteAll (by decide +kernel)
  unfold colourI
  have p1 : (0 : Int) < 2 ^ (2 * n).toNat := Int.pow_pos (by decide)
  have d0 := Int.ediv_nonneg c0 (Int.le_of_lt p1)
  have d1 := Int.ediv_le_self (2 ^ (2 * n).toNat) c0
  exact key _ d0 (by omega)
theorem colourI_b (c n : Int) (c0 : 0 ≤ c) (c1 : c < 256) : 0 ≤ colourI c n ∧ colourI c n ≤ 3 := by
  have key : ∀ x : Int, 0 ≤ x → x ≤ 255 → 0 ≤ bits .and .u8 x 3 ∧ bits .and .u8 x 3 ≤ 3 := byteAll (by decide +kernel)
  unfold colourI
  have p1 : (0 : Int) < 2 ^ (2 * n).toNat := Int.pow_pos (by decide)
  have d0 := Int.ediv_nonneg c0 (Int.le_of_lt p1)
  have d1 := Int.ediv_le_self (2 ^ (2 * n).toNat) c0
  exact key _ d0 (by omega)
/-- a scene's block and its registers -/
structure Cs (W : World) (g pk : Nat) (pa : Option Addr) (pl pc : Nat) (R : Nat → Int) (w : World) : Prop where
  rg : RgAt w g R
  blk : w.heap[pk]? = some (.cells #[.slice (some ⟨g, 0, none⟩) 12 12, .slice none 0 0, .slice pa pl pc] 37 (0, 0))
  up : Up W w
  ge : W.heap.size ≤ g
  ne : pk ≠ g
theorem Cs.more {W w w' : World} {g pk : Nat} {pa : Option Addr} {pl pc : Nat} {R : Nat → Int} (h : Cs W g pk pa pl pc R w) (u : Up w w') : Cs W g pk pa pl pc R w' :=
  ⟨h.rg.up u, (u.block _ (Array.getElem?_eq_some_iff.1 h.blk).1).trans h.blk, h.up.trans u, h.ge, h.ne⟩
theorem Cs.cell0 {W w : World} {g pk : Nat} {pa : Option Addr} {pl pc : Nat} {R : Nat → Int} (h : Cs W g pk pa pl pc R w) : w.cell? ⟨pk, 0, none⟩ = some (.slice (some ⟨g, 0, none⟩) 12 12) := by
  rw [cell_of_row _ _ _ _ _ _ h.blk]
  rfl
theorem Cs.range {W w : World} {g pk : Nat} {pa : Option Addr} {pl pc : Nat} {R : Nat → Int} (h : Cs W g pk pa pl pc R w) : w.rangeAt pk 0 [.slice (some ⟨g, 0, none⟩) 12 12, .slice none 0 0, .slice pa pl pc] :=
  range3 (by rw [cell_of_row _ _ _ _ _ _ h.blk]; rfl) (by rw [cell_of_row _ _ _ _ _ _ h.blk]; rfl) (by rw [cell_of_row _ _ _ _ _ _ h.blk]; rfl)
theorem Cs.set {W w : World} {g pk : Nat} {pa : Option Addr} {pl pc : Nat} {R : Nat → Int} (h : Cs W g pk pa pl pc R w) (i : Nat) (hi : i < 12) (x : Int) : Cs W g pk pa pl pc (fun k => if k = i then x else R k) (w.setCell ⟨g, i, none⟩ (.int .i64 x)) :=
  ⟨h.rg.set i hi x, (Below.heap_setCell _ _ _ _ h.ne).trans h.blk, h.up.setCell h.ge _, h.ge, h.ne⟩
set_option maxRecDepth 100000 in
set_option maxHeartbeats 4000000 in
theorem colours_walk {W : World} {sr so : Value} {pa : Option Addr} {pb po pl pc : Nat} {P : Nat → Pce} {b0 : Int} (D : Pcs W pa pb po pl pc P) (hb : I64 b0) :
    Calls Try.prog 9 #[.agg #[sr, so, .slice pa pl pc], .int .i64 b0] W fun e w' => e = .returned (.bool true) ∧ Up W w' := by
  have HD : Hid (∀ w', Up W w' → Pcs w' pa pb po pl pc P) := fun w' u => D.up u
  have hV : ∀ k, 0 ≤ putP P pl k ∧ putP P pl k ≤ 255 := putP_b P pl (fun i hi => (D.by' i hi).u8)
  have HPb : Hid (∀ W, Calls Try.prog 17 #[.int .i64 b0, .int .i64 256] W fun e w' => e = .returned (.int .i64 (pickI b0 256)) ∧ w' = W) := fun W => pick_any b0 256 W hb (by decide) (by decide)
  have c0 := pickI_lo b0 256 (by decide)
  have c1 := pickI_hi b0 256 (by decide)
  have HPl : Hid (∀ W sr so, Calls Try.prog 27 #[.agg #[sr, so, .slice pa pl pc], .int .i64 3, .int .i64 5] W fun e w' => ∃ g, e = .returned (.agg #[.slice (some ⟨g, 0, none⟩) 12 12, .slice none 0 0, .slice pa pl pc]) ∧ W.heap.size ≤ g ∧ RgAt w' g (plainR 3 5) ∧ Up W w') := fun W sr so => plain_any W sr so (by unfold I64; decide) (by unfold I64; decide)
  have HSh0 : Hid (∀ w g, Up W w → RgAt w g (plainR 3 5) → Calls Try.prog 24 #[.agg #[.slice (some ⟨g, 0, none⟩) 12 12, .slice none 0 0, .slice pa pl pc]] w fun e w' => ∃ q, e = .returned (.tuple #[.slice (some ⟨q, 0, none⟩) 23040 23040, .bool true]) ∧ w.heap.size ≤ q ∧ NmAt w' q 23040 (fun i => pointS (putP P pl) (plainR 3 5) (i / 160) (i % 160)) ∧ Up w w') := fun w g u r => shot_any (plainR_i64 3 5) (fun w' u' i hi => (r.up u').cell i hi) (fun w' u' => HD.out w' (u.trans u')) (plain_32 3 5) (plain_2 3 5)
  generalize pickI b0 256 = c at *
  have HSh1 : Hid (∀ w g, Up W w → RgAt w g (colR1 c) → Calls Try.prog 24 #[.agg #[.slice (some ⟨g, 0, none⟩) 12 12, .slice none 0 0, .slice pa pl pc]] w fun e w' => ∃ q, e = .returned (.tuple #[.slice (some ⟨q, 0, none⟩) 23040 23040, .bool true]) ∧ w.heap.size ≤ q ∧ NmAt w' q 23040 (fun i => pointS (putP P pl) (colR1 c) (i / 160) (i % 160)) ∧ Up w w') := fun w g u r => shot_any (colR1_i64 c c0 c1) (fun w' u' i hi => (r.up u').cell i hi) (fun w' u' => HD.out w' (u.trans u')) (plain_32 3 5) (plain_2 3 5)
  have HSh2 : Hid (∀ w g, Up W w → RgAt w g (colR2 c) → Calls Try.prog 24 #[.agg #[.slice (some ⟨g, 0, none⟩) 12 12, .slice none 0 0, .slice pa pl pc]] w fun e w' => ∃ q, e = .returned (.tuple #[.slice (some ⟨q, 0, none⟩) 23040 23040, .bool true]) ∧ w.heap.size ≤ q ∧ NmAt w' q 23040 (fun i => pointS (putP P pl) (colR2 c) (i / 160) (i % 160)) ∧ Up w w') := fun w g u r => shot_any (colR2_i64 c c0 c1) (fun w' u' i hi => (r.up u').cell i hi) (fun w' u' => HD.out w' (u.trans u')) (by show (bits .and .u8 (regN 144 0) 32 != 0) = false; decide) (by show (bits .and .u8 (regN 144 0) 2 != 0) = false; decide)
  have HV : Hid (∀ l k, 0 ≤ numV (putP P pl) l k ∧ numV (putP P pl) l k ≤ 3) := fun l k => numV_b _ hV l k
  clear D hb hV
  go_enter Try.func9, Try.ntmps9
  go_wp2_with fail
  have U0 : Hid (Up W (W.alloc (Obj.cells #[sr, so, .slice pa pl pc] 37))) := (Up.refl W).alloc _
  generalize World.alloc W _ = W1 at U0 ⊢
  refine (HPl.out _ _ _).mono ?_
  rintro e w2 ⟨g, rfl, hg, r1, u1⟩
  have H2 : Hid (RgAt w2 g (plainR 3 5) ∧ Up W w2 ∧ W.heap.size ≤ g ∧ g < w2.heap.size) := ⟨r1, U0.out.trans u1, Nat.le_trans U0.out.size hg, r1.lt⟩
  clear r1 u1 hg HPl U0
  go_wp2_with fail
  have H3 : Hid (Cs W g w2.heap.size pa pl pc (plainR 3 5) (w2.alloc (Obj.cells #[.slice (some ⟨g, 0, none⟩) 12 12, .slice none 0 0, .slice pa pl pc] 37))) := ⟨H2.out.1.up ((Up.refl _).alloc _), heap_alloc_new _ _, H2.out.2.1.alloc _, H2.out.2.2.1, by have := H2.out.2.2.2; omega⟩
  generalize World.alloc w2 _ = w3 at H3 ⊢
  generalize w2.heap.size = pk at H3 ⊢
  clear H2
  refine (HSh0.out _ _ H3.out.up H3.out.rg).mono ?_
  rintro e w4 ⟨q0, rfl, hq0, n0, u4⟩
  have H4 : Hid (Cs W g pk pa pl pc (plainR 3 5) w4 ∧ NmAt w4 q0 23040 (fun i => pointS (putP P pl) (plainR 3 5) (i / 160) (i % 160)) ∧ q0 ≠ g) := ⟨H3.out.more u4, n0, by have := H3.out.rg.lt; omega⟩
  clear n0 u4 hq0 H3 HSh0
  go_wp2_with fail
  refine (HPb.out _).mono ?_
  rintro e w' ⟨rfl, hw'⟩
  obtain rfl := hw'.symm
  have kp := H4.out.1.cell0
  have k7 : w4.cell? ⟨g, 7, none⟩ = some _ := H4.out.1.rg.cell 7 (by decide)
  have f7 := H4.out.1.rg.fz 7
  have H5 : Hid (Cs W g pk pa pl pc (colR1 c) (w4.setCell ⟨g, 7, none⟩ (.int .i64 c)) ∧ NmAt (w4.setCell ⟨g, 7, none⟩ (.int .i64 c)) q0 23040 (fun i => pointS (putP P pl) (plainR 3 5) (i / 160) (i % 160)) ∧ q0 ≠ g) := ⟨H4.out.1.set 7 (by decide) c, H4.out.2.1.of_block (Below.heap_setCell _ _ _ _ H4.out.2.2), H4.out.2.2⟩
  have HRR : Hid _ := H5.out.1.range
  clear H4
  go_wp2_with (refine wpList_load_mid rfl 37 _ rfl pk 0 rfl [.slice (some ⟨g, 0, none⟩) 12 12, .slice none 0 0, .slice pa pl pc] _ HRR.out Try.underlying37 rfl (by kernel_rfl) ?_)
  clear kp k7 f7 HRR HPb
  generalize World.setCell w4 _ _ = w5 at H5 ⊢
  refine (HSh1.out _ _ H5.out.1.up H5.out.1.rg).mono ?_
  rintro e w6 ⟨q1, rfl, hq1, n1, u6⟩
  have H6 : Hid (Cs W g pk pa pl pc (colR1 c) w6 ∧ NmAt w6 q0 23040 (fun i => pointS (putP P pl) (plainR 3 5) (i / 160) (i % 160)) ∧ q0 ≠ g ∧ NmAt w6 q1 23040 (fun i => pointS (putP P pl) (colR1 c) (i / 160) (i % 160)) ∧ q1 ≠ g) := ⟨H5.out.1.more u6, H5.out.2.1.of_block (u6.block _ H5.out.2.1.lt), H5.out.2.2, n1, by have := H5.out.1.rg.lt; omega⟩
  clear n1 u6 hq1 H5 HSh1
  have kp := H6.out.1.cell0
  have k7 : w6.cell? ⟨g, 0, none⟩ = some _ := H6.out.1.rg.cell 0 (by decide)
  have f7 := H6.out.1.rg.fz 0
  have H7 : Hid (Cs W g pk pa pl pc (colR2 c) (w6.setCell ⟨g, 0, none⟩ (.int .i64 144)) ∧ NmAt (w6.setCell ⟨g, 0, none⟩ (.int .i64 144)) q0 23040 (fun i => pointS (putP P pl) (plainR 3 5) (i / 160) (i % 160)) ∧ NmAt (w6.setCell ⟨g, 0, none⟩ (.int .i64 144)) q1 23040 (fun i => pointS (putP P pl) (colR1 c) (i / 160) (i % 160))) := ⟨H6.out.1.set 0 (by decide) 144, H6.out.2.1.of_block (Below.heap_setCell _ _ _ _ H6.out.2.2.1), H6.out.2.2.2.1.of_block (Below.heap_setCell _ _ _ _ H6.out.2.2.2.2)⟩
  have HRR : Hid _ := H7.out.1.range
  clear H6
  go_wp2_with (refine wpList_load_mid rfl 37 _ rfl pk 0 rfl [.slice (some ⟨g, 0, none⟩) 12 12, .slice none 0 0, .slice pa pl pc] _ HRR.out Try.underlying37 rfl (by kernel_rfl) ?_)
  clear kp k7 f7 HRR
  generalize World.setCell w6 _ _ = w7 at H7 ⊢
  refine (HSh2.out _ _ H7.out.1.up H7.out.1.rg).mono ?_
  rintro e w8 ⟨q2, rfl, hq2, n2, u8⟩
  have HUp : Hid (∀ n, Up W (w8.drewN n)) := fun n => (H7.out.1.more u8).up.trans (Up.drewN _ n)
  have HF : Hid (∀ i, i < 23040 → ∃ m : Int, (0 ≤ m ∧ m ≤ 3) ∧ w8.cell? ⟨q0, i, none⟩ = some (.int .u8 m) ∧ w8.cell? ⟨q1, i, none⟩ = some (.int .u8 (colourI c m)) ∧ w8.cell? ⟨q2, i, none⟩ = some (.int .u8 (colourI c 0))) := fun i hi => by
    have b := HV.out (i / 160) (i % 160)
    refine ⟨numV (putP P pl) (i / 160) (i % 160), b, ?_, ?_, ?_⟩
    · have := (H7.out.2.1.of_block (u8.block _ H7.out.2.1.lt)).cell i hi
      rw [col_point0, colour228 _ b.1 b.2] at this
      exact this
    · have := (H7.out.2.2.of_block (u8.block _ H7.out.2.2.lt)).cell i hi
      rw [col_point1 _ _ c0 c1] at this
      exact this
    · have := n2.cell i hi
      rw [col_point2 _ _ c0 c1] at this
      exact this
  clear n2 u8 hq2 H7 HSh2 HD HV
  go_wp2_with fail
  go_loopw [13] (fun I wr => ∃ (i n : Nat), i ≤ 23040 ∧ I = .int .i64 i ∧ wr = w8.drewN n) (fun I _ => 23040 - (intOf I).toNat)
  case atStart => exact ⟨0, 0, by omega, rfl, rfl⟩
  case round =>
    obtain ⟨i, n, hi, rfl, rfl⟩ := hrel
    by_cases hlt : i < 23040
    · have d1 : decide ((i : Int) < 23040) = true := decide_eq_true (by omega)
      have e1 : (i : Int) < 23040 := by omega
      obtain ⟨m, hm, k0, k1, k2⟩ := HF.out i hlt
      have hm4 : m = 0 ∨ m = 1 ∨ m = 2 ∨ m = 3 := by omega
      have q1e := col_shift c m c0 c1 hm.1 hm.2
      have q2e := col_shift c 0 c0 c1 (by decide) (by decide)
      have b1 : 0 ≤ colourI c m ∧ colourI c m ≤ 3 := colourI_b c m c0 c1
      have b2 : 0 ≤ colourI c 0 ∧ colourI c 0 ≤ 3 := colourI_b c 0 c0 c1
      rw [show c / 2 ^ (2 * (0 : Int)).toNat = c by simp] at q2e
      generalize colourI c 0 = C0 at *
      generalize colourI c m = C1 at *
      obtain ⟨b11, b12⟩ := b1
      obtain ⟨b21, b22⟩ := b2
      clear hm
      rcases hm4 with rfl | rfl | rfl | rfl
      · simp only [show (2 * (0 : Int)).toNat = 0 by decide] at q1e
        subst q1e q2e
        go_wp2_with fail
        go_quiet (fail)
        go_wp2_with fail
        refine ⟨⟨i + 1, n + nq, by omega, ?_, ?_⟩, ?_⟩
        · first | rfl | (simp; done)
        · first | rfl | (simp; done)
        · simp [intOf]
          omega
      · simp only [show (2 * (1 : Int)).toNat = 2 by decide, show (2 : Int) ^ 2 = 4 by decide] at q1e
        subst q1e q2e
        go_wp2_with fail
        go_quiet (fail)
        go_wp2_with fail
        refine ⟨⟨i + 1, n + nq, by omega, ?_, ?_⟩, ?_⟩
        · first | rfl | (simp; done)
        · first | rfl | (simp; done)
        · simp [intOf]
          omega
      · simp only [show (2 * (2 : Int)).toNat = 4 by decide, show (2 : Int) ^ 4 = 16 by decide] at q1e
        subst q1e q2e
        go_wp2_with fail
        go_quiet (fail)
        go_wp2_with fail
        refine ⟨⟨i + 1, n + nq, by omega, ?_, ?_⟩, ?_⟩
        · first | rfl | (simp; done)
        · first | rfl | (simp; done)
        · simp [intOf]
          omega
      · simp only [show (2 * (3 : Int)).toNat = 6 by decide, show (2 : Int) ^ 6 = 64 by decide] at q1e
        subst q1e q2e
        go_wp2_with fail
        go_quiet (fail)
        go_wp2_with fail
        refine ⟨⟨i + 1, n + nq, by omega, ?_, ?_⟩, ?_⟩
        · first | rfl | (simp; done)
        · first | rfl | (simp; done)
        · simp [intOf]
          omega
    · have d1 : decide ((i : Int) < 23040) = false := decide_eq_false (by omega)
      go_wp2_with fail
      go_ret
      exact ⟨rfl, HUp.out _⟩
end Go.Proofs.Ytgiilodjkcjgdaa
