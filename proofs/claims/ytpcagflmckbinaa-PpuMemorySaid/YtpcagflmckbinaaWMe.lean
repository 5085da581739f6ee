/- PpuMemory: the walk. -/
import Derived.Test.YtpcagflmckbinaaPxM
namespace Go.Proofs.Ytpcagflmckbinaa
open Go.RowKit
set_option linter.unusedVariables false
variable {b : Nat} {p : Pic}
structure Ints (W : World) (aa : Option Addr) (ab ao len cap : Nat) (f : Nat → Int) : Prop where
  lc : len ≤ cap
  cm : cap ≤ maxLen
  ad : 0 < len → aa = some ⟨ab, ao, none⟩
  i64 : ∀ k, I64 (f k)
  cell : ∀ k, k < len → W.cell? ⟨ab, ao + k, none⟩ = some (.int .i64 (f k))
structure Byts (W : World) (aa : Option Addr) (ab ao len cap : Nat) (f : Nat → Int) : Prop where
  lc : len ≤ cap
  cm : cap ≤ maxLen
  ad : 0 < len → aa = some ⟨ab, ao, none⟩
  u8 : ∀ k, 0 ≤ f k ∧ f k ≤ 255
  cell : ∀ k, k < len → W.cell? ⟨ab, ao + k, none⟩ = some (.int .u8 (f k))
theorem Mb.more {W0 W W' : World} {gv go : Nat} (h : Mb W0 b gv go p W) (u : Up W W') : Mb W0 b gv go p W' :=
  ⟨h.up.trans u, h.nb, h.nv, h.no, h.d1, h.d2, h.d3, h.px.up u, h.rv.of_block (u.block _ h.rv.lt), h.ro.of_block (u.block _ h.ro.lt), h.inn, h.off, h.ly⟩
theorem Mb.readV {W0 W : World} {gv go : Nat} (h : Mb W0 b gv go p W) (n : Nat) (hn : n < 8192) : Calls Try.prog 18 #[.pointer (some ⟨b, 0, none⟩), .int .i64 (32768 + (n : Int))] W fun e w' => e = .returned (.int .i64 (p.vr n)) ∧ w' = W :=
  readM_any _ _ (off_mode h.off _) (isR_no (by omega)) W h.px (fun W hp => memV_any h.inn n hn _ rfl W hp)
theorem Mb.readO {W0 W : World} {gv go : Nat} (h : Mb W0 b gv go p W) (n : Nat) (hn : n < 160) : Calls Try.prog 18 #[.pointer (some ⟨b, 0, none⟩), .int .i64 (65024 + (n : Int))] W fun e w' => e = .returned (.int .i64 (p.oa n)) ∧ w' = W :=
  readM_any _ _ (off_mode h.off _) (isR_no (by omega)) W h.px (fun W hp => memO_any h.inn n hn _ rfl W hp)
theorem Mb.wroteR {W0 W w' : World} {gv go : Nat} (h : Mb W0 b gv go p W) (n : Nat) (hn : n ≠ 0) (hn4 : n ≠ 4) (x : Int) (hx : 0 ≤ x ∧ x ≤ 255) (hp : PxAt w' b (p.setR n x)) (f : Fr b W w') : Mb W0 b gv go (p.setR n x) w' := by
  have e1 : w'.heap[gv]? = W.heap[gv]? := f.block gv h.rv.lt (fun e => h.d1 e.symm)
  have e2 : w'.heap[go]? = W.heap[go]? := f.block go h.ro.lt (fun e => h.d2 e.symm)
  refine ⟨Fr.up h.up h.nb f, h.nb, h.nv, h.no, h.d1, h.d2, h.d3, hp, h.rv.of_block e1, h.ro.of_block e2, h.inn.setR n x hx, ?_, ?_⟩
  · show (bits .and .u8 (if 0 = n then x else p.rg 0) 128 != 0) = false
    rw [if_neg (fun e => hn e.symm)]
    exact h.off
  · show (if 4 = n then x else p.rg 4) = 0
    rw [if_neg (fun e => hn4 e.symm)]
    exact h.ly
theorem Mb.same {W0 W w' : World} {gv go : Nat} (h : Mb W0 b gv go p W) (hp : PxAt w' b p) (f : Fr b W w') : Mb W0 b gv go p w' := by
  have e1 : w'.heap[gv]? = W.heap[gv]? := f.block gv h.rv.lt (fun e => h.d1 e.symm)
  have e2 : w'.heap[go]? = W.heap[go]? := f.block go h.ro.lt (fun e => h.d2 e.symm)
  exact ⟨Fr.up h.up h.nb f, h.nb, h.nv, h.no, h.d1, h.d2, h.d3, hp, h.rv.of_block e1, h.ro.of_block e2, h.inn, h.off, h.ly⟩
def ridx : Nat → Nat
  | 0 => 2
  | 1 => 3
  | 2 => 5
  | 3 => 7
  | 4 => 8
  | 5 => 9
  | 6 => 10
  | _ => 11
theorem case8 {j : Nat} (h : j < 8) : j = 0 ∨ j = 1 ∨ j = 2 ∨ j = 3 ∨ j = 4 ∨ j = 5 ∨ j = 6 ∨ j = 7 := by omega
theorem writeReg (x : Int) (j : Nat) (hj : j < 8) (W : World) (h : PxAt W b p) : Calls Try.prog 16 #[.pointer (some ⟨b, 0, none⟩), .int .i64 (65344 + (ridx j : Int)), .int .i64 x] W fun e w' => e = .returned (.tuple #[]) ∧ PxAt w' b (p.setR (ridx j) (cutB x)) ∧ Fr b W w' := by
  rcases case8 hj with rfl | rfl | rfl | rfl | rfl | rfl | rfl | rfl
  · exact writeR_any 2 (by decide) _ x rfl W h (fun W h => wreg2_any _ W h)
  · exact writeR_any 3 (by decide) _ x rfl W h (fun W h => wreg3_any _ W h)
  · exact writeR_any 5 (by decide) _ x rfl W h (fun W h => wreg5_any _ W h)
  · exact writeR_any 7 (by decide) _ x rfl W h (fun W h => wreg7_any _ W h)
  · exact writeR_any 8 (by decide) _ x rfl W h (fun W h => wreg8_any _ W h)
  · exact writeR_any 9 (by decide) _ x rfl W h (fun W h => wreg9_any _ W h)
  · exact writeR_any 10 (by decide) _ x rfl W h (fun W h => wreg10_any _ W h)
  · exact writeR_any 11 (by decide) _ x rfl W h (fun W h => wreg11_any _ W h)
theorem readReg (i : p.In) (j : Nat) (hj : j < 8) (W : World) (h : PxAt W b p) : Calls Try.prog 18 #[.pointer (some ⟨b, 0, none⟩), .int .i64 (65344 + (ridx j : Int))] W fun e w' => e = .returned (.int .i64 (p.rg (ridx j))) ∧ w' = W := by
  rcases case8 hj with rfl | rfl | rfl | rfl | rfl | rfl | rfl | rfl
  · exact readR_any 2 (by decide) _ _ rfl (i.rg 2).1 (i.rg 2).2 W h (fun W h => rreg2_any W h)
  · exact readR_any 3 (by decide) _ _ rfl (i.rg 3).1 (i.rg 3).2 W h (fun W h => rreg3_any W h)
  · exact readR_any 5 (by decide) _ _ rfl (i.rg 5).1 (i.rg 5).2 W h (fun W h => rreg5_any W h)
  · exact readR_any 7 (by decide) _ _ rfl (i.rg 7).1 (i.rg 7).2 W h (fun W h => rreg7_any W h)
  · exact readR_any 8 (by decide) _ _ rfl (i.rg 8).1 (i.rg 8).2 W h (fun W h => rreg8_any W h)
  · exact readR_any 9 (by decide) _ _ rfl (i.rg 9).1 (i.rg 9).2 W h (fun W h => rreg9_any W h)
  · exact readR_any 10 (by decide) _ _ rfl (i.rg 10).1 (i.rg 10).2 W h (fun W h => rreg10_any W h)
  · exact readR_any 11 (by decide) _ _ rfl (i.rg 11).1 (i.rg 11).2 W h (fun W h => rreg11_any W h)
theorem ridx_inj {i j : Nat} (hi : i < 8) (hj : j < 8) (h : ridx i = ridx j) : i = j := by
  rcases case8 hi with rfl | rfl | rfl | rfl | rfl | rfl | rfl | rfl <;> rcases case8 hj with rfl | rfl | rfl | rfl | rfl | rfl | rfl | rfl <;> first | rfl | (exact absurd h (by decide))
theorem ridx_ne {j : Nat} (hj : j < 8) : ridx j ≠ 0 ∧ ridx j ≠ 4 := by
  rcases case8 hj with rfl | rfl | rfl | rfl | rfl | rfl | rfl | rfl <;> decide
/-- the list of registers as it lies -/
def RL (gl : Nat) (W : World) : Prop := ∀ j, j < 8 → W.cell? ⟨gl, j, none⟩ = some (.int .i64 (65344 + (ridx j : Int)))
theorem RL.up {gl : Nat} {W W' : World} (h : RL gl W) (u : Up W W') : RL gl W' := fun j hj => (u.cell (World.block_lt_of_cell? _ _ (h j hj))).trans (h j hj)
theorem RL.fr {gl : Nat} {W W' : World} (h : RL gl W) (u : Fr b W W') (hb : gl ≠ b) : RL gl W' := fun j hj => (u.cell (World.block_lt_of_cell? _ _ (h j hj)) hb).trans (h j hj)
theorem Ints.up {W W' : World} {aa : Option Addr} {ab ao len cap : Nat} {f : Nat → Int} (h : Ints W aa ab ao len cap f) (u : Up W W') : Ints W' aa ab ao len cap f :=
  ⟨h.lc, h.cm, h.ad, h.i64, fun k hk => (u.cell (World.block_lt_of_cell? _ _ (h.cell k hk))).trans (h.cell k hk)⟩
theorem Byts.up {W W' : World} {aa : Option Addr} {ab ao len cap : Nat} {f : Nat → Int} (h : Byts W aa ab ao len cap f) (u : Up W W') : Byts W' aa ab ao len cap f :=
  ⟨h.lc, h.cm, h.ad, h.u8, fun k hk => (u.cell (World.block_lt_of_cell? _ _ (h.cell k hk))).trans (h.cell k hk)⟩
set_option maxRecDepth 100000 in
set_option maxHeartbeats 40000000 in
theorem memory_walk {W : World} {aa : Option Addr} {ab ao alen acap : Nat} {f : Nat → Int} (hA : Ints W aa ab ao alen acap f) {ba : Option Addr} {bb bo blen bcap : Nat} {g : Nat → Int} (hB : Byts W ba bb bo blen bcap g) {ca : Option Addr} {cb co clen ccap : Nat} {k : Nat → Int} (hC : Ints W ca cb co clen ccap k) :
    Calls Try.prog 3 #[.slice aa alen acap, .slice ba blen bcap, .slice ca clen ccap] W fun e w' => e = .returned (.bool true) ∧ Up W w' := by
  have HN : Hid _ := newP_any W
  have HA : Hid _ := hA
  have HB : Hid _ := hB
  have HC : Hid _ := hC
  have ma1 := hA.lc
  have ma2 : acap ≤ 9223372036854775807 := by have := hA.cm; unfold maxLen at this; omega
  have mb1 := hB.lc
  have mb2 : bcap ≤ 9223372036854775807 := by have := hB.cm; unfold maxLen at this; omega
  have mc1 := hC.lc
  have mc2 : ccap ≤ 9223372036854775807 := by have := hC.cm; unfold maxLen at this; omega
  clear hA hB hC
  generalize hN : W.heap.size = N at *
  go_enter Try.func3, Try.ntmps3
  go_wp2_with fail
  refine Calls.mono HN.out ?_
  rintro e w1 ⟨rfl, h1, u1⟩
  have H1 : Hid _ := And.intro h1 u1
  clear h1 u1 HN
  go_wp2_with fail
  refine (start_off w1 H1.out.1).mono ?_
  rintro e w2 ⟨rfl, h2, F2⟩
  have H2 : Hid (PxAt w2 N offPic ∧ Up W w2) := ⟨h2, Fr.up H1.out.2 (by omega) F2⟩
  clear h2 F2 H1
  go_wp2_with (refine wpList_make_row _ rfl _ _ 23 rfl 5 Try.t5 (.int .u8 0) Try.underlying23 (by kernel_rfl) (by kernel_rfl) (by kernel_rfl) rfl .i64 .i64 _ rfl rfl (by decide) (by decide) ?_)
  have M0 : Hid (Mb W N w2.heap.size (w2.heap.size + 1) offPic ((w2.alloc (Obj.cells (madeCells #[Value.int IntKind.u8 0] 8192) 5)).alloc (Obj.cells (madeCells #[Value.int IntKind.u8 0] 160) 5))) := by
    have hl := H2.out.1.lt
    have us := H2.out.2.size
    have u3 : Up w2 ((w2.alloc (Obj.cells (madeCells #[Value.int IntKind.u8 0] 8192) 5)).alloc (Obj.cells (madeCells #[Value.int IntKind.u8 0] 160) 5)) := ((Up.refl w2).alloc _).alloc _
    have r1 := made_row w2 8192
    have r2 := made_row (w2.alloc (Obj.cells (madeCells #[Value.int IntKind.u8 0] 8192) 5)) 160
    rw [show (w2.alloc (Obj.cells (madeCells #[Value.int IntKind.u8 0] 8192) 5)).heap.size = w2.heap.size + 1 by simp] at r2
    exact ⟨H2.out.2.trans u3, by omega, by omega, by omega, by omega, by omega, by omega, H2.out.1.up u3, r1.of_block (((Up.refl _).alloc _).block _ r1.lt), r2, offPic_in, by decide, by decide⟩
  generalize World.alloc (World.alloc w2 _) _ = w3 at M0 ⊢
  generalize w2.heap.size = gv at M0 ⊢
  generalize gv + 1 = go at M0 ⊢
  generalize hP0 : offPic = p0 at M0
  clear H2 hP0
  go_loopw [10] (fun I wr => ∃ (i : Nat) (p : Pic), i ≤ alen ∧ i ≤ blen ∧ I = .int .i64 i ∧ Hid (Mb W N gv go p wr)) (fun I _ => alen - (intOf I).toNat)
  case atStart => exact ⟨0, p0, by omega, by omega, rfl, M0⟩
  case round =>
    clear M0
    obtain ⟨i, p, hi, hi2, rfl, M⟩ := hrel
    by_cases hl : i < alen
    · by_cases hl2 : i < blen
      · have d1 : decide ((i : Int) < (alen : Int)) = true := decide_eq_true (by omega)
        have d2 : decide ((i : Int) < (blen : Int)) = true := decide_eq_true (by omega)
        have e1 : (i : Int) < (alen : Int) := by omega
        have e2 : (i : Int) < (blen : Int) := by omega
        have hA := HA.out.up M.out.up
        have hB := HB.out.up M.out.up
        obtain rfl := hA.ad (by omega)
        obtain rfl := hB.ad (by omega)
        have k0 := hA.cell i hl
        have k1 := hB.cell i hl2
        have HKB : Hid (∀ w', Up W w' → w'.cell? ⟨bb, bo + i, none⟩ = some (.int .u8 (g i))) := fun w' u => (HB.out.up u).cell i hl2
        have hq := hA.i64 i
        have x0 := (hB.u8 i).1
        have x1 := (hB.u8 i).2
        clear hA hB
        generalize f i = F at *
        generalize g i = X at *
        have HPk : Hid (∀ W, Calls Try.prog 17 #[.int .i64 F, .int .i64 8352] W fun e w' => e = .returned (.int .i64 (pickI F 8352)) ∧ w' = W) := fun W => pick_any F 8352 W hq (by decide) (by decide)
        have y0 := pickI_lo F 8352 (by decide)
        have y1 := pickI_hi F 8352 (by decide)
        have hcut : cutB X = X := by unfold cutB; simp [IntKind.wrap, IntKind.bits, IntKind.signed]; omega
        generalize pickI F 8352 = Y at *
        obtain ⟨m, rfl⟩ := Int.eq_ofNat_of_zero_le y0
        by_cases hv : m < 8192
        · have dv : decide ((m : Int) < 8192) = true := decide_eq_true (by omega)
          have e3 : (m : Int) < 8192 := by omega
          have HW : Hid _ := writeV_any m hv (32768 + (m : Int)) X rfl (off_mode M.out.off _) wr M.out.px
          go_wp2_with fail
          refine (HPk.out _).mono ?_
          rintro e w' ⟨rfl, hw'⟩
          obtain rfl := hw'.symm
          go_wp2_with fail
          refine Calls.mono HW.out ?_
          rintro e w4 ⟨rfl, h4, F4⟩
          rw [hcut] at h4
          have U4 := Fr.up M.out.up M.out.nb F4
          have c4 := HKB.out w4 U4
          have e4 : w4.heap[gv]? = wr.heap[gv]? := F4.block gv M.out.rv.lt (fun e => M.out.d1 e.symm)
          have kv := (M.out.rv.of_block e4).cell m hv
          have fv := (M.out.rv.of_block e4).fz m
          have M4 : Hid _ := M.out.wroteV m hv X ⟨x0, x1⟩ h4 F4
          clear h4 F4 e4 HW k0 k1 HPk HKB U4
          go_wp2_with fail
          refine ⟨⟨i + 1, _, by omega, by omega, rfl, M4⟩, ?_⟩
          simp [intOf]
          omega
        · obtain ⟨n, rfl⟩ : ∃ n, m = 8192 + n := ⟨m - 8192, by omega⟩
          have hn : n < 160 := by omega
          have ec : ((8192 + n : Nat) : Int) = 8192 + (n : Int) := by omega
          rw [ec] at HPk
          have dv : decide (8192 + (n : Int) < 8192) = false := decide_eq_false (by omega)
          have e3 : (n : Int) < 160 := by omega
          have HW : Hid _ := writeO_any n hn (65024 + (n : Int)) X rfl (off_mode M.out.off _) wr M.out.px
          have s1 : 65024 + (8192 + (n : Int)) - 8192 = 65024 + (n : Int) := by omega
          have s2 : 8192 + (n : Int) - 8192 = (n : Int) := by omega
          clear y0 y1 hv ec
          go_wp2_with fail
          refine (HPk.out _).mono ?_
          rintro e w' ⟨rfl, hw'⟩
          obtain rfl := hw'.symm
          go_wp2_with fail
          refine Calls.mono HW.out ?_
          rintro e w4 ⟨rfl, h4, F4⟩
          rw [hcut] at h4
          have U4 := Fr.up M.out.up M.out.nb F4
          have c4 := HKB.out w4 U4
          have e4 : w4.heap[go]? = wr.heap[go]? := F4.block go M.out.ro.lt (fun e => M.out.d2 e.symm)
          have kv := (M.out.ro.of_block e4).cell n hn
          have fv := (M.out.ro.of_block e4).fz n
          have M4 : Hid _ := M.out.wroteO n hn X ⟨x0, x1⟩ h4 F4
          clear h4 F4 e4 HW k0 k1 HPk HKB U4
          go_wp2_with fail
          refine ⟨⟨i + 1, _, by omega, by omega, rfl, M4⟩, ?_⟩
          simp [intOf]
          omega
      · have d1 : decide ((i : Int) < (alen : Int)) = true := decide_eq_true (by omega)
        have d2 : decide ((i : Int) < (blen : Int)) = false := decide_eq_false (by omega)
        go_wp2_with fail
        clear d1 d2 hl hl2 hi hi2
        go_loopw [12] (fun I wr => ∃ (j : Nat), j ≤ 8192 ∧ I = .int .i64 j ∧ Hid (Mb W N gv go p wr)) (fun I _ => 8192 - (intOf I).toNat)
        case atStart => exact ⟨0, by omega, rfl, M⟩
        case round =>
          clear M
          obtain ⟨j, hj, rfl, M⟩ := hrel
          by_cases hl : j < 8192
          · have d1 : decide ((j : Int) < 8192) = true := decide_eq_true (by omega)
            have e1 : (j : Int) < 8192 := by omega
            have kv := M.out.rv.cell j hl
            have v0 := (M.out.inn.vr j).1
            have v1 := (M.out.inn.vr j).2
            have HR : Hid (∀ n, Calls Try.prog 18 #[.pointer (some ⟨N, 0, none⟩), .int .i64 (32768 + (j : Int))] (wr.drewN n) fun e w' => e = .returned (.int .i64 (p.vr j)) ∧ w' = wr.drewN n) := fun n => (M.out.more (Up.drewN wr n)).readV j hl
            have HMm : Hid (∀ n, Calls Try.prog 19 #[.pointer (some ⟨N, 0, none⟩), .int .i64 (32768 + (j : Int))] (wr.drewN n) fun e w' => e = .returned (.int .i64 (p.vr j)) ∧ w' = wr.drewN n) := fun n => memV_any M.out.inn j hl _ rfl _ (M.out.more (Up.drewN wr n)).px
            have ne : (p.vr j != p.vr j) = false := by simp
            go_wp2_with fail
            try dsimp only [List.append]
            go_quiet (first | (go_at_call 18; exact Calls.quiet_of_same (HR.out _)) | (go_at_call 19; exact Calls.quiet_of_same (HMm.out _)))
            go_wp2_with fail
            refine ⟨⟨j + 1, by omega, rfl, M.out.more (by first | exact Up.drewN wr _ | exact Up.refl wr)⟩, ?_⟩
            simp [intOf]
            omega
          · have d1 : decide ((j : Int) < 8192) = false := decide_eq_false (by omega)
            clear hl hj
            go_wp2_with fail
            clear d1
            go_loopw [13] (fun I wr => ∃ (j : Nat), j ≤ 160 ∧ I = .int .i64 j ∧ Hid (Mb W N gv go p wr)) (fun I _ => 160 - (intOf I).toNat)
            case atStart => exact ⟨0, by omega, rfl, M⟩
            case round =>
              clear M
              obtain ⟨j, hj, rfl, M⟩ := hrel
              by_cases hl : j < 160
              · have d1 : decide ((j : Int) < 160) = true := decide_eq_true (by omega)
                have e1 : (j : Int) < 160 := by omega
                have kv := M.out.ro.cell j hl
                have v0 := (M.out.inn.oa j).1
                have v1 := (M.out.inn.oa j).2
                have HR : Hid (∀ n, Calls Try.prog 18 #[.pointer (some ⟨N, 0, none⟩), .int .i64 (65024 + (j : Int))] (wr.drewN n) fun e w' => e = .returned (.int .i64 (p.oa j)) ∧ w' = wr.drewN n) := fun n => (M.out.more (Up.drewN wr n)).readO j hl
                have HMm : Hid (∀ n, Calls Try.prog 19 #[.pointer (some ⟨N, 0, none⟩), .int .i64 (65024 + (j : Int))] (wr.drewN n) fun e w' => e = .returned (.int .i64 (p.oa j)) ∧ w' = wr.drewN n) := fun n => memO_any M.out.inn j hl _ rfl _ (M.out.more (Up.drewN wr n)).px
                have ne : (p.oa j != p.oa j) = false := by simp
                go_wp2_with fail
                try dsimp only [List.append]
                go_quiet (first | (go_at_call 18; exact Calls.quiet_of_same (HR.out _)) | (go_at_call 19; exact Calls.quiet_of_same (HMm.out _)))
                go_wp2_with fail
                refine ⟨⟨j + 1, by omega, rfl, M.out.more (by first | exact Up.drewN wr _ | exact Up.refl wr)⟩, ?_⟩
                simp [intOf]
                omega
              · have d1 : decide ((j : Int) < 160) = false := decide_eq_false (by omega)
                clear hl hj
                go_wp2_with fail
                clear d1
                have u8 := (Up.refl wr).alloc (Obj.cells #[Value.int IntKind.i64 65346, Value.int IntKind.i64 65347, Value.int IntKind.i64 65349, Value.int IntKind.i64 65351, Value.int IntKind.i64 65352, Value.int IntKind.i64 65353, Value.int IntKind.i64 65354, Value.int IntKind.i64 65355] 3)
                have r8 : RL wr.heap.size (wr.alloc (Obj.cells #[Value.int IntKind.i64 65346, Value.int IntKind.i64 65347, Value.int IntKind.i64 65349, Value.int IntKind.i64 65351, Value.int IntKind.i64 65352, Value.int IntKind.i64 65353, Value.int IntKind.i64 65354, Value.int IntKind.i64 65355] 3)) := fun j hj => by
                  rw [cell_of_row _ _ _ _ _ _ (heap_alloc_new wr _)]
                  rcases case8 hj with rfl | rfl | rfl | rfl | rfl | rfl | rfl | rfl <;> rfl
                have hgl : wr.heap.size ≠ N := by have := M.out.px.lt; omega
                generalize World.alloc wr _ = w8 at u8 r8 ⊢
                have M8 : Hid _ := M.out.more u8
                have R8 : Hid _ := r8
                generalize wr.heap.size = gl at *
                clear M r8 u8
                go_loopw [15] (fun I w => ∃ (i : Nat) (q : Pic), i ≤ 8 ∧ i ≤ clen ∧ I = .int .i64 i ∧ Hid (Mb W N gv go q w) ∧ Hid (RL gl w) ∧ Hid (∀ j, j < i → q.rg (ridx j) = cutB (k j))) (fun I _ => 8 - (intOf I).toNat)
                case atStart => exact ⟨0, p, by omega, by omega, rfl, M8, R8, fun j hj => by omega⟩
                case round =>
                  clear M8 R8
                  obtain ⟨i4, q, hj1, hj2, rfl, M4, R4, HQ⟩ := hrel
                  by_cases hA : i4 < 8
                  · by_cases hB : i4 < clen
                    · have d1 : decide ((i4 : Int) < 8) = true := decide_eq_true (by omega)
                      have d2 : decide ((i4 : Int) < (clen : Int)) = true := decide_eq_true (by omega)
                      have e1 : (i4 : Int) < 8 := by omega
                      have e2 : (i4 : Int) < (clen : Int) := by omega
                      have hC := HC.out.up M4.out.up
                      obtain rfl := hC.ad (by omega)
                      have k1 := hC.cell i4 hB
                      have k0 := R4.out i4 hA
                      have HL2 : Hid (∀ w', Up W w' → w'.cell? ⟨cb, co + i4, none⟩ = some (.int .i64 (k i4))) := fun w' u => (HC.out.up u).cell i4 hB
                      have rn := ridx_ne hA
                      have HW : Hid (∀ W, PxAt W N q → Calls Try.prog 16 #[.pointer (some ⟨N, 0, none⟩), .int .i64 (65344 + (ridx i4 : Int)), .int .i64 (k i4)] W fun e w' => e = .returned (.tuple #[]) ∧ PxAt w' N (q.setR (ridx i4) (cutB (k i4))) ∧ Fr N W w') := fun W h => writeReg (k i4) i4 hA W h
                      have HQ2 : Hid (∀ j, j < i4 + 1 → (q.setR (ridx i4) (cutB (k i4))).rg (ridx j) = cutB (k j)) := fun j hj => by
                        show (if ridx j = ridx i4 then cutB (k i4) else q.rg (ridx j)) = cutB (k j)
                        by_cases e : ridx j = ridx i4
                        · rw [if_pos e, ridx_inj (by omega) hA e]
                        · rw [if_neg e]
                          exact HQ.out j (by
                            by_cases e' : j = i4
                            · rw [e'] at e; exact absurd rfl e
                            · omega)
                      have HSame : Hid (65344 + (ridx i4 : Int) = 65344 + (ridx i4 : Int)) := rfl
                      generalize hAD : (65344 + (ridx i4 : Int)) = AD at k0 HW
                      have HAD : Hid _ := hAD
                      clear hC HSame hAD
                      go_wp2_with fail
                      try dsimp only [List.append]
                      refine wp_region_held_drew (S := fun w' => w'.cell? ⟨gl, i4, none⟩ = some (.int .i64 AD) ∧ w'.cell? ⟨cb, co + i4, none⟩ = some (.int .i64 (k i4))) (by kernel_rfl) ?_ (fun hHeld => ?_)
                      · exact ⟨k0, k1⟩
                      refine wpAnyH_take (i := 0) (v := ?_) (by simp only [List.getElem?_toArray, List.getElem?_cons_zero]; rfl) (by kernel_rfl) (by kernel_rfl) (by kernel_rfl) (by intro _ _ _ h; exact h) (Or.inl ⟨by rfl, ?_⟩) (by assumption) ?_
                      rotate_left
                      · (intro w hSw; (try dsimp only at hSw); go_simp <;> with_reducible rfl)
                      try simp only [Act.put, List.setIfInBounds_toArray, List.set_cons_zero, List.set_cons_succ]
                      refine wpAnyH_take (i := 1) (v := ?_) (by simp only [List.getElem?_toArray, List.getElem?_cons_succ, List.getElem?_cons_zero]; rfl) (by kernel_rfl) (by kernel_rfl) (by kernel_rfl) (by intro _ _ _ h; exact h) (Or.inl ⟨by rfl, ?_⟩) (by assumption) ?_
                      rotate_left
                      · (intro w hSw; (try dsimp only at hSw); go_simp <;> with_reducible rfl)
                      try simp only [Act.put, List.setIfInBounds_toArray, List.set_cons_zero, List.set_cons_succ]
                      refine wpAnyH_take (i := 2) (v := ?_) (by simp only [List.getElem?_toArray, List.getElem?_cons_succ, List.getElem?_cons_zero]; rfl) (by kernel_rfl) (by kernel_rfl) (by kernel_rfl) (by intro _ _ _ h; exact h) (Or.inl ⟨by rfl, ?_⟩) (by assumption) ?_
                      rotate_left
                      · (intro w hSw; (try dsimp only at hSw); go_simp <;> with_reducible rfl)
                      try simp only [Act.put, List.setIfInBounds_toArray, List.set_cons_zero, List.set_cons_succ]
                      refine wpAnyH_take (i := 3) (v := ?_) (by simp only [List.getElem?_toArray, List.getElem?_cons_succ, List.getElem?_cons_zero]; rfl) (by kernel_rfl) (by kernel_rfl) (by kernel_rfl) (by intro _ _ _ h; exact h) (Or.inl ⟨by rfl, ?_⟩) (by assumption) ?_
                      rotate_left
                      · (intro w hSw; (try dsimp only at hSw); go_simp <;> with_reducible rfl)
                      try simp only [Act.put, List.setIfInBounds_toArray, List.set_cons_zero, List.set_cons_succ]
                      refine wpAnyH_take (i := 4) (v := ?_) (by simp only [List.getElem?_toArray, List.getElem?_cons_succ, List.getElem?_cons_zero]; rfl) (by kernel_rfl) (by kernel_rfl) (by kernel_rfl) (by intro _ _ _ h; exact h) (Or.inl ⟨by rfl, ?_⟩) (by assumption) ?_
                      rotate_left
                      · (intro w hSw; (try dsimp only at hSw); go_simp <;> with_reducible rfl)
                      try simp only [Act.put, List.setIfInBounds_toArray, List.set_cons_zero, List.set_cons_succ]
                      refine wpAnyH_take (i := 5) (v := ?_) (by simp only [List.getElem?_toArray, List.getElem?_cons_succ, List.getElem?_cons_zero]; rfl) (by kernel_rfl) (by kernel_rfl) (by kernel_rfl) (by intro _ _ _ h; exact h) (Or.inl ⟨by rfl, ?_⟩) (by assumption) ?_
                      rotate_left
                      · (intro w hSw; (try dsimp only at hSw); go_simp <;> with_reducible rfl)
                      try simp only [Act.put, List.setIfInBounds_toArray, List.set_cons_zero, List.set_cons_succ]
                      refine wpAnyH_take (i := 6) (v := ?_) (by simp only [List.getElem?_toArray, List.getElem?_cons_succ, List.getElem?_cons_zero]; rfl) (by kernel_rfl) (by kernel_rfl) (by kernel_rfl) (by intro _ _ _ h; exact h) (Or.inl ⟨by rfl, ?_⟩) (by assumption) ?_
                      rotate_left
                      · (intro w hSw; (try dsimp only at hSw); go_simp <;> with_reducible rfl)
                      try simp only [Act.put, List.setIfInBounds_toArray, List.set_cons_zero, List.set_cons_succ]
                      refine wpAnyH_take (i := 7) (v := ?_) (by simp only [List.getElem?_toArray, List.getElem?_cons_succ, List.getElem?_cons_zero]; rfl) (by kernel_rfl) (by kernel_rfl) (by kernel_rfl) (by intro _ _ _ h; exact h) (Or.inl ⟨by rfl, ?_⟩) (by assumption) ?_
                      rotate_left
                      · (intro w hSw; (try dsimp only at hSw); go_simp <;> with_reducible rfl)
                      try simp only [Act.put, List.setIfInBounds_toArray, List.set_cons_zero, List.set_cons_succ]
                      refine wpAnyH_take (i := 8) (v := ?_) (by simp only [List.getElem?_toArray, List.getElem?_cons_succ, List.getElem?_cons_zero]; rfl) (by kernel_rfl) (by kernel_rfl) (by kernel_rfl) (by intro _ _ _ h; exact h) (Or.inl ⟨by rfl, ?_⟩) (by assumption) ?_
                      rotate_left
                      · (intro w hSw; (try dsimp only at hSw); go_simp <;> with_reducible rfl)
                      try simp only [Act.put, List.setIfInBounds_toArray, List.set_cons_zero, List.set_cons_succ]
                      refine wpAnyH_ready (rs := [9]) (by kernel_rfl) (by simp) ?_
                      refine AllReadyH.cons (by simp only [List.getElem?_toArray, List.getElem?_cons_succ, List.getElem?_cons_zero]; rfl) (fun Kq hK => ?_) AllReadyH.nil
                      go_simp
                      refine (HW.out _ (M4.out.more ((Up.refl wr).drew)).px).mono ?_
                      rintro e w9 ⟨rfl, h9, F9⟩
                      have M9 : Hid _ := (M4.out.more ((Up.refl wr).drew)).wroteR (ridx i4) rn.1 rn.2 _ (cutB_b _) h9 F9
                      have R9 : Hid _ := (R4.out.up ((Up.refl wr).drew)).fr F9 hgl
                      have kk := R9.out i4 hA
                      rw [HAD.out] at kk
                      refine hK.out _ _ ⟨kk, HL2.out _ M9.out.up⟩ (fun _ => ?_)
                      clear hK Kq h9 F9 kk
                      try simp only [Act.put, List.setIfInBounds_toArray, List.set_cons_zero, List.set_cons_succ]
                      refine wpAnyH_done (by kernel_rfl) ?_ _
                      clear hHeld k0 k1 HW HL2 M4 R4
                      go_wp2_with fail
                      refine ⟨⟨i4 + 1, _, by omega, by omega, rfl, M9, R9, HQ2⟩, ?_⟩
                      simp [intOf]
                      omega
                    · have d1 : decide ((i4 : Int) < 8) = true := decide_eq_true (by omega)
                      have d2 : decide ((i4 : Int) < (clen : Int)) = false := decide_eq_false (by omega)
                      go_wp2_with fail
                      clear d1 d2
                      go_loopw [16] (fun I w => ∃ (j : Nat), j ≤ 8 ∧ j ≤ clen ∧ I = .int .i64 j ∧ Hid (Mb W N gv go q w) ∧ Hid (RL gl w)) (fun I _ => 8 - (intOf I).toNat)
                      case atStart => exact ⟨0, by omega, by omega, rfl, M4, R4⟩
                      case round =>
                        clear M4 R4
                        obtain ⟨j, hj1, hj2, rfl, M5, R5⟩ := hrel
                        by_cases hA : j < 8
                        · by_cases hB : j < clen
                          · have d1 : decide ((j : Int) < 8) = true := decide_eq_true (by omega)
                            have d2 : decide ((j : Int) < (clen : Int)) = true := decide_eq_true (by omega)
                            have e1 : (j : Int) < 8 := by omega
                            have e2 : (j : Int) < (clen : Int) := by omega
                            have hq : q.rg (ridx j) = cutB (k j) := HQ.out j (by omega)
                            have hC := HC.out.up M5.out.up
                            obtain rfl := hC.ad (by omega)
                            have k1 := hC.cell j hB
                            have k0 := R5.out j hA
                            have HR : Hid (∀ n, Calls Try.prog 18 #[.pointer (some ⟨N, 0, none⟩), .int .i64 (65344 + (ridx j : Int))] (wr.drewN n) fun e w' => e = .returned (.int .i64 (cutB (k j))) ∧ w' = wr.drewN n) := fun n => by have := readReg M5.out.inn j hA (wr.drewN n) (M5.out.more (Up.drewN wr n)).px; rw [hq] at this; exact this
                            have b0 := (cutB_b (k j)).1
                            have b1 := (cutB_b (k j)).2
                            have hw := wrapB (k j)
                            generalize (65344 + (ridx j : Int)) = AD at *
                            generalize cutB (k j) = CC at *
                            have ne : (CC != CC) = false := by simp
                            clear hC hq
                            go_wp2_with fail
                            try dsimp only [List.append]
                            go_quiet (first | (go_at_call 18; exact Calls.quiet_of_same (HR.out _)))
                            go_wp2_with fail
                            refine ⟨⟨j + 1, by omega, by omega, rfl, M5.out.more (by first | exact Up.drewN wr _ | exact Up.refl wr), R5.out.up (by first | exact Up.drewN wr _ | exact Up.refl wr)⟩, ?_⟩
                            simp [intOf]
                            omega
                          · have d1 : decide ((j : Int) < 8) = true := decide_eq_true (by omega)
                            have d2 : decide ((j : Int) < (clen : Int)) = false := decide_eq_false (by omega)
                            go_wp2_with fail
                            refine (writeR_any 4 (by decide) 65348 77 rfl wr M5.out.px (fun W h => wreg4_any _ W h)).mono ?_
                            rintro e x1 ⟨rfl, y1, G1⟩
                            have M6 : Hid _ := M5.out.same y1 G1
                            have HZ1 : Hid (Calls Try.prog 18 #[.pointer (some ⟨N, 0, none⟩), .int .i64 65348] x1 fun e w' => e = .returned (.int .i64 0) ∧ w' = x1) := readR_any 4 (by decide) 65348 0 rfl (by decide) (by decide) x1 M6.out.px (fun W h => by have := rreg4_any W h; rw [M6.out.ly] at this; exact this)
                            have HZ2 : Hid (Calls Try.prog 18 #[.pointer (some ⟨N, 0, none⟩), .int .i64 65350] x1 fun e w' => e = .returned (.int .i64 255) ∧ w' = x1) := readR_any 6 (by decide) 65350 255 rfl (by decide) (by decide) x1 M6.out.px (fun W h => rreg6_any W)
                            have HZ3 : Hid (Calls Try.prog 18 #[.pointer (some ⟨N, 0, none⟩), .int .i64 65184] x1 fun e w' => e = .returned (.int .i64 255) ∧ w' = x1) := readM_any 65184 255 (off_mode M6.out.off _) (isR_no (by decide)) x1 M6.out.px (fun W _ => memN_any 65184 (by decide) (by decide) W)
                            have HZ4 : Hid (Calls Try.prog 18 #[.pointer (some ⟨N, 0, none⟩), .int .i64 40960] x1 fun e w' => e = .returned (.int .i64 255) ∧ w' = x1) := readM_any 40960 255 (off_mode M6.out.off _) (isR_no (by decide)) x1 M6.out.px (fun W _ => memN_any 40960 (by decide) (by decide) W)
                            have HZ5 : Hid (Calls Try.prog 19 #[.pointer (some ⟨N, 0, none⟩), .int .i64 65344] x1 fun e w' => e = .returned (.int .i64 255) ∧ w' = x1) := memN_any 65344 (by decide) (by decide) x1
                            clear y1 G1 M5 R5
                            go_wp2_with fail
                            refine Calls.mono HZ1.out ?_
                            rintro e w' ⟨rfl, hw'⟩
                            obtain rfl := hw'.symm
                            go_wp2_with fail
                            refine Calls.mono HZ2.out ?_
                            rintro e w' ⟨rfl, hw'⟩
                            obtain rfl := hw'.symm
                            go_wp2_with fail
                            refine Calls.mono HZ3.out ?_
                            rintro e w' ⟨rfl, hw'⟩
                            obtain rfl := hw'.symm
                            go_wp2_with fail
                            refine Calls.mono HZ4.out ?_
                            rintro e w' ⟨rfl, hw'⟩
                            obtain rfl := hw'.symm
                            go_wp2_with fail
                            refine Calls.mono HZ5.out ?_
                            rintro e w' ⟨rfl, hw'⟩
                            obtain rfl := hw'.symm
                            go_wp2_with fail
                            go_ret
                            exact ⟨by first | rfl | exact retB (by simp), M6.out.up⟩
                        · have d1 : decide ((j : Int) < 8) = false := decide_eq_false (by omega)
                          go_wp2_with fail
                          refine (writeR_any 4 (by decide) 65348 77 rfl wr M5.out.px (fun W h => wreg4_any _ W h)).mono ?_
                          rintro e x1 ⟨rfl, y1, G1⟩
                          have M6 : Hid _ := M5.out.same y1 G1
                          have HZ1 : Hid (Calls Try.prog 18 #[.pointer (some ⟨N, 0, none⟩), .int .i64 65348] x1 fun e w' => e = .returned (.int .i64 0) ∧ w' = x1) := readR_any 4 (by decide) 65348 0 rfl (by decide) (by decide) x1 M6.out.px (fun W h => by have := rreg4_any W h; rw [M6.out.ly] at this; exact this)
                          have HZ2 : Hid (Calls Try.prog 18 #[.pointer (some ⟨N, 0, none⟩), .int .i64 65350] x1 fun e w' => e = .returned (.int .i64 255) ∧ w' = x1) := readR_any 6 (by decide) 65350 255 rfl (by decide) (by decide) x1 M6.out.px (fun W h => rreg6_any W)
                          have HZ3 : Hid (Calls Try.prog 18 #[.pointer (some ⟨N, 0, none⟩), .int .i64 65184] x1 fun e w' => e = .returned (.int .i64 255) ∧ w' = x1) := readM_any 65184 255 (off_mode M6.out.off _) (isR_no (by decide)) x1 M6.out.px (fun W _ => memN_any 65184 (by decide) (by decide) W)
                          have HZ4 : Hid (Calls Try.prog 18 #[.pointer (some ⟨N, 0, none⟩), .int .i64 40960] x1 fun e w' => e = .returned (.int .i64 255) ∧ w' = x1) := readM_any 40960 255 (off_mode M6.out.off _) (isR_no (by decide)) x1 M6.out.px (fun W _ => memN_any 40960 (by decide) (by decide) W)
                          have HZ5 : Hid (Calls Try.prog 19 #[.pointer (some ⟨N, 0, none⟩), .int .i64 65344] x1 fun e w' => e = .returned (.int .i64 255) ∧ w' = x1) := memN_any 65344 (by decide) (by decide) x1
                          clear y1 G1 M5 R5
                          go_wp2_with fail
                          refine Calls.mono HZ1.out ?_
                          rintro e w' ⟨rfl, hw'⟩
                          obtain rfl := hw'.symm
                          go_wp2_with fail
                          refine Calls.mono HZ2.out ?_
                          rintro e w' ⟨rfl, hw'⟩
                          obtain rfl := hw'.symm
                          go_wp2_with fail
                          refine Calls.mono HZ3.out ?_
                          rintro e w' ⟨rfl, hw'⟩
                          obtain rfl := hw'.symm
                          go_wp2_with fail
                          refine Calls.mono HZ4.out ?_
                          rintro e w' ⟨rfl, hw'⟩
                          obtain rfl := hw'.symm
                          go_wp2_with fail
                          refine Calls.mono HZ5.out ?_
                          rintro e w' ⟨rfl, hw'⟩
                          obtain rfl := hw'.symm
                          go_wp2_with fail
                          go_ret
                          exact ⟨by first | rfl | exact retB (by simp), M6.out.up⟩
                  · have d1 : decide ((i4 : Int) < 8) = false := decide_eq_false (by omega)
                    go_wp2_with fail
                    clear d1
                    go_loopw [16] (fun I w => ∃ (j : Nat), j ≤ 8 ∧ j ≤ clen ∧ I = .int .i64 j ∧ Hid (Mb W N gv go q w) ∧ Hid (RL gl w)) (fun I _ => 8 - (intOf I).toNat)
                    case atStart => exact ⟨0, by omega, by omega, rfl, M4, R4⟩
                    case round =>
                      clear M4 R4
                      obtain ⟨j, hj1, hj2, rfl, M5, R5⟩ := hrel
                      by_cases hA : j < 8
                      · by_cases hB : j < clen
                        · have d1 : decide ((j : Int) < 8) = true := decide_eq_true (by omega)
                          have d2 : decide ((j : Int) < (clen : Int)) = true := decide_eq_true (by omega)
                          have e1 : (j : Int) < 8 := by omega
                          have e2 : (j : Int) < (clen : Int) := by omega
                          have hq : q.rg (ridx j) = cutB (k j) := HQ.out j (by omega)
                          have hC := HC.out.up M5.out.up
                          obtain rfl := hC.ad (by omega)
                          have k1 := hC.cell j hB
                          have k0 := R5.out j hA
                          have HR : Hid (∀ n, Calls Try.prog 18 #[.pointer (some ⟨N, 0, none⟩), .int .i64 (65344 + (ridx j : Int))] (wr.drewN n) fun e w' => e = .returned (.int .i64 (cutB (k j))) ∧ w' = wr.drewN n) := fun n => by have := readReg M5.out.inn j hA (wr.drewN n) (M5.out.more (Up.drewN wr n)).px; rw [hq] at this; exact this
                          have b0 := (cutB_b (k j)).1
                          have b1 := (cutB_b (k j)).2
                          have hw := wrapB (k j)
                          generalize (65344 + (ridx j : Int)) = AD at *
                          generalize cutB (k j) = CC at *
                          have ne : (CC != CC) = false := by simp
                          clear hC hq
                          go_wp2_with fail
                          try dsimp only [List.append]
                          go_quiet (first | (go_at_call 18; exact Calls.quiet_of_same (HR.out _)))
                          go_wp2_with fail
                          refine ⟨⟨j + 1, by omega, by omega, rfl, M5.out.more (by first | exact Up.drewN wr _ | exact Up.refl wr), R5.out.up (by first | exact Up.drewN wr _ | exact Up.refl wr)⟩, ?_⟩
                          simp [intOf]
                          omega
                        · have d1 : decide ((j : Int) < 8) = true := decide_eq_true (by omega)
                          have d2 : decide ((j : Int) < (clen : Int)) = false := decide_eq_false (by omega)
                          go_wp2_with fail
                          refine (writeR_any 4 (by decide) 65348 77 rfl wr M5.out.px (fun W h => wreg4_any _ W h)).mono ?_
                          rintro e x1 ⟨rfl, y1, G1⟩
                          have M6 : Hid _ := M5.out.same y1 G1
                          have HZ1 : Hid (Calls Try.prog 18 #[.pointer (some ⟨N, 0, none⟩), .int .i64 65348] x1 fun e w' => e = .returned (.int .i64 0) ∧ w' = x1) := readR_any 4 (by decide) 65348 0 rfl (by decide) (by decide) x1 M6.out.px (fun W h => by have := rreg4_any W h; rw [M6.out.ly] at this; exact this)
                          have HZ2 : Hid (Calls Try.prog 18 #[.pointer (some ⟨N, 0, none⟩), .int .i64 65350] x1 fun e w' => e = .returned (.int .i64 255) ∧ w' = x1) := readR_any 6 (by decide) 65350 255 rfl (by decide) (by decide) x1 M6.out.px (fun W h => rreg6_any W)
                          have HZ3 : Hid (Calls Try.prog 18 #[.pointer (some ⟨N, 0, none⟩), .int .i64 65184] x1 fun e w' => e = .returned (.int .i64 255) ∧ w' = x1) := readM_any 65184 255 (off_mode M6.out.off _) (isR_no (by decide)) x1 M6.out.px (fun W _ => memN_any 65184 (by decide) (by decide) W)
                          have HZ4 : Hid (Calls Try.prog 18 #[.pointer (some ⟨N, 0, none⟩), .int .i64 40960] x1 fun e w' => e = .returned (.int .i64 255) ∧ w' = x1) := readM_any 40960 255 (off_mode M6.out.off _) (isR_no (by decide)) x1 M6.out.px (fun W _ => memN_any 40960 (by decide) (by decide) W)
                          have HZ5 : Hid (Calls Try.prog 19 #[.pointer (some ⟨N, 0, none⟩), .int .i64 65344] x1 fun e w' => e = .returned (.int .i64 255) ∧ w' = x1) := memN_any 65344 (by decide) (by decide) x1
                          clear y1 G1 M5 R5
                          go_wp2_with fail
                          refine Calls.mono HZ1.out ?_
                          rintro e w' ⟨rfl, hw'⟩
                          obtain rfl := hw'.symm
                          go_wp2_with fail
                          refine Calls.mono HZ2.out ?_
                          rintro e w' ⟨rfl, hw'⟩
                          obtain rfl := hw'.symm
                          go_wp2_with fail
                          refine Calls.mono HZ3.out ?_
                          rintro e w' ⟨rfl, hw'⟩
                          obtain rfl := hw'.symm
                          go_wp2_with fail
                          refine Calls.mono HZ4.out ?_
                          rintro e w' ⟨rfl, hw'⟩
                          obtain rfl := hw'.symm
                          go_wp2_with fail
                          refine Calls.mono HZ5.out ?_
                          rintro e w' ⟨rfl, hw'⟩
                          obtain rfl := hw'.symm
                          go_wp2_with fail
                          go_ret
                          exact ⟨by first | rfl | exact retB (by simp), M6.out.up⟩
                      · have d1 : decide ((j : Int) < 8) = false := decide_eq_false (by omega)
                        go_wp2_with fail
                        refine (writeR_any 4 (by decide) 65348 77 rfl wr M5.out.px (fun W h => wreg4_any _ W h)).mono ?_
                        rintro e x1 ⟨rfl, y1, G1⟩
                        have M6 : Hid _ := M5.out.same y1 G1
                        have HZ1 : Hid (Calls Try.prog 18 #[.pointer (some ⟨N, 0, none⟩), .int .i64 65348] x1 fun e w' => e = .returned (.int .i64 0) ∧ w' = x1) := readR_any 4 (by decide) 65348 0 rfl (by decide) (by decide) x1 M6.out.px (fun W h => by have := rreg4_any W h; rw [M6.out.ly] at this; exact this)
                        have HZ2 : Hid (Calls Try.prog 18 #[.pointer (some ⟨N, 0, none⟩), .int .i64 65350] x1 fun e w' => e = .returned (.int .i64 255) ∧ w' = x1) := readR_any 6 (by decide) 65350 255 rfl (by decide) (by decide) x1 M6.out.px (fun W h => rreg6_any W)
                        have HZ3 : Hid (Calls Try.prog 18 #[.pointer (some ⟨N, 0, none⟩), .int .i64 65184] x1 fun e w' => e = .returned (.int .i64 255) ∧ w' = x1) := readM_any 65184 255 (off_mode M6.out.off _) (isR_no (by decide)) x1 M6.out.px (fun W _ => memN_any 65184 (by decide) (by decide) W)
                        have HZ4 : Hid (Calls Try.prog 18 #[.pointer (some ⟨N, 0, none⟩), .int .i64 40960] x1 fun e w' => e = .returned (.int .i64 255) ∧ w' = x1) := readM_any 40960 255 (off_mode M6.out.off _) (isR_no (by decide)) x1 M6.out.px (fun W _ => memN_any 40960 (by decide) (by decide) W)
                        have HZ5 : Hid (Calls Try.prog 19 #[.pointer (some ⟨N, 0, none⟩), .int .i64 65344] x1 fun e w' => e = .returned (.int .i64 255) ∧ w' = x1) := memN_any 65344 (by decide) (by decide) x1
                        clear y1 G1 M5 R5
                        go_wp2_with fail
                        refine Calls.mono HZ1.out ?_
                        rintro e w' ⟨rfl, hw'⟩
                        obtain rfl := hw'.symm
                        go_wp2_with fail
                        refine Calls.mono HZ2.out ?_
                        rintro e w' ⟨rfl, hw'⟩
                        obtain rfl := hw'.symm
                        go_wp2_with fail
                        refine Calls.mono HZ3.out ?_
                        rintro e w' ⟨rfl, hw'⟩
                        obtain rfl := hw'.symm
                        go_wp2_with fail
                        refine Calls.mono HZ4.out ?_
                        rintro e w' ⟨rfl, hw'⟩
                        obtain rfl := hw'.symm
                        go_wp2_with fail
                        refine Calls.mono HZ5.out ?_
                        rintro e w' ⟨rfl, hw'⟩
                        obtain rfl := hw'.symm
                        go_wp2_with fail
                        go_ret
                        exact ⟨by first | rfl | exact retB (by simp), M6.out.up⟩
    · have d1 : decide ((i : Int) < (alen : Int)) = false := decide_eq_false (by omega)
      go_wp2_with fail
      clear d1 hl hi hi2
      go_loopw [12] (fun I wr => ∃ (j : Nat), j ≤ 8192 ∧ I = .int .i64 j ∧ Hid (Mb W N gv go p wr)) (fun I _ => 8192 - (intOf I).toNat)
      case atStart => exact ⟨0, by omega, rfl, M⟩
      case round =>
        clear M
        obtain ⟨j, hj, rfl, M⟩ := hrel
        by_cases hl : j < 8192
        · have d1 : decide ((j : Int) < 8192) = true := decide_eq_true (by omega)
          have e1 : (j : Int) < 8192 := by omega
          have kv := M.out.rv.cell j hl
          have v0 := (M.out.inn.vr j).1
          have v1 := (M.out.inn.vr j).2
          have HR : Hid (∀ n, Calls Try.prog 18 #[.pointer (some ⟨N, 0, none⟩), .int .i64 (32768 + (j : Int))] (wr.drewN n) fun e w' => e = .returned (.int .i64 (p.vr j)) ∧ w' = wr.drewN n) := fun n => (M.out.more (Up.drewN wr n)).readV j hl
          have HMm : Hid (∀ n, Calls Try.prog 19 #[.pointer (some ⟨N, 0, none⟩), .int .i64 (32768 + (j : Int))] (wr.drewN n) fun e w' => e = .returned (.int .i64 (p.vr j)) ∧ w' = wr.drewN n) := fun n => memV_any M.out.inn j hl _ rfl _ (M.out.more (Up.drewN wr n)).px
          have ne : (p.vr j != p.vr j) = false := by simp
          go_wp2_with fail
          try dsimp only [List.append]
          go_quiet (first | (go_at_call 18; exact Calls.quiet_of_same (HR.out _)) | (go_at_call 19; exact Calls.quiet_of_same (HMm.out _)))
          go_wp2_with fail
          refine ⟨⟨j + 1, by omega, rfl, M.out.more (by first | exact Up.drewN wr _ | exact Up.refl wr)⟩, ?_⟩
          simp [intOf]
          omega
        · have d1 : decide ((j : Int) < 8192) = false := decide_eq_false (by omega)
          clear hl hj
          go_wp2_with fail
          clear d1
          go_loopw [13] (fun I wr => ∃ (j : Nat), j ≤ 160 ∧ I = .int .i64 j ∧ Hid (Mb W N gv go p wr)) (fun I _ => 160 - (intOf I).toNat)
          case atStart => exact ⟨0, by omega, rfl, M⟩
          case round =>
            clear M
            obtain ⟨j, hj, rfl, M⟩ := hrel
            by_cases hl : j < 160
            · have d1 : decide ((j : Int) < 160) = true := decide_eq_true (by omega)
              have e1 : (j : Int) < 160 := by omega
              have kv := M.out.ro.cell j hl
              have v0 := (M.out.inn.oa j).1
              have v1 := (M.out.inn.oa j).2
              have HR : Hid (∀ n, Calls Try.prog 18 #[.pointer (some ⟨N, 0, none⟩), .int .i64 (65024 + (j : Int))] (wr.drewN n) fun e w' => e = .returned (.int .i64 (p.oa j)) ∧ w' = wr.drewN n) := fun n => (M.out.more (Up.drewN wr n)).readO j hl
              have HMm : Hid (∀ n, Calls Try.prog 19 #[.pointer (some ⟨N, 0, none⟩), .int .i64 (65024 + (j : Int))] (wr.drewN n) fun e w' => e = .returned (.int .i64 (p.oa j)) ∧ w' = wr.drewN n) := fun n => memO_any M.out.inn j hl _ rfl _ (M.out.more (Up.drewN wr n)).px
              have ne : (p.oa j != p.oa j) = false := by simp
              go_wp2_with fail
              try dsimp only [List.append]
              go_quiet (first | (go_at_call 18; exact Calls.quiet_of_same (HR.out _)) | (go_at_call 19; exact Calls.quiet_of_same (HMm.out _)))
              go_wp2_with fail
              refine ⟨⟨j + 1, by omega, rfl, M.out.more (by first | exact Up.drewN wr _ | exact Up.refl wr)⟩, ?_⟩
              simp [intOf]
              omega
            · have d1 : decide ((j : Int) < 160) = false := decide_eq_false (by omega)
              clear hl hj
              go_wp2_with fail
              clear d1
              have u8 := (Up.refl wr).alloc (Obj.cells #[Value.int IntKind.i64 65346, Value.int IntKind.i64 65347, Value.int IntKind.i64 65349, Value.int IntKind.i64 65351, Value.int IntKind.i64 65352, Value.int IntKind.i64 65353, Value.int IntKind.i64 65354, Value.int IntKind.i64 65355] 3)
              have r8 : RL wr.heap.size (wr.alloc (Obj.cells #[Value.int IntKind.i64 65346, Value.int IntKind.i64 65347, Value.int IntKind.i64 65349, Value.int IntKind.i64 65351, Value.int IntKind.i64 65352, Value.int IntKind.i64 65353, Value.int IntKind.i64 65354, Value.int IntKind.i64 65355] 3)) := fun j hj => by
                rw [cell_of_row _ _ _ _ _ _ (heap_alloc_new wr _)]
                rcases case8 hj with rfl | rfl | rfl | rfl | rfl | rfl | rfl | rfl <;> rfl
              have hgl : wr.heap.size ≠ N := by have := M.out.px.lt; omega
              generalize World.alloc wr _ = w8 at u8 r8 ⊢
              have M8 : Hid _ := M.out.more u8
              have R8 : Hid _ := r8
              generalize wr.heap.size = gl at *
              clear M r8 u8
              go_loopw [15] (fun I w => ∃ (i : Nat) (q : Pic), i ≤ 8 ∧ i ≤ clen ∧ I = .int .i64 i ∧ Hid (Mb W N gv go q w) ∧ Hid (RL gl w) ∧ Hid (∀ j, j < i → q.rg (ridx j) = cutB (k j))) (fun I _ => 8 - (intOf I).toNat)
              case atStart => exact ⟨0, p, by omega, by omega, rfl, M8, R8, fun j hj => by omega⟩
              case round =>
                clear M8 R8
                obtain ⟨i4, q, hj1, hj2, rfl, M4, R4, HQ⟩ := hrel
                by_cases hA : i4 < 8
                · by_cases hB : i4 < clen
                  · have d1 : decide ((i4 : Int) < 8) = true := decide_eq_true (by omega)
                    have d2 : decide ((i4 : Int) < (clen : Int)) = true := decide_eq_true (by omega)
                    have e1 : (i4 : Int) < 8 := by omega
                    have e2 : (i4 : Int) < (clen : Int) := by omega
                    have hC := HC.out.up M4.out.up
                    obtain rfl := hC.ad (by omega)
                    have k1 := hC.cell i4 hB
                    have k0 := R4.out i4 hA
                    have HL2 : Hid (∀ w', Up W w' → w'.cell? ⟨cb, co + i4, none⟩ = some (.int .i64 (k i4))) := fun w' u => (HC.out.up u).cell i4 hB
                    have rn := ridx_ne hA
                    have HW : Hid (∀ W, PxAt W N q → Calls Try.prog 16 #[.pointer (some ⟨N, 0, none⟩), .int .i64 (65344 + (ridx i4 : Int)), .int .i64 (k i4)] W fun e w' => e = .returned (.tuple #[]) ∧ PxAt w' N (q.setR (ridx i4) (cutB (k i4))) ∧ Fr N W w') := fun W h => writeReg (k i4) i4 hA W h
                    have HQ2 : Hid (∀ j, j < i4 + 1 → (q.setR (ridx i4) (cutB (k i4))).rg (ridx j) = cutB (k j)) := fun j hj => by
                      show (if ridx j = ridx i4 then cutB (k i4) else q.rg (ridx j)) = cutB (k j)
                      by_cases e : ridx j = ridx i4
                      · rw [if_pos e, ridx_inj (by omega) hA e]
                      · rw [if_neg e]
                        exact HQ.out j (by
                          by_cases e' : j = i4
                          · rw [e'] at e; exact absurd rfl e
                          · omega)
                    have HSame : Hid (65344 + (ridx i4 : Int) = 65344 + (ridx i4 : Int)) := rfl
                    generalize hAD : (65344 + (ridx i4 : Int)) = AD at k0 HW
                    have HAD : Hid _ := hAD
                    clear hC HSame hAD
                    go_wp2_with fail
                    try dsimp only [List.append]
                    refine wp_region_held_drew (S := fun w' => w'.cell? ⟨gl, i4, none⟩ = some (.int .i64 AD) ∧ w'.cell? ⟨cb, co + i4, none⟩ = some (.int .i64 (k i4))) (by kernel_rfl) ?_ (fun hHeld => ?_)
                    · exact ⟨k0, k1⟩
                    refine wpAnyH_take (i := 0) (v := ?_) (by simp only [List.getElem?_toArray, List.getElem?_cons_zero]; rfl) (by kernel_rfl) (by kernel_rfl) (by kernel_rfl) (by intro _ _ _ h; exact h) (Or.inl ⟨by rfl, ?_⟩) (by assumption) ?_
                    rotate_left
                    · (intro w hSw; (try dsimp only at hSw); go_simp <;> with_reducible rfl)
                    try simp only [Act.put, List.setIfInBounds_toArray, List.set_cons_zero, List.set_cons_succ]
                    refine wpAnyH_take (i := 1) (v := ?_) (by simp only [List.getElem?_toArray, List.getElem?_cons_succ, List.getElem?_cons_zero]; rfl) (by kernel_rfl) (by kernel_rfl) (by kernel_rfl) (by intro _ _ _ h; exact h) (Or.inl ⟨by rfl, ?_⟩) (by assumption) ?_
                    rotate_left
                    · (intro w hSw; (try dsimp only at hSw); go_simp <;> with_reducible rfl)
                    try simp only [Act.put, List.setIfInBounds_toArray, List.set_cons_zero, List.set_cons_succ]
                    refine wpAnyH_take (i := 2) (v := ?_) (by simp only [List.getElem?_toArray, List.getElem?_cons_succ, List.getElem?_cons_zero]; rfl) (by kernel_rfl) (by kernel_rfl) (by kernel_rfl) (by intro _ _ _ h; exact h) (Or.inl ⟨by rfl, ?_⟩) (by assumption) ?_
                    rotate_left
                    · (intro w hSw; (try dsimp only at hSw); go_simp <;> with_reducible rfl)
                    try simp only [Act.put, List.setIfInBounds_toArray, List.set_cons_zero, List.set_cons_succ]
                    refine wpAnyH_take (i := 3) (v := ?_) (by simp only [List.getElem?_toArray, List.getElem?_cons_succ, List.getElem?_cons_zero]; rfl) (by kernel_rfl) (by kernel_rfl) (by kernel_rfl) (by intro _ _ _ h; exact h) (Or.inl ⟨by rfl, ?_⟩) (by assumption) ?_
                    rotate_left
                    · (intro w hSw; (try dsimp only at hSw); go_simp <;> with_reducible rfl)
                    try simp only [Act.put, List.setIfInBounds_toArray, List.set_cons_zero, List.set_cons_succ]
                    refine wpAnyH_take (i := 4) (v := ?_) (by simp only [List.getElem?_toArray, List.getElem?_cons_succ, List.getElem?_cons_zero]; rfl) (by kernel_rfl) (by kernel_rfl) (by kernel_rfl) (by intro _ _ _ h; exact h) (Or.inl ⟨by rfl, ?_⟩) (by assumption) ?_
                    rotate_left
                    · (intro w hSw; (try dsimp only at hSw); go_simp <;> with_reducible rfl)
                    try simp only [Act.put, List.setIfInBounds_toArray, List.set_cons_zero, List.set_cons_succ]
                    refine wpAnyH_take (i := 5) (v := ?_) (by simp only [List.getElem?_toArray, List.getElem?_cons_succ, List.getElem?_cons_zero]; rfl) (by kernel_rfl) (by kernel_rfl) (by kernel_rfl) (by intro _ _ _ h; exact h) (Or.inl ⟨by rfl, ?_⟩) (by assumption) ?_
                    rotate_left
                    · (intro w hSw; (try dsimp only at hSw); go_simp <;> with_reducible rfl)
                    try simp only [Act.put, List.setIfInBounds_toArray, List.set_cons_zero, List.set_cons_succ]
                    refine wpAnyH_take (i := 6) (v := ?_) (by simp only [List.getElem?_toArray, List.getElem?_cons_succ, List.getElem?_cons_zero]; rfl) (by kernel_rfl) (by kernel_rfl) (by kernel_rfl) (by intro _ _ _ h; exact h) (Or.inl ⟨by rfl, ?_⟩) (by assumption) ?_
                    rotate_left
                    · (intro w hSw; (try dsimp only at hSw); go_simp <;> with_reducible rfl)
                    try simp only [Act.put, List.setIfInBounds_toArray, List.set_cons_zero, List.set_cons_succ]
                    refine wpAnyH_take (i := 7) (v := ?_) (by simp only [List.getElem?_toArray, List.getElem?_cons_succ, List.getElem?_cons_zero]; rfl) (by kernel_rfl) (by kernel_rfl) (by kernel_rfl) (by intro _ _ _ h; exact h) (Or.inl ⟨by rfl, ?_⟩) (by assumption) ?_
                    rotate_left
                    · (intro w hSw; (try dsimp only at hSw); go_simp <;> with_reducible rfl)
                    try simp only [Act.put, List.setIfInBounds_toArray, List.set_cons_zero, List.set_cons_succ]
                    refine wpAnyH_take (i := 8) (v := ?_) (by simp only [List.getElem?_toArray, List.getElem?_cons_succ, List.getElem?_cons_zero]; rfl) (by kernel_rfl) (by kernel_rfl) (by kernel_rfl) (by intro _ _ _ h; exact h) (Or.inl ⟨by rfl, ?_⟩) (by assumption) ?_
                    rotate_left
                    · (intro w hSw; (try dsimp only at hSw); go_simp <;> with_reducible rfl)
                    try simp only [Act.put, List.setIfInBounds_toArray, List.set_cons_zero, List.set_cons_succ]
                    refine wpAnyH_ready (rs := [9]) (by kernel_rfl) (by simp) ?_
                    refine AllReadyH.cons (by simp only [List.getElem?_toArray, List.getElem?_cons_succ, List.getElem?_cons_zero]; rfl) (fun Kq hK => ?_) AllReadyH.nil
                    go_simp
                    refine (HW.out _ (M4.out.more ((Up.refl wr).drew)).px).mono ?_
                    rintro e w9 ⟨rfl, h9, F9⟩
                    have M9 : Hid _ := (M4.out.more ((Up.refl wr).drew)).wroteR (ridx i4) rn.1 rn.2 _ (cutB_b _) h9 F9
                    have R9 : Hid _ := (R4.out.up ((Up.refl wr).drew)).fr F9 hgl
                    have kk := R9.out i4 hA
                    rw [HAD.out] at kk
                    refine hK.out _ _ ⟨kk, HL2.out _ M9.out.up⟩ (fun _ => ?_)
                    clear hK Kq h9 F9 kk
                    try simp only [Act.put, List.setIfInBounds_toArray, List.set_cons_zero, List.set_cons_succ]
                    refine wpAnyH_done (by kernel_rfl) ?_ _
                    clear hHeld k0 k1 HW HL2 M4 R4
                    go_wp2_with fail
                    refine ⟨⟨i4 + 1, _, by omega, by omega, rfl, M9, R9, HQ2⟩, ?_⟩
                    simp [intOf]
                    omega
                  · have d1 : decide ((i4 : Int) < 8) = true := decide_eq_true (by omega)
                    have d2 : decide ((i4 : Int) < (clen : Int)) = false := decide_eq_false (by omega)
                    go_wp2_with fail
                    clear d1 d2
                    go_loopw [16] (fun I w => ∃ (j : Nat), j ≤ 8 ∧ j ≤ clen ∧ I = .int .i64 j ∧ Hid (Mb W N gv go q w) ∧ Hid (RL gl w)) (fun I _ => 8 - (intOf I).toNat)
                    case atStart => exact ⟨0, by omega, by omega, rfl, M4, R4⟩
                    case round =>
                      clear M4 R4
                      obtain ⟨j, hj1, hj2, rfl, M5, R5⟩ := hrel
                      by_cases hA : j < 8
                      · by_cases hB : j < clen
                        · have d1 : decide ((j : Int) < 8) = true := decide_eq_true (by omega)
                          have d2 : decide ((j : Int) < (clen : Int)) = true := decide_eq_true (by omega)
                          have e1 : (j : Int) < 8 := by omega
                          have e2 : (j : Int) < (clen : Int) := by omega
                          have hq : q.rg (ridx j) = cutB (k j) := HQ.out j (by omega)
                          have hC := HC.out.up M5.out.up
                          obtain rfl := hC.ad (by omega)
                          have k1 := hC.cell j hB
                          have k0 := R5.out j hA
                          have HR : Hid (∀ n, Calls Try.prog 18 #[.pointer (some ⟨N, 0, none⟩), .int .i64 (65344 + (ridx j : Int))] (wr.drewN n) fun e w' => e = .returned (.int .i64 (cutB (k j))) ∧ w' = wr.drewN n) := fun n => by have := readReg M5.out.inn j hA (wr.drewN n) (M5.out.more (Up.drewN wr n)).px; rw [hq] at this; exact this
                          have b0 := (cutB_b (k j)).1
                          have b1 := (cutB_b (k j)).2
                          have hw := wrapB (k j)
                          generalize (65344 + (ridx j : Int)) = AD at *
                          generalize cutB (k j) = CC at *
                          have ne : (CC != CC) = false := by simp
                          clear hC hq
                          go_wp2_with fail
                          try dsimp only [List.append]
                          go_quiet (first | (go_at_call 18; exact Calls.quiet_of_same (HR.out _)))
                          go_wp2_with fail
                          refine ⟨⟨j + 1, by omega, by omega, rfl, M5.out.more (by first | exact Up.drewN wr _ | exact Up.refl wr), R5.out.up (by first | exact Up.drewN wr _ | exact Up.refl wr)⟩, ?_⟩
                          simp [intOf]
                          omega
                        · have d1 : decide ((j : Int) < 8) = true := decide_eq_true (by omega)
                          have d2 : decide ((j : Int) < (clen : Int)) = false := decide_eq_false (by omega)
                          go_wp2_with fail
                          refine (writeR_any 4 (by decide) 65348 77 rfl wr M5.out.px (fun W h => wreg4_any _ W h)).mono ?_
                          rintro e x1 ⟨rfl, y1, G1⟩
                          have M6 : Hid _ := M5.out.same y1 G1
                          have HZ1 : Hid (Calls Try.prog 18 #[.pointer (some ⟨N, 0, none⟩), .int .i64 65348] x1 fun e w' => e = .returned (.int .i64 0) ∧ w' = x1) := readR_any 4 (by decide) 65348 0 rfl (by decide) (by decide) x1 M6.out.px (fun W h => by have := rreg4_any W h; rw [M6.out.ly] at this; exact this)
                          have HZ2 : Hid (Calls Try.prog 18 #[.pointer (some ⟨N, 0, none⟩), .int .i64 65350] x1 fun e w' => e = .returned (.int .i64 255) ∧ w' = x1) := readR_any 6 (by decide) 65350 255 rfl (by decide) (by decide) x1 M6.out.px (fun W h => rreg6_any W)
                          have HZ3 : Hid (Calls Try.prog 18 #[.pointer (some ⟨N, 0, none⟩), .int .i64 65184] x1 fun e w' => e = .returned (.int .i64 255) ∧ w' = x1) := readM_any 65184 255 (off_mode M6.out.off _) (isR_no (by decide)) x1 M6.out.px (fun W _ => memN_any 65184 (by decide) (by decide) W)
                          have HZ4 : Hid (Calls Try.prog 18 #[.pointer (some ⟨N, 0, none⟩), .int .i64 40960] x1 fun e w' => e = .returned (.int .i64 255) ∧ w' = x1) := readM_any 40960 255 (off_mode M6.out.off _) (isR_no (by decide)) x1 M6.out.px (fun W _ => memN_any 40960 (by decide) (by decide) W)
                          have HZ5 : Hid (Calls Try.prog 19 #[.pointer (some ⟨N, 0, none⟩), .int .i64 65344] x1 fun e w' => e = .returned (.int .i64 255) ∧ w' = x1) := memN_any 65344 (by decide) (by decide) x1
                          clear y1 G1 M5 R5
                          go_wp2_with fail
                          refine Calls.mono HZ1.out ?_
                          rintro e w' ⟨rfl, hw'⟩
                          obtain rfl := hw'.symm
                          go_wp2_with fail
                          refine Calls.mono HZ2.out ?_
                          rintro e w' ⟨rfl, hw'⟩
                          obtain rfl := hw'.symm
                          go_wp2_with fail
                          refine Calls.mono HZ3.out ?_
                          rintro e w' ⟨rfl, hw'⟩
                          obtain rfl := hw'.symm
                          go_wp2_with fail
                          refine Calls.mono HZ4.out ?_
                          rintro e w' ⟨rfl, hw'⟩
                          obtain rfl := hw'.symm
                          go_wp2_with fail
                          refine Calls.mono HZ5.out ?_
                          rintro e w' ⟨rfl, hw'⟩
                          obtain rfl := hw'.symm
                          go_wp2_with fail
                          go_ret
                          exact ⟨by first | rfl | exact retB (by simp), M6.out.up⟩
                      · have d1 : decide ((j : Int) < 8) = false := decide_eq_false (by omega)
                        go_wp2_with fail
                        refine (writeR_any 4 (by decide) 65348 77 rfl wr M5.out.px (fun W h => wreg4_any _ W h)).mono ?_
                        rintro e x1 ⟨rfl, y1, G1⟩
                        have M6 : Hid _ := M5.out.same y1 G1
                        have HZ1 : Hid (Calls Try.prog 18 #[.pointer (some ⟨N, 0, none⟩), .int .i64 65348] x1 fun e w' => e = .returned (.int .i64 0) ∧ w' = x1) := readR_any 4 (by decide) 65348 0 rfl (by decide) (by decide) x1 M6.out.px (fun W h => by have := rreg4_any W h; rw [M6.out.ly] at this; exact this)
                        have HZ2 : Hid (Calls Try.prog 18 #[.pointer (some ⟨N, 0, none⟩), .int .i64 65350] x1 fun e w' => e = .returned (.int .i64 255) ∧ w' = x1) := readR_any 6 (by decide) 65350 255 rfl (by decide) (by decide) x1 M6.out.px (fun W h => rreg6_any W)
                        have HZ3 : Hid (Calls Try.prog 18 #[.pointer (some ⟨N, 0, none⟩), .int .i64 65184] x1 fun e w' => e = .returned (.int .i64 255) ∧ w' = x1) := readM_any 65184 255 (off_mode M6.out.off _) (isR_no (by decide)) x1 M6.out.px (fun W _ => memN_any 65184 (by decide) (by decide) W)
                        have HZ4 : Hid (Calls Try.prog 18 #[.pointer (some ⟨N, 0, none⟩), .int .i64 40960] x1 fun e w' => e = .returned (.int .i64 255) ∧ w' = x1) := readM_any 40960 255 (off_mode M6.out.off _) (isR_no (by decide)) x1 M6.out.px (fun W _ => memN_any 40960 (by decide) (by decide) W)
                        have HZ5 : Hid (Calls Try.prog 19 #[.pointer (some ⟨N, 0, none⟩), .int .i64 65344] x1 fun e w' => e = .returned (.int .i64 255) ∧ w' = x1) := memN_any 65344 (by decide) (by decide) x1
                        clear y1 G1 M5 R5
                        go_wp2_with fail
                        refine Calls.mono HZ1.out ?_
                        rintro e w' ⟨rfl, hw'⟩
                        obtain rfl := hw'.symm
                        go_wp2_with fail
                        refine Calls.mono HZ2.out ?_
                        rintro e w' ⟨rfl, hw'⟩
                        obtain rfl := hw'.symm
                        go_wp2_with fail
                        refine Calls.mono HZ3.out ?_
                        rintro e w' ⟨rfl, hw'⟩
                        obtain rfl := hw'.symm
                        go_wp2_with fail
                        refine Calls.mono HZ4.out ?_
                        rintro e w' ⟨rfl, hw'⟩
                        obtain rfl := hw'.symm
                        go_wp2_with fail
                        refine Calls.mono HZ5.out ?_
                        rintro e w' ⟨rfl, hw'⟩
                        obtain rfl := hw'.symm
                        go_wp2_with fail
                        go_ret
                        exact ⟨by first | rfl | exact retB (by simp), M6.out.up⟩
                · have d1 : decide ((i4 : Int) < 8) = false := decide_eq_false (by omega)
                  go_wp2_with fail
                  clear d1
                  go_loopw [16] (fun I w => ∃ (j : Nat), j ≤ 8 ∧ j ≤ clen ∧ I = .int .i64 j ∧ Hid (Mb W N gv go q w) ∧ Hid (RL gl w)) (fun I _ => 8 - (intOf I).toNat)
                  case atStart => exact ⟨0, by omega, by omega, rfl, M4, R4⟩
                  case round =>
                    clear M4 R4
                    obtain ⟨j, hj1, hj2, rfl, M5, R5⟩ := hrel
                    by_cases hA : j < 8
                    · by_cases hB : j < clen
                      · have d1 : decide ((j : Int) < 8) = true := decide_eq_true (by omega)
                        have d2 : decide ((j : Int) < (clen : Int)) = true := decide_eq_true (by omega)
                        have e1 : (j : Int) < 8 := by omega
                        have e2 : (j : Int) < (clen : Int) := by omega
                        have hq : q.rg (ridx j) = cutB (k j) := HQ.out j (by omega)
                        have hC := HC.out.up M5.out.up
                        obtain rfl := hC.ad (by omega)
                        have k1 := hC.cell j hB
                        have k0 := R5.out j hA
                        have HR : Hid (∀ n, Calls Try.prog 18 #[.pointer (some ⟨N, 0, none⟩), .int .i64 (65344 + (ridx j : Int))] (wr.drewN n) fun e w' => e = .returned (.int .i64 (cutB (k j))) ∧ w' = wr.drewN n) := fun n => by have := readReg M5.out.inn j hA (wr.drewN n) (M5.out.more (Up.drewN wr n)).px; rw [hq] at this; exact this
                        have b0 := (cutB_b (k j)).1
                        have b1 := (cutB_b (k j)).2
                        have hw := wrapB (k j)
                        generalize (65344 + (ridx j : Int)) = AD at *
                        generalize cutB (k j) = CC at *
                        have ne : (CC != CC) = false := by simp
                        clear hC hq
                        go_wp2_with fail
                        try dsimp only [List.append]
                        go_quiet (first | (go_at_call 18; exact Calls.quiet_of_same (HR.out _)))
                        go_wp2_with fail
                        refine ⟨⟨j + 1, by omega, by omega, rfl, M5.out.more (by first | exact Up.drewN wr _ | exact Up.refl wr), R5.out.up (by first | exact Up.drewN wr _ | exact Up.refl wr)⟩, ?_⟩
                        simp [intOf]
                        omega
                      · have d1 : decide ((j : Int) < 8) = true := decide_eq_true (by omega)
                        have d2 : decide ((j : Int) < (clen : Int)) = false := decide_eq_false (by omega)
                        go_wp2_with fail
                        refine (writeR_any 4 (by decide) 65348 77 rfl wr M5.out.px (fun W h => wreg4_any _ W h)).mono ?_
                        rintro e x1 ⟨rfl, y1, G1⟩
                        have M6 : Hid _ := M5.out.same y1 G1
                        have HZ1 : Hid (Calls Try.prog 18 #[.pointer (some ⟨N, 0, none⟩), .int .i64 65348] x1 fun e w' => e = .returned (.int .i64 0) ∧ w' = x1) := readR_any 4 (by decide) 65348 0 rfl (by decide) (by decide) x1 M6.out.px (fun W h => by have := rreg4_any W h; rw [M6.out.ly] at this; exact this)
                        have HZ2 : Hid (Calls Try.prog 18 #[.pointer (some ⟨N, 0, none⟩), .int .i64 65350] x1 fun e w' => e = .returned (.int .i64 255) ∧ w' = x1) := readR_any 6 (by decide) 65350 255 rfl (by decide) (by decide) x1 M6.out.px (fun W h => rreg6_any W)
                        have HZ3 : Hid (Calls Try.prog 18 #[.pointer (some ⟨N, 0, none⟩), .int .i64 65184] x1 fun e w' => e = .returned (.int .i64 255) ∧ w' = x1) := readM_any 65184 255 (off_mode M6.out.off _) (isR_no (by decide)) x1 M6.out.px (fun W _ => memN_any 65184 (by decide) (by decide) W)
                        have HZ4 : Hid (Calls Try.prog 18 #[.pointer (some ⟨N, 0, none⟩), .int .i64 40960] x1 fun e w' => e = .returned (.int .i64 255) ∧ w' = x1) := readM_any 40960 255 (off_mode M6.out.off _) (isR_no (by decide)) x1 M6.out.px (fun W _ => memN_any 40960 (by decide) (by decide) W)
                        have HZ5 : Hid (Calls Try.prog 19 #[.pointer (some ⟨N, 0, none⟩), .int .i64 65344] x1 fun e w' => e = .returned (.int .i64 255) ∧ w' = x1) := memN_any 65344 (by decide) (by decide) x1
                        clear y1 G1 M5 R5
                        go_wp2_with fail
                        refine Calls.mono HZ1.out ?_
                        rintro e w' ⟨rfl, hw'⟩
                        obtain rfl := hw'.symm
                        go_wp2_with fail
                        refine Calls.mono HZ2.out ?_
                        rintro e w' ⟨rfl, hw'⟩
                        obtain rfl := hw'.symm
                        go_wp2_with fail
                        refine Calls.mono HZ3.out ?_
                        rintro e w' ⟨rfl, hw'⟩
                        obtain rfl := hw'.symm
                        go_wp2_with fail
                        refine Calls.mono HZ4.out ?_
                        rintro e w' ⟨rfl, hw'⟩
                        obtain rfl := hw'.symm
                        go_wp2_with fail
                        refine Calls.mono HZ5.out ?_
                        rintro e w' ⟨rfl, hw'⟩
                        obtain rfl := hw'.symm
                        go_wp2_with fail
                        go_ret
                        exact ⟨by first | rfl | exact retB (by simp), M6.out.up⟩
                    · have d1 : decide ((j : Int) < 8) = false := decide_eq_false (by omega)
                      go_wp2_with fail
                      refine (writeR_any 4 (by decide) 65348 77 rfl wr M5.out.px (fun W h => wreg4_any _ W h)).mono ?_
                      rintro e x1 ⟨rfl, y1, G1⟩
                      have M6 : Hid _ := M5.out.same y1 G1
                      have HZ1 : Hid (Calls Try.prog 18 #[.pointer (some ⟨N, 0, none⟩), .int .i64 65348] x1 fun e w' => e = .returned (.int .i64 0) ∧ w' = x1) := readR_any 4 (by decide) 65348 0 rfl (by decide) (by decide) x1 M6.out.px (fun W h => by have := rreg4_any W h; rw [M6.out.ly] at this; exact this)
                      have HZ2 : Hid (Calls Try.prog 18 #[.pointer (some ⟨N, 0, none⟩), .int .i64 65350] x1 fun e w' => e = .returned (.int .i64 255) ∧ w' = x1) := readR_any 6 (by decide) 65350 255 rfl (by decide) (by decide) x1 M6.out.px (fun W h => rreg6_any W)
                      have HZ3 : Hid (Calls Try.prog 18 #[.pointer (some ⟨N, 0, none⟩), .int .i64 65184] x1 fun e w' => e = .returned (.int .i64 255) ∧ w' = x1) := readM_any 65184 255 (off_mode M6.out.off _) (isR_no (by decide)) x1 M6.out.px (fun W _ => memN_any 65184 (by decide) (by decide) W)
                      have HZ4 : Hid (Calls Try.prog 18 #[.pointer (some ⟨N, 0, none⟩), .int .i64 40960] x1 fun e w' => e = .returned (.int .i64 255) ∧ w' = x1) := readM_any 40960 255 (off_mode M6.out.off _) (isR_no (by decide)) x1 M6.out.px (fun W _ => memN_any 40960 (by decide) (by decide) W)
                      have HZ5 : Hid (Calls Try.prog 19 #[.pointer (some ⟨N, 0, none⟩), .int .i64 65344] x1 fun e w' => e = .returned (.int .i64 255) ∧ w' = x1) := memN_any 65344 (by decide) (by decide) x1
                      clear y1 G1 M5 R5
                      go_wp2_with fail
                      refine Calls.mono HZ1.out ?_
                      rintro e w' ⟨rfl, hw'⟩
                      obtain rfl := hw'.symm
                      go_wp2_with fail
                      refine Calls.mono HZ2.out ?_
                      rintro e w' ⟨rfl, hw'⟩
                      obtain rfl := hw'.symm
                      go_wp2_with fail
                      refine Calls.mono HZ3.out ?_
                      rintro e w' ⟨rfl, hw'⟩
                      obtain rfl := hw'.symm
                      go_wp2_with fail
                      refine Calls.mono HZ4.out ?_
                      rintro e w' ⟨rfl, hw'⟩
                      obtain rfl := hw'.symm
                      go_wp2_with fail
                      refine Calls.mono HZ5.out ?_
                      rintro e w' ⟨rfl, hw'⟩
                      obtain rfl := hw'.symm
                      go_wp2_with fail
                      go_ret
                      exact ⟨by first | rfl | exact retB (by simp), M6.out.up⟩
end Go.Proofs.Ytpcagflmckbinaa
