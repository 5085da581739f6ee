/- CpuReckons: the walk. -/
import Derived.Test.YtbfjihcnnefehaaGreatDoorKq
namespace Go.Proofs.YtbfjihcnnefehaaGreatDoor
open Go.RowKit
set_option linter.unusedVariables false
set_option maxRecDepth 100000 in
set_option maxHeartbeats 6000000 in
theorem reck_walk0 (g : Rg) (G : Rg) (op n : Int) (K : Nat) (hK : K < 8) (n0 : 0 ≤ n) (n1 : n ≤ 255) (HO : Hid G.Ok) (HS0 : Hid (G.state = 0))
    (HB : Hid (∀ W, Calls Tryz.prog 14 #[.agg #[.int .i64 g.a, .int .i64 g.f, .int .i64 g.b, .int .i64 g.c, .int .i64 g.d, .int .i64 g.e, .int .i64 g.h, .int .i64 g.l, .int .i64 g.sp, .int .i64 g.pc, .bool g.ime, .int .i64 g.state]] W fun e w' => e = .returned (.agg G.cells) ∧ Up W w'))
    (HI1 : Hid (I64 op)) (HKe : Hid (pickI op 8 = (K : Int))) (w : World) (HLB : Hid (LaidB w)) :
    Calls Tryz.prog 12 #[.agg g.cells, .int .i64 op, .int .u8 n] w fun e w' => e = .returned (.bool true) ∧ Up w w' := by
  have a0 := HO.out.a.1
  have a1 := HO.out.a.2
  have f0 := HO.out.f.1
  have f1 := HO.out.f.2
  have L1 := HO.out.l.1
  have L2 := HO.out.l.2
  have hKi : (K : Int) < 8 := by omega
  obtain ⟨A, hA⟩ : ∃ A, A = arR K G.a n G.f := ⟨_, rfl⟩
  obtain ⟨F, hF⟩ : ∃ F, F = arF K G.a n G.f := ⟨_, rfl⟩
  have A0 : 0 ≤ A := by rw [hA]; exact arR_lo _ _ _ _ a0
  have A1 : A ≤ 255 := by rw [hA]; exact arR_hi _ _ _ _ a1
  have F0 : 0 ≤ F := by rw [hF]; exact (arF_b K hK G.a n G.f).1
  have F1 : F ≤ 255 := by rw [hF]; exact (arF_b K hK G.a n G.f).2
  have wA : IntKind.i64.wrap A = A := wj _ (by omega) (by omega)
  have wF : IntKind.i64.wrap F = F := wj _ (by omega) (by omega)
  have HAr : Hid (∀ W, Calls Tryz.prog 33 #[.int .i64 K, .int .u8 G.a, .int .u8 n, .int .u8 G.f] W fun e w' => e = .returned (.tuple #[.int .u8 A, .int .u8 F]) ∧ Up W w') := fun W => by
    rw [hA, hF]
    exact (arith_any K G.a n G.f W a0 a1 n0 n1 f0 f1).mono fun e w' ⟨h1, h2⟩ => ⟨h1, Up.ofGrown h2⟩
  have HAF : Hid (A = arR K G.a n G.f ∧ F = arF K G.a n G.f) := ⟨hA, hF⟩
  clear hA hF
  have o2 : ({ G with b := n, h := 192, pc := 512 } : Rg).Ok := { HO.out with b := (show 0 ≤ n ∧ n ≤ 255 from ⟨n0, n1⟩), h := (show (0 : Int) ≤ 192 ∧ (192 : Int) ≤ 255 by decide), pc := (show (0 : Int) ≤ 512 ∧ (512 : Int) ≤ 65535 by decide) }
  have HSt : Hid (∀ W, Calls Tryz.prog 16 #[.agg #[.int .i64 G.a, .int .i64 G.f, .int .i64 (n), .int .i64 G.c, .int .i64 G.d, .int .i64 G.e, .int .i64 (192), .int .i64 G.l, .int .i64 G.sp, .int .i64 (512), .bool G.ime, .int .i64 G.state]] W fun e w' => ∃ b, e = .returned (.pointer (some ⟨b, 0, none⟩)) ∧ W.heap.size ≤ b ∧ Cp w' b (bd (rgF ({ G with b := n, h := 192, pc := 512 } : Rg)) G.sp 512 G.ime) ∧ Up W w') := fun W => started_ok ({ G with b := n, h := 192, pc := 512 } : Rg) o2 HS0.out W
  have HIv : Hid (bd (rgF ({ G with b := n, h := 192, pc := 512 } : Rg)) G.sp 512 G.ime).Inv := bd_inv ({ G with b := n, h := 192, pc := 512 } : Rg) o2 HS0.out
  clear o2
  rw [show g.cells = #[.int .i64 g.a, .int .i64 g.f, .int .i64 g.b, .int .i64 g.c, .int .i64 g.d, .int .i64 g.e, .int .i64 g.h, .int .i64 g.l, .int .i64 g.sp, .int .i64 g.pc, .bool g.ime, .int .i64 g.state] from rfl]
  go_enter Tryz.func12, Tryz.ntmps12
  go_wp2_with (first
    | (go_at_call 14; refine (HB.out _).mono ?_; rintro e w2 ⟨rfl, hu2⟩
       have u2 : Up w w2 := ((Up.refl w).alloc _).trans hu2
       have HN2 : Hid (∀ o, (w2.alloc o).heap[w2.heap.size]? = some o) := heap_alloc_new w2
       have HX2 : Hid _ := rgNew w2 G
       clear hu2)
    | (refine wpList_store_rowTo rfl 23 _ _ rfl rfl w2.heap.size G.cells rfl rfl 23 #[.int .i64 0, .int .i64 0, .int .i64 0, .int .i64 0, .int .i64 0, .int .i64 0, .int .i64 0, .int .i64 0, .int .i64 0, .int .i64 0, .bool false, .int .i64 0] (HN2.out _) (by kernel_rfl) rfl (rgOne G) ?_
       generalize hW3 : World.setRow _ _ _ = W3
       obtain ⟨hg3, hu3⟩ := HX2.out W3 _ hW3
       have u3 := u2.trans hu3
       have hl3 : w2.heap.size < W3.heap.size := (Array.getElem?_eq_some_iff.1 hg3).1
       obtain ⟨r0, r1, r2, r3, r4, r5, r6, r7, r8, r9, r10, r11⟩ := regBlock G hg3
       have HG3 : Hid (RgAt W3 w2.heap.size G) := hg3
       have hz3 := u2.size
       have fz9 : W3.frozen? ⟨w2.heap.size, 9, none⟩ = false := by simp [World.frozen?, hg3]
       clear hW3 hu3 hg3 u2 HX2 HN2
       go_wp2_with fail)
    | (go_at_call 15; refine (pick_any _ _ _ HI1.out (by decide) (by decide)).mono ?_; rw [HKe.out]; rintro e w' ⟨rfl, rfl⟩))
  generalize hW4 : World.setCell _ _ _ = W4
  have HS : Hid (Up w W4 ∧ RgAt W4 w2.heap.size { G with pc := 512 }) := by
    rw [← hW4]
    exact ⟨u3.setCell (p := ⟨w2.heap.size, 9, none⟩) hz3 (.int .i64 512), HG3.out.set (H := { G with pc := 512 }) 9 _ rfl⟩
  obtain ⟨p, hp⟩ : ∃ p, p = w2.heap.size := ⟨_, rfl⟩
  have hwp : w.heap.size ≤ p := by omega
  rw [← hp] at HS
  rw [← hp]
  clear hW4 hp r0 r1 r2 r3 r4 r5 r6 r7 r8 r9 r10 r11 fz9 HG3 hl3 hz3 u3 HB
  refine (HAr.out _).mono ?_
  rintro e w5 ⟨rfl, hu5⟩
  have rg5 : RgAt w5 p { G with pc := 512 } := HS.out.2.up hu5
  have up5 : Up w w5 := HS.out.1.trans hu5
  obtain ⟨q0, q1, q2, q3, q4, q5, q6, q7, q8, q9, q10, q11⟩ := regBlock _ rg5
  have fz2 := rg5.fz 2
  have fz6 := rg5.fz 6
  have hl5 := rg5.lt
  have HG5 : Hid (RgAt w5 p { G with pc := 512 }) := rg5
  have HU5 : Hid _ := up5
  clear hu5 rg5 up5
  go_wp2_with fail
  generalize hW6 : World.alloc (World.alloc (World.alloc (World.alloc (World.setCell (World.setCell w5 _ _) _ _) _) _) _) _ = W6
  have HW6 : Hid (Up w W6 ∧ LaidB W6 ∧ RgAt W6 p { G with b := n, h := 192, pc := 512 } ∧ W6.heap.size = w5.heap.size + 1 + 1 + 1 + 1) := by
    have k := four _ W6 _ _ _ _ _ _ _ _ hW6
    have u := (up_set2 HU5.out hwp 2 6 (.int .i64 n) (.int .i64 192)).trans k.2.2.2.2.2
    refine ⟨u, HLB.out.up u, ((HG5.out.set (H := { G with b := n, pc := 512 }) 2 _ rfl).set (H := { G with b := n, h := 192, pc := 512 }) 6 _ rfl).up k.2.2.2.2.2, ?_⟩
    have := k.2.2.2.2.1
    simpa using this
  have HB6 : Hid (byteCells W6 w5.heap.size [198 + 8 * (K : Int), n] ∧ byteCells W6 (w5.heap.size + 1) [128 + 8 * (K : Int)] ∧ byteCells W6 (w5.heap.size + 1 + 1) [134 + 8 * (K : Int)]
      ∧ W6.cell? ⟨w5.heap.size + 1 + 1 + 1, 0, none⟩ = some (.slice (some ⟨w5.heap.size, 0, none⟩) 2 2) ∧ W6.cell? ⟨w5.heap.size + 1 + 1 + 1, 1, none⟩ = some (.slice (some ⟨w5.heap.size + 1, 0, none⟩) 1 1) ∧ W6.cell? ⟨w5.heap.size + 1 + 1 + 1, 2, none⟩ = some (.slice (some ⟨w5.heap.size + 1 + 1, 0, none⟩) 1 1)) := by
    have k := four _ W6 _ _ _ _ _ _ _ _ hW6
    rw [show (World.setCell (World.setCell w5 ⟨p, 2, none⟩ (.int .i64 n)) ⟨p, 6, none⟩ (.int .i64 192)).heap.size = w5.heap.size by simp] at k
    exact ⟨byteCells_of [198 + 8 * (K : Int), n] k.1 rfl, byteCells_of [128 + 8 * (K : Int)] k.2.1 rfl, byteCells_of [134 + 8 * (K : Int)] k.2.2.1 rfl, k.2.2.2.1 0, k.2.2.2.1 1, k.2.2.2.1 2⟩
  obtain ⟨s5, hs5⟩ : ∃ s, s = w5.heap.size := ⟨_, rfl⟩
  rw [← hs5] at HW6 HB6
  rw [← hs5]
  have hps : p < s5 := by omega
  clear hW6 hs5 q0 q1 q2 q3 q4 q5 q6 q7 q8 q9 q10 q11 fz2 fz6 hl5 HG5 HU5
  have hLo : 0 < W6.heap.size := Nat.lt_of_le_of_lt (Nat.zero_le _) HW6.out.2.2.1.lt
  go_loopw [12] (fun I wr => ∃ j : Nat, j ≤ 3 ∧ I = .int .i64 j ∧ Hid (Up W6 wr)) (fun I _ => 3 - (intOf I).toNat)
  case atStart => exact ⟨0, by omega, rfl, Up.refl W6⟩
  case round =>
    obtain ⟨j, hj3, rfl, hS⟩ := hrel
    obtain ⟨q0, q1, q2, q3, q4, q5, q6, q7, q8, q9, q10, q11⟩ := regBlock _ (HW6.out.2.2.1.up hS.out)
    have hj : j = 0 ∨ j = 1 ∨ j = 2 ∨ j = 3 := by omega
    rcases hj with rfl | rfl | rfl | rfl
    · go_wp2_with fail
      refine (HSt.out _).mono ?_
      rintro e w4 ⟨b, rfl, hbs, h4, hu4⟩
      have u4 : Up W6 w4 := hS.out.trans hu4
      have r4 : RgAt w4 p { G with b := n, h := 192, pc := 512 } := HW6.out.2.2.1.up u4
      have hlp : p < w4.heap.size := r4.lt
      have hz4 := u4.size
      have hls : s5 + 1 + 1 + 1 < w4.heap.size := by have := HW6.out.2.2.2; omega
      have cl : w4.cell? ⟨s5 + 1 + 1 + 1, 0, none⟩ = some (.slice (some ⟨s5, 0, none⟩) 2 2) := (u4.cell (by have := HW6.out.2.2.2; omega)).trans HB6.out.2.2.2.1
      have HBc : Hid (byteCells w4 s5 [198 + 8 * (K : Int), n]) := byteCells.up HB6.out.1 u4 (by have := HW6.out.2.2.2; omega)
      clear q0 q1 q2 q3 q4 q5 q6 q7 q8 q9 q10 q11
      obtain ⟨q0, q1, q2, q3, q4, q5, q6, q7, q8, q9, q10, q11⟩ := regBlock _ r4
      have HR4 : Hid (RgAt w4 p { G with b := n, h := 192, pc := 512 } ∧ Cp w4 b (bd (rgF ({ G with b := n, h := 192, pc := 512 } : Rg)) G.sp 512 G.ime) ∧ Up W6 w4 ∧ W6.heap.size ≤ b ∧ p < W6.heap.size) := ⟨r4, h4, u4, Nat.le_trans hS.out.size hbs, HW6.out.2.2.1.lt⟩
      clear r4 h4 hu4 hbs u4 hz4
      go_wp2_with fail
      have hb1 : ∀ x ∈ [198 + 8 * (K : Int), n], (0 : Int) ≤ x ∧ x ≤ 255 := by
        intro x hx
        simp at hx
        rcases hx with rfl | rfl <;> omega
      have hb2 : ∀ x ∈ [n], (0 : Int) ≤ x ∧ x ≤ 255 := by
        intro x hx
        simp at hx
        subst hx; omega
      have k := twoB w4 ((w4.alloc (.cells #[.int .u8 n] 5)).alloc (.cells #[.int .i64 512, .slice (some ⟨s5, 0, none⟩) 2 2, .int .i64 (49152 + G.l), .slice (some ⟨w4.heap.size, 0, none⟩) 1 1] 32)) _ _ _ _ rfl
      have HPc : Hid (Pcs ((w4.alloc (.cells #[.int .u8 n] 5)).alloc (.cells #[.int .i64 512, .slice (some ⟨s5, 0, none⟩) 2 2, .int .i64 (49152 + G.l), .slice (some ⟨w4.heap.size, 0, none⟩) 1 1] 32)) (w4.heap.size + 1) [⟨512, [198 + 8 * (K : Int), n]⟩, ⟨49152 + G.l, [n]⟩]) :=
        pcsAB _ (w4.heap.size + 1) s5 w4.heap.size 512 (49152 + G.l) [198 + 8 * (K : Int), n] [n] (by unfold I64; decide) (by unfold I64; omega) hb1 hb2 (by simp) (by simp) (by have := k.2.2.1; omega) (by have := k.2.2.1; omega) (by have := k.2.2.1; omega)
          (k.2.1 0) (k.2.1 1) (k.2.1 2) (k.2.1 3) (byteCells.up HBc.out k.2.2.2 (by omega)) (byteCells_of [n] k.1 rfl)
      have HUp : Hid _ := k.2.2.2
      have HBy : Hid _ := And.intro hb1 hb2
      clear k hb1 hb2
      have hIh : IntKind.i64.wrap 49152 = 49152 := by decide
      have hIw : IntKind.i64.wrap (49152 + G.l) = 49152 + G.l := wj _ (by omega) (by omega)
      go_region_held3 (fun w' => w'.cell? ⟨s5 + 1 + 1 + 1, 0, none⟩ = some (.slice (some ⟨s5, 0, none⟩) 2 2) ∧ w'.cell? ⟨p, 6, none⟩ = some (.int .i64 192) ∧ w'.cell? ⟨p, 7, none⟩ = some (.int .i64 G.l))
        (first | exact ⟨cl, q6, q7⟩ | trivial | go_keep)
        (first
          | (go_at_call 17; refine (mem_two' (w4.heap.size + 1) 512 [198 + 8 * (K : Int), n] (49152 + G.l) [n] _ (w4.heap.size + 1 + 1) (by simp) (by first | exact HPc.out | exact HPc.out.drew)).mono ?_; rintro e w6 ⟨rfl, m6, hu6⟩
             have u6 : Up w4 w6 := HUp.out.trans ⟨hu6.os, hu6.output, hu6.size, hu6.block⟩
             clear hu6
             have cl := (u6.cell (k := 0) hls).trans cl
             have q6 := (u6.cell (k := 6) hlp).trans q6
             have q7 := (u6.cell (k := 7) hlp).trans q7))
      obtain ⟨hS8, hK8⟩ := bun_mk' (w := W6) HR4.out.2.2.1 HW6.out.2.1 HR4.out.2.1 HR4.out.2.2.2.1 HR4.out.1.lt HR4.out.1 (by have := HR4.out.2.2.2; omega) u6 (by omega) m6
      obtain ⟨hb1, hb2⟩ := HBy.out
      have hfb : Byt (mem2 512 [198 + 8 * (K : Int), n] (49152 + G.l) [n]) := mem2_byt 512 _ _ _ hb1 hb2
      have hf0 : mem2 512 [198 + 8 * (K : Int), n] (49152 + G.l) [n] (512 : Int).toNat = 198 + 8 * (K : Int) := mem2_code [198 + 8 * (K : Int), n] (by simp) _ _ (by omega) (by omega) 0 (by simp)
      have hf1 : mem2 512 [198 + 8 * (K : Int), n] (49152 + G.l) [n] (adr 512 0) = n := mem2_code [198 + 8 * (K : Int), n] (by simp) _ _ (by omega) (by omega) 1 (by simp)
      have hIn := ar_byte (r := rgF ({ G with b := n, h := 192, pc := 512 } : Rg)) (sp := G.sp) (ime := G.ime) K hK hf0 hf1
      have hRu : Hid _ := bun_runs hIn hS8 hK8 HIv.out hfb
      have HIq : Hid _ := (hIn.inv HIv.out hfb).1
      clear q0 q1 q2 q3 q4 q5 q6 q7 q8 q9 q10 q11
      obtain ⟨q0, q1, q2, q3, q4, q5, q6, q7, q8, q9, q10, q11⟩ := regBlock _ hS8.reg
      obtain ⟨gm, hgm⟩ : ∃ g, g = w4.heap.size + 1 + 1 := ⟨_, rfl⟩
      rw [← hgm] at hRu
      rw [← hgm]
      clear hS8 m6 u6 HPc HUp HBy hgm hK8 hf0 hIn hfb hb1 hb2 cl HBc
      go_wp2_with fail
      refine Calls.mono hRu.out ?_
      rintro e w9 ⟨rfl, hS9⟩
      clear q0 q1 q2 q3 q4 q5 q6 q7 q8 q9 q10 q11
      obtain ⟨q0, q1, q2, q3, q4, q5, q6, q7, q8, q9, q10, q11⟩ := regBlock _ hS9.reg
      have HRe : Hid _ := bun_regs hS9 HIq.out
      obtain ⟨T, hT⟩ : ∃ T, T = toRg (bd (arR2 (rgF ({ G with b := n, h := 192, pc := 512 } : Rg)) K (n % 256)) G.sp (pc2 512) G.ime) := ⟨_, rfl⟩
      change Hid (Calls _ _ _ _ fun e w' => e = .returned (.agg (toRg (bd (arR2 (rgF ({ G with b := n, h := 192, pc := 512 } : Rg)) K (n % 256)) G.sp (pc2 512) G.ime)).cells) ∧ _) at HRe
      rw [← hT] at HRe
      have HT : Hid (T.a = A ∧ T.f = F ∧ T.b = n ∧ T.l = G.l ∧ T.sp = G.sp) := by
        rw [hT, HAF.out.1, HAF.out.2, show n % 256 = n by omega]
        exact ⟨rfl, rfl, rfl, rfl, rfl⟩
      clear hS9 hRu hT
      go_wp2_with (first
        | (go_at_call 19; refine Calls.mono (HRe.out) ?_; rintro e w91 ⟨rfl, hS91, hu91⟩
           have HS91 : Hid _ := hS91
           have HN91 : Hid (∀ o, (w91.alloc o).heap[w91.heap.size]? = some o) := heap_alloc_new w91
           have HX91 : Hid _ := rgNew w91 T
           clear hS91 hu91)
        | (refine wpList_store_rowTo rfl 23 _ _ rfl rfl w91.heap.size T.cells rfl rfl 23 #[.int .i64 0, .int .i64 0, .int .i64 0, .int .i64 0, .int .i64 0, .int .i64 0, .int .i64 0, .int .i64 0, .int .i64 0, .int .i64 0, .bool false, .int .i64 0] (HN91.out _) (by kernel_rfl) rfl (rgOne T) ?_
           generalize hW10 : World.setRow _ _ _ = W10
           obtain ⟨hg10, hu10⟩ := HX91.out W10 _ hW10
           have HS10 : Hid _ := HS91.out.ups hu10
           obtain ⟨t0, t1, t2, t3, t4, t5, t6, t7, t8, t9, t10, t11⟩ := regBlock T hg10
           obtain ⟨e0, e1, e2, e7, e8⟩ := HT.out
           rw [e0] at t0
           rw [e1] at t1
           rw [e2] at t2
           rw [e7] at t7
           rw [e8] at t8
           clear q0 q1 q2 q3 q4 q5 q6 q7 q8 q9 q10 q11
           obtain ⟨q0, q1, q2, q3, q4, q5, q6, q7, q8, q9, q10, q11⟩ := regBlock _ HS10.out.reg
           clear hW10 hu10 hg10 HX91 HN91 HS91 e0 e1 e2 e7 e8 t3 t4 t5 t6 t9 t10 t11))
      go_roundw
      case rel => exact ⟨1, by omega, rfl, by first | exact HS10.out.up | exact HS10.out.up.trans (Up.drewN W10 _) | exact HS10.out.up.trans ((Up.refl W10).drew)⟩
      case measure => simp [intOf]
    · go_wp2_with fail
      refine (HSt.out _).mono ?_
      rintro e w4 ⟨b, rfl, hbs, h4, hu4⟩
      have u4 : Up W6 w4 := hS.out.trans hu4
      have r4 : RgAt w4 p { G with b := n, h := 192, pc := 512 } := HW6.out.2.2.1.up u4
      have hlp : p < w4.heap.size := r4.lt
      have hz4 := u4.size
      have hls : s5 + 1 + 1 + 1 < w4.heap.size := by have := HW6.out.2.2.2; omega
      have cl : w4.cell? ⟨s5 + 1 + 1 + 1, 1, none⟩ = some (.slice (some ⟨(s5 + 1), 0, none⟩) 1 1) := (u4.cell (by have := HW6.out.2.2.2; omega)).trans HB6.out.2.2.2.2.1
      have HBc : Hid (byteCells w4 (s5 + 1) [128 + 8 * (K : Int)]) := byteCells.up HB6.out.2.1 u4 (by have := HW6.out.2.2.2; omega)
      clear q0 q1 q2 q3 q4 q5 q6 q7 q8 q9 q10 q11
      obtain ⟨q0, q1, q2, q3, q4, q5, q6, q7, q8, q9, q10, q11⟩ := regBlock _ r4
      have HR4 : Hid (RgAt w4 p { G with b := n, h := 192, pc := 512 } ∧ Cp w4 b (bd (rgF ({ G with b := n, h := 192, pc := 512 } : Rg)) G.sp 512 G.ime) ∧ Up W6 w4 ∧ W6.heap.size ≤ b ∧ p < W6.heap.size) := ⟨r4, h4, u4, Nat.le_trans hS.out.size hbs, HW6.out.2.2.1.lt⟩
      clear r4 h4 hu4 hbs u4 hz4
      go_wp2_with fail
      have hb1 : ∀ x ∈ [128 + 8 * (K : Int)], (0 : Int) ≤ x ∧ x ≤ 255 := by
        intro x hx
        simp at hx
        subst hx; omega
      have hb2 : ∀ x ∈ [n], (0 : Int) ≤ x ∧ x ≤ 255 := by
        intro x hx
        simp at hx
        subst hx; omega
      have k := twoB w4 ((w4.alloc (.cells #[.int .u8 n] 5)).alloc (.cells #[.int .i64 512, .slice (some ⟨(s5 + 1), 0, none⟩) 1 1, .int .i64 (49152 + G.l), .slice (some ⟨w4.heap.size, 0, none⟩) 1 1] 32)) _ _ _ _ rfl
      have HPc : Hid (Pcs ((w4.alloc (.cells #[.int .u8 n] 5)).alloc (.cells #[.int .i64 512, .slice (some ⟨(s5 + 1), 0, none⟩) 1 1, .int .i64 (49152 + G.l), .slice (some ⟨w4.heap.size, 0, none⟩) 1 1] 32)) (w4.heap.size + 1) [⟨512, [128 + 8 * (K : Int)]⟩, ⟨49152 + G.l, [n]⟩]) :=
        pcsAB _ (w4.heap.size + 1) (s5 + 1) w4.heap.size 512 (49152 + G.l) [128 + 8 * (K : Int)] [n] (by unfold I64; decide) (by unfold I64; omega) hb1 hb2 (by simp) (by simp) (by have := k.2.2.1; omega) (by have := k.2.2.1; omega) (by have := k.2.2.1; omega)
          (k.2.1 0) (k.2.1 1) (k.2.1 2) (k.2.1 3) (byteCells.up HBc.out k.2.2.2 (by omega)) (byteCells_of [n] k.1 rfl)
      have HUp : Hid _ := k.2.2.2
      have HBy : Hid _ := And.intro hb1 hb2
      clear k hb1 hb2
      have hIh : IntKind.i64.wrap 49152 = 49152 := by decide
      have hIw : IntKind.i64.wrap (49152 + G.l) = 49152 + G.l := wj _ (by omega) (by omega)
      go_region_held3 (fun w' => w'.cell? ⟨s5 + 1 + 1 + 1, 1, none⟩ = some (.slice (some ⟨(s5 + 1), 0, none⟩) 1 1) ∧ w'.cell? ⟨p, 6, none⟩ = some (.int .i64 192) ∧ w'.cell? ⟨p, 7, none⟩ = some (.int .i64 G.l))
        (first | exact ⟨cl, q6, q7⟩ | trivial | go_keep)
        (first
          | (go_at_call 17; refine (mem_two' (w4.heap.size + 1) 512 [128 + 8 * (K : Int)] (49152 + G.l) [n] _ (w4.heap.size + 1 + 1) (by simp) (by first | exact HPc.out | exact HPc.out.drew)).mono ?_; rintro e w6 ⟨rfl, m6, hu6⟩
             have u6 : Up w4 w6 := HUp.out.trans ⟨hu6.os, hu6.output, hu6.size, hu6.block⟩
             clear hu6
             have cl := (u6.cell (k := 1) hls).trans cl
             have q6 := (u6.cell (k := 6) hlp).trans q6
             have q7 := (u6.cell (k := 7) hlp).trans q7))
      obtain ⟨hS8, hK8⟩ := bun_mk' (w := W6) HR4.out.2.2.1 HW6.out.2.1 HR4.out.2.1 HR4.out.2.2.2.1 HR4.out.1.lt HR4.out.1 (by have := HR4.out.2.2.2; omega) u6 (by omega) m6
      obtain ⟨hb1, hb2⟩ := HBy.out
      have hfb : Byt (mem2 512 [128 + 8 * (K : Int)] (49152 + G.l) [n]) := mem2_byt 512 _ _ _ hb1 hb2
      have hf0 : mem2 512 [128 + 8 * (K : Int)] (49152 + G.l) [n] (512 : Int).toNat = 128 + 8 * (K : Int) := mem2_code [128 + 8 * (K : Int)] (by simp) _ _ (by omega) (by omega) 0 (by simp)
      have hIn := ar_reg (r := rgF ({ G with b := n, h := 192, pc := 512 } : Rg)) (sp := G.sp) (ime := G.ime) K hK hf0
      have hRu : Hid _ := bun_runs hIn hS8 hK8 HIv.out hfb
      have HIq : Hid _ := (hIn.inv HIv.out hfb).1
      clear q0 q1 q2 q3 q4 q5 q6 q7 q8 q9 q10 q11
      obtain ⟨q0, q1, q2, q3, q4, q5, q6, q7, q8, q9, q10, q11⟩ := regBlock _ hS8.reg
      obtain ⟨gm, hgm⟩ : ∃ g, g = w4.heap.size + 1 + 1 := ⟨_, rfl⟩
      rw [← hgm] at hRu
      rw [← hgm]
      clear hS8 m6 u6 HPc HUp HBy hgm hK8 hf0 hIn hfb hb1 hb2 cl HBc
      go_wp2_with fail
      refine Calls.mono hRu.out ?_
      rintro e w9 ⟨rfl, hS9⟩
      clear q0 q1 q2 q3 q4 q5 q6 q7 q8 q9 q10 q11
      obtain ⟨q0, q1, q2, q3, q4, q5, q6, q7, q8, q9, q10, q11⟩ := regBlock _ hS9.reg
      have HRe : Hid _ := bun_regs hS9 HIq.out
      obtain ⟨T, hT⟩ : ∃ T, T = toRg (bd (arR2 (rgF ({ G with b := n, h := 192, pc := 512 } : Rg)) K (rgF ({ G with b := n, h := 192, pc := 512 } : Rg) 0)) G.sp (pc1 512) G.ime) := ⟨_, rfl⟩
      change Hid (Calls _ _ _ _ fun e w' => e = .returned (.agg (toRg (bd (arR2 (rgF ({ G with b := n, h := 192, pc := 512 } : Rg)) K (rgF ({ G with b := n, h := 192, pc := 512 } : Rg) 0)) G.sp (pc1 512) G.ime)).cells) ∧ _) at HRe
      rw [← hT] at HRe
      have HT : Hid (T.a = A ∧ T.f = F ∧ T.b = n ∧ T.l = G.l ∧ T.sp = G.sp) := by
        rw [hT, HAF.out.1, HAF.out.2]
        exact ⟨rfl, rfl, rfl, rfl, rfl⟩
      clear hS9 hRu hT
      go_wp2_with (first
        | (go_at_call 19; refine Calls.mono (HRe.out) ?_; rintro e w91 ⟨rfl, hS91, hu91⟩
           have HS91 : Hid _ := hS91
           have HN91 : Hid (∀ o, (w91.alloc o).heap[w91.heap.size]? = some o) := heap_alloc_new w91
           have HX91 : Hid _ := rgNew w91 T
           clear hS91 hu91)
        | (refine wpList_store_rowTo rfl 23 _ _ rfl rfl w91.heap.size T.cells rfl rfl 23 #[.int .i64 0, .int .i64 0, .int .i64 0, .int .i64 0, .int .i64 0, .int .i64 0, .int .i64 0, .int .i64 0, .int .i64 0, .int .i64 0, .bool false, .int .i64 0] (HN91.out _) (by kernel_rfl) rfl (rgOne T) ?_
           generalize hW10 : World.setRow _ _ _ = W10
           obtain ⟨hg10, hu10⟩ := HX91.out W10 _ hW10
           have HS10 : Hid _ := HS91.out.ups hu10
           obtain ⟨t0, t1, t2, t3, t4, t5, t6, t7, t8, t9, t10, t11⟩ := regBlock T hg10
           obtain ⟨e0, e1, e2, e7, e8⟩ := HT.out
           rw [e0] at t0
           rw [e1] at t1
           rw [e2] at t2
           rw [e7] at t7
           rw [e8] at t8
           clear q0 q1 q2 q3 q4 q5 q6 q7 q8 q9 q10 q11
           obtain ⟨q0, q1, q2, q3, q4, q5, q6, q7, q8, q9, q10, q11⟩ := regBlock _ HS10.out.reg
           clear hW10 hu10 hg10 HX91 HN91 HS91 e0 e1 e2 e7 e8 t3 t4 t5 t6 t9 t10 t11))
      go_roundw
      case rel => exact ⟨2, by omega, rfl, by first | exact HS10.out.up | exact HS10.out.up.trans (Up.drewN W10 _) | exact HS10.out.up.trans ((Up.refl W10).drew)⟩
      case measure => simp [intOf]
    · go_wp2_with fail
      refine (HSt.out _).mono ?_
      rintro e w4 ⟨b, rfl, hbs, h4, hu4⟩
      have u4 : Up W6 w4 := hS.out.trans hu4
      have r4 : RgAt w4 p { G with b := n, h := 192, pc := 512 } := HW6.out.2.2.1.up u4
      have hlp : p < w4.heap.size := r4.lt
      have hz4 := u4.size
      have hls : s5 + 1 + 1 + 1 < w4.heap.size := by have := HW6.out.2.2.2; omega
      have cl : w4.cell? ⟨s5 + 1 + 1 + 1, 2, none⟩ = some (.slice (some ⟨(s5 + 1 + 1), 0, none⟩) 1 1) := (u4.cell (by have := HW6.out.2.2.2; omega)).trans HB6.out.2.2.2.2.2
      have HBc : Hid (byteCells w4 (s5 + 1 + 1) [134 + 8 * (K : Int)]) := byteCells.up HB6.out.2.2.1 u4 (by have := HW6.out.2.2.2; omega)
      clear q0 q1 q2 q3 q4 q5 q6 q7 q8 q9 q10 q11
      obtain ⟨q0, q1, q2, q3, q4, q5, q6, q7, q8, q9, q10, q11⟩ := regBlock _ r4
      have HR4 : Hid (RgAt w4 p { G with b := n, h := 192, pc := 512 } ∧ Cp w4 b (bd (rgF ({ G with b := n, h := 192, pc := 512 } : Rg)) G.sp 512 G.ime) ∧ Up W6 w4 ∧ W6.heap.size ≤ b ∧ p < W6.heap.size) := ⟨r4, h4, u4, Nat.le_trans hS.out.size hbs, HW6.out.2.2.1.lt⟩
      clear r4 h4 hu4 hbs u4 hz4
      go_wp2_with fail
      have hb1 : ∀ x ∈ [134 + 8 * (K : Int)], (0 : Int) ≤ x ∧ x ≤ 255 := by
        intro x hx
        simp at hx
        subst hx; omega
      have hb2 : ∀ x ∈ [n], (0 : Int) ≤ x ∧ x ≤ 255 := by
        intro x hx
        simp at hx
        subst hx; omega
      have k := twoB w4 ((w4.alloc (.cells #[.int .u8 n] 5)).alloc (.cells #[.int .i64 512, .slice (some ⟨(s5 + 1 + 1), 0, none⟩) 1 1, .int .i64 (49152 + G.l), .slice (some ⟨w4.heap.size, 0, none⟩) 1 1] 32)) _ _ _ _ rfl
      have HPc : Hid (Pcs ((w4.alloc (.cells #[.int .u8 n] 5)).alloc (.cells #[.int .i64 512, .slice (some ⟨(s5 + 1 + 1), 0, none⟩) 1 1, .int .i64 (49152 + G.l), .slice (some ⟨w4.heap.size, 0, none⟩) 1 1] 32)) (w4.heap.size + 1) [⟨512, [134 + 8 * (K : Int)]⟩, ⟨49152 + G.l, [n]⟩]) :=
        pcsAB _ (w4.heap.size + 1) (s5 + 1 + 1) w4.heap.size 512 (49152 + G.l) [134 + 8 * (K : Int)] [n] (by unfold I64; decide) (by unfold I64; omega) hb1 hb2 (by simp) (by simp) (by have := k.2.2.1; omega) (by have := k.2.2.1; omega) (by have := k.2.2.1; omega)
          (k.2.1 0) (k.2.1 1) (k.2.1 2) (k.2.1 3) (byteCells.up HBc.out k.2.2.2 (by omega)) (byteCells_of [n] k.1 rfl)
      have HUp : Hid _ := k.2.2.2
      have HBy : Hid _ := And.intro hb1 hb2
      clear k hb1 hb2
      have hIh : IntKind.i64.wrap 49152 = 49152 := by decide
      have hIw : IntKind.i64.wrap (49152 + G.l) = 49152 + G.l := wj _ (by omega) (by omega)
      go_region_held3 (fun w' => w'.cell? ⟨s5 + 1 + 1 + 1, 2, none⟩ = some (.slice (some ⟨(s5 + 1 + 1), 0, none⟩) 1 1) ∧ w'.cell? ⟨p, 6, none⟩ = some (.int .i64 192) ∧ w'.cell? ⟨p, 7, none⟩ = some (.int .i64 G.l))
        (first | exact ⟨cl, q6, q7⟩ | trivial | go_keep)
        (first
          | (go_at_call 17; refine (mem_two' (w4.heap.size + 1) 512 [134 + 8 * (K : Int)] (49152 + G.l) [n] _ (w4.heap.size + 1 + 1) (by simp) (by first | exact HPc.out | exact HPc.out.drew)).mono ?_; rintro e w6 ⟨rfl, m6, hu6⟩
             have u6 : Up w4 w6 := HUp.out.trans ⟨hu6.os, hu6.output, hu6.size, hu6.block⟩
             clear hu6
             have cl := (u6.cell (k := 2) hls).trans cl
             have q6 := (u6.cell (k := 6) hlp).trans q6
             have q7 := (u6.cell (k := 7) hlp).trans q7))
      obtain ⟨hS8, hK8⟩ := bun_mk' (w := W6) HR4.out.2.2.1 HW6.out.2.1 HR4.out.2.1 HR4.out.2.2.2.1 HR4.out.1.lt HR4.out.1 (by have := HR4.out.2.2.2; omega) u6 (by omega) m6
      obtain ⟨hb1, hb2⟩ := HBy.out
      have hfb : Byt (mem2 512 [134 + 8 * (K : Int)] (49152 + G.l) [n]) := mem2_byt 512 _ _ _ hb1 hb2
      have hf0 : mem2 512 [134 + 8 * (K : Int)] (49152 + G.l) [n] (512 : Int).toNat = 134 + 8 * (K : Int) := mem2_code [134 + 8 * (K : Int)] (by simp) _ _ (by omega) (by omega) 0 (by simp)
      have hf2 : mem2 512 [134 + 8 * (K : Int)] (49152 + G.l) [n] (wordP (rgF ({ G with b := n, h := 192, pc := 512 } : Rg) 4) (rgF ({ G with b := n, h := 192, pc := 512 } : Rg) 5)).toNat = n := by
        rw [show wordP (rgF ({ G with b := n, h := 192, pc := 512 } : Rg) 4) (rgF ({ G with b := n, h := 192, pc := 512 } : Rg) 5) = 49152 + G.l from word_at 192 G.l (by decide) (by decide) L1 L2]
        exact mem2_at _ _ _ (by omega) (by omega)
      have hIn := ar_mem (r := rgF ({ G with b := n, h := 192, pc := 512 } : Rg)) (sp := G.sp) (ime := G.ime) K hK hf0 hf2
      have hRu : Hid _ := bun_runs hIn hS8 hK8 HIv.out hfb
      have HIq : Hid _ := (hIn.inv HIv.out hfb).1
      clear q0 q1 q2 q3 q4 q5 q6 q7 q8 q9 q10 q11
      obtain ⟨q0, q1, q2, q3, q4, q5, q6, q7, q8, q9, q10, q11⟩ := regBlock _ hS8.reg
      obtain ⟨gm, hgm⟩ : ∃ g, g = w4.heap.size + 1 + 1 := ⟨_, rfl⟩
      rw [← hgm] at hRu
      rw [← hgm]
      clear hS8 m6 u6 HPc HUp HBy hgm hK8 hf0 hIn hfb hb1 hb2 cl HBc
      go_wp2_with fail
      refine Calls.mono hRu.out ?_
      rintro e w9 ⟨rfl, hS9⟩
      clear q0 q1 q2 q3 q4 q5 q6 q7 q8 q9 q10 q11
      obtain ⟨q0, q1, q2, q3, q4, q5, q6, q7, q8, q9, q10, q11⟩ := regBlock _ hS9.reg
      have HRe : Hid _ := bun_regs hS9 HIq.out
      obtain ⟨T, hT⟩ : ∃ T, T = toRg (bd (arR2 (rgF ({ G with b := n, h := 192, pc := 512 } : Rg)) K (n % 256)) G.sp (pc1 512) G.ime) := ⟨_, rfl⟩
      change Hid (Calls _ _ _ _ fun e w' => e = .returned (.agg (toRg (bd (arR2 (rgF ({ G with b := n, h := 192, pc := 512 } : Rg)) K (n % 256)) G.sp (pc1 512) G.ime)).cells) ∧ _) at HRe
      rw [← hT] at HRe
      have HT : Hid (T.a = A ∧ T.f = F ∧ T.b = n ∧ T.l = G.l ∧ T.sp = G.sp) := by
        rw [hT, HAF.out.1, HAF.out.2, show n % 256 = n by omega]
        exact ⟨rfl, rfl, rfl, rfl, rfl⟩
      clear hS9 hRu hT
      go_wp2_with (first
        | (go_at_call 19; refine Calls.mono (HRe.out) ?_; rintro e w91 ⟨rfl, hS91, hu91⟩
           have HS91 : Hid _ := hS91
           have HN91 : Hid (∀ o, (w91.alloc o).heap[w91.heap.size]? = some o) := heap_alloc_new w91
           have HX91 : Hid _ := rgNew w91 T
           clear hS91 hu91)
        | (refine wpList_store_rowTo rfl 23 _ _ rfl rfl w91.heap.size T.cells rfl rfl 23 #[.int .i64 0, .int .i64 0, .int .i64 0, .int .i64 0, .int .i64 0, .int .i64 0, .int .i64 0, .int .i64 0, .int .i64 0, .int .i64 0, .bool false, .int .i64 0] (HN91.out _) (by kernel_rfl) rfl (rgOne T) ?_
           generalize hW10 : World.setRow _ _ _ = W10
           obtain ⟨hg10, hu10⟩ := HX91.out W10 _ hW10
           have HS10 : Hid _ := HS91.out.ups hu10
           obtain ⟨t0, t1, t2, t3, t4, t5, t6, t7, t8, t9, t10, t11⟩ := regBlock T hg10
           obtain ⟨e0, e1, e2, e7, e8⟩ := HT.out
           rw [e0] at t0
           rw [e1] at t1
           rw [e2] at t2
           rw [e7] at t7
           rw [e8] at t8
           clear q0 q1 q2 q3 q4 q5 q6 q7 q8 q9 q10 q11
           obtain ⟨q0, q1, q2, q3, q4, q5, q6, q7, q8, q9, q10, q11⟩ := regBlock _ HS10.out.reg
           clear hW10 hu10 hg10 HX91 HN91 HS91 e0 e1 e2 e7 e8 t3 t4 t5 t6 t9 t10 t11))
      go_roundw
      case rel => exact ⟨3, by omega, rfl, by first | exact HS10.out.up | exact HS10.out.up.trans (Up.drewN W10 _) | exact HS10.out.up.trans ((Up.refl W10).drew)⟩
      case measure => simp [intOf]
    · go_wp2_with fail
      refine (HSt.out _).mono ?_
      rintro e_1 w4 ⟨x, rfl, hbs1, h41, hu4⟩
      have u4 : Up W6 w4 := hS.out.trans hu4
      have hx0 := hS.out.size
      clear q0 q1 q2 q3 q4 q5 q6 q7 q8 q9 q10 q11
      obtain ⟨q0, q1, q2, q3, q4, q5, q6, q7, q8, q9, q10, q11⟩ := regBlock _ (HW6.out.2.2.1.up u4)
      go_wp2_with fail
      refine (HSt.out _).mono ?_
      rintro e_2 w5 ⟨y, rfl, hbs2, h52, hu5⟩
      clear q0 q1 q2 q3 q4 q5 q6 q7 q8 q9 q10 q11
      obtain ⟨q0, q1, q2, q3, q4, q5, q6, q7, q8, q9, q10, q11⟩ := regBlock _ (HW6.out.2.2.1.up (u4.trans hu5))
      go_wp2_with fail
      refine (HSt.out _).mono ?_
      rintro e_3 w7 ⟨z, rfl, hbs3, h63, hu7⟩
      have u7 := u4.trans (hu5.trans hu7)
      have hB7 : Bun3 W6 x y z p p { G with b := n, h := 192, pc := 512 } { G with b := n, h := 192, pc := 512 } (bd (rgF ({ G with b := n, h := 192, pc := 512 } : Rg)) G.sp 512 G.ime) (bd (rgF ({ G with b := n, h := 192, pc := 512 } : Rg)) G.sp 512 G.ime) (bd (rgF ({ G with b := n, h := 192, pc := 512 } : Rg)) G.sp 512 G.ime) w7 := ⟨h41.up (hu5.trans hu7), h52.up hu7, h63, HW6.out.2.2.1.up u7, HW6.out.2.2.1.up u7, u7, HW6.out.2.1.up u7⟩
      have HD : Hid (p < W6.heap.size ∧ W6.heap.size ≤ x ∧ x < y ∧ y < z ∧ z < w7.heap.size ∧ 0 < p ∧ 0 < W6.heap.size) := ⟨HW6.out.2.2.1.lt, by omega, by have := h41.lt; omega, by have := h52.lt; omega, h63.lt, by have := HLB.out.1; omega, hLo⟩
      clear q0 q1 q2 q3 q4 q5 q6 q7 q8 q9 q10 q11
      obtain ⟨q0, q1, q2, q3, q4, q5, q6, q7, q8, q9, q10, q11⟩ := regBlock _ hB7.reg
      have HB7 : Hid _ := hB7
      clear hB7 u7 hu7 hu5 hu4 u4 h41 h52 h63 hbs1 hbs2 hbs3 hx0
      have sp0 := HO.out.sp.1
      have sp1 := HO.out.sp.2
      have d0 := HO.out.d.1
      have d1 := HO.out.d.2
      obtain ⟨E, hE⟩ : ∃ E : Nat, E = K % 2 := ⟨_, rfl⟩
      have hE2 : E < 2 := by omega
      have hEt : (K : Int).tmod 2 = (E : Int) := by rw [Int.tmod_eq_emod_of_nonneg (by omega)]; omega
      have hEe : (K : Int) % 2 = (E : Int) := by omega
      have hEw : IntKind.i64.wrap (E : Int) = (E : Int) := wj _ (by omega) (by omega)
      have hEn : (0 : Int) ≤ (E : Int) := by omega
      have hEl : (E : Int) < 2 := by omega
      clear hE
      go_wp2_with fail
      obtain ⟨V1, hV1⟩ : ∃ V, V = stR E G.d G.f := ⟨_, rfl⟩
      obtain ⟨H1, hH1⟩ : ∃ H, H = stF E G.d G.f := ⟨_, rfl⟩
      have HVe1 : Hid (V1 = stR E G.d G.f ∧ H1 = stF E G.d G.f) := ⟨hV1, hH1⟩
      have v10 : 0 ≤ V1 ∧ V1 ≤ 255 := by rw [hV1]; exact ⟨stR_lo _ _ _ d0, stR_hi _ _ _ d1⟩
      have h10 : 0 ≤ H1 ∧ H1 ≤ 255 := by rw [hH1]; exact stF_b E hE2 _ _
      have v1a := v10.1
      have v1b := v10.2
      have h1a := h10.1
      have h1b := h10.2
      have wV1 : IntKind.i64.wrap V1 = V1 := wj _ (by omega) (by omega)
      have wH1 : IntKind.i64.wrap H1 = H1 := wj _ (by omega) (by omega)
      have HAl1 : Hid (∀ W, LaidB W → Calls Tryz.prog 34 #[.int .i64 E, .int .u8 G.d, .int .u8 G.f] W fun e w' => e = .returned (.tuple #[.int .u8 V1, .int .u8 H1]) ∧ Up W w') := fun W hW => by
        rw [hV1, hH1]
        exact (step_any E G.d G.f W d0 d1 f0 f1).mono fun e w' ⟨h1, h2⟩ => ⟨h1, Up.ofGrown h2⟩
      clear hV1 hH1 v10 h10
      refine (HAl1.out _ HB7.out.lb).mono ?_
      rintro e_11 w81 ⟨rfl, hu8⟩
      have hB8 := HB7.out.ups hu8
      have hz8 := hu8.size
      clear q0 q1 q2 q3 q4 q5 q6 q7 q8 q9 q10 q11
      obtain ⟨q0, q1, q2, q3, q4, q5, q6, q7, q8, q9, q10, q11⟩ := regBlock _ hB8.reg
      have HB8 : Hid _ := hB8
      clear hB8 hu8 HAl1
      go_wp2_with fail
      generalize hW9 : World.alloc (World.alloc w81 _) _ = W9
      have hby : ∀ x ∈ [20 + (E : Int)], (0 : Int) ≤ x ∧ x ≤ 255 := by
        intro x hx
        simp at hx
        subst hx; omega
      have hPc : Pcs W9 (w81.heap.size + 1) [⟨512, [20 + (E : Int)]⟩] := by rw [← hW9]; exact pcs1 w81 512 [20 + (E : Int)] (by unfold I64; decide) hby (by simp)
      have u9 : Up w81 W9 := by rw [← hW9]; exact ((Up.refl w81).alloc _).alloc _
      clear hW9
      refine (mem_one (w81.heap.size + 1) 512 _ W9 hPc).mono ?_
      rintro e_12 w91 ⟨rfl, m9, hu9⟩
      have hB9 := HB8.out.ups (u9.trans hu9)
      have hz9 := u9.size
      have hfb : Byt (mem1 512 [20 + (E : Int)]) := mem1_byt 512 _ hby
      have hf0 : mem1 512 [20 + (E : Int)] (512 : Int).toNat = 20 + (E : Int) := mem1_code [20 + (E : Int)] (by simp) 0 (by simp)
      have hIn := st_ins (r := rgF ({ G with b := n, h := 192, pc := 512 } : Rg)) (sp := G.sp) (ime := G.ime) E hE2 hf0
      have hRu : Hid _ := b3_one hIn hB9 m9 ⟨by have := HD.out; omega, by have := HD.out; omega, by have := HD.out; omega, by have := HD.out; omega, by have := HD.out; omega, by have := HD.out; omega, by have := HD.out; omega, by have := HD.out; omega, by have := HD.out; omega, by have := HD.out; omega, by have := HD.out; omega, by have := HD.out; omega, by have := HD.out; omega⟩ HIv.out hfb
      have HIq : Hid _ := (hIn.inv HIv.out hfb).1
      clear q0 q1 q2 q3 q4 q5 q6 q7 q8 q9 q10 q11
      obtain ⟨q0, q1, q2, q3, q4, q5, q6, q7, q8, q9, q10, q11⟩ := regBlock _ hB9.reg
      obtain ⟨gm1, hgm⟩ : ∃ g, g = W9.heap.size := ⟨_, rfl⟩
      rw [← hgm] at hRu
      rw [← hgm]
      have hz9s := hu9.size
      clear hB9 m9 hu9 u9 hPc hgm hf0 hfb hby HB8 
      go_wp2_with fail
      refine Calls.mono hRu.out ?_
      rintro e_13 wa1 ⟨rfl, hSa⟩
      clear q0 q1 q2 q3 q4 q5 q6 q7 q8 q9 q10 q11
      obtain ⟨q0, q1, q2, q3, q4, q5, q6, q7, q8, q9, q10, q11⟩ := regBlock _ hSa.reg
      have HRe : Hid _ := b3_regs hSa HIq.out
      obtain ⟨T1, hT⟩ : ∃ T, T = toRg (bd (stR2 (rgF ({ G with b := n, h := 192, pc := 512 } : Rg)) E) G.sp (pc1 512) G.ime) := ⟨_, rfl⟩
      change Hid (Calls _ _ _ _ fun e w' => e = .returned (.agg (toRg (bd (stR2 (rgF ({ G with b := n, h := 192, pc := 512 } : Rg)) E) G.sp (pc1 512) G.ime)).cells) ∧ _) at HRe
      rw [← hT] at HRe
      have HT1 : Hid (T1.d = V1 ∧ T1.f = H1) := by
        rw [hT, HVe1.out.1, HVe1.out.2]
        exact ⟨rfl, rfl⟩
      clear hSa hRu hT hIn
      go_wp2_with (first
        | (go_at_call 19; refine Calls.mono (HRe.out) ?_; rintro e w91x ⟨rfl, hS91x, hu91x⟩
           have HS91x : Hid _ := hS91x
           have HN91x : Hid (∀ o, (w91x.alloc o).heap[w91x.heap.size]? = some o) := heap_alloc_new w91x
           have HX91x : Hid _ := rgNew w91x T1
           have HU91x : Hid _ := hu91x
           clear hS91x hu91x)
        | (refine wpList_store_rowTo rfl 23 _ _ rfl rfl w91x.heap.size T1.cells rfl rfl 23 #[.int .i64 0, .int .i64 0, .int .i64 0, .int .i64 0, .int .i64 0, .int .i64 0, .int .i64 0, .int .i64 0, .int .i64 0, .int .i64 0, .bool false, .int .i64 0] (HN91x.out _) (by kernel_rfl) rfl (rgOne T1) ?_
           generalize hW10 : World.setRow _ _ _ = W1
           obtain ⟨hg10, hu10⟩ := HX91x.out W1 _ hW10
           have HC0 : Hid _ := HS91x.out.new hu10 hg10
           obtain ⟨t0, t1, t2, t3, t4, t5, t6, t7, t8, t9, t10, t11⟩ := regBlock T1 hg10
           obtain ⟨e4, e1⟩ := HT1.out
           rw [e4] at t4
           rw [e1] at t1
           clear q0 q1 q2 q3 q4 q5 q6 q7 q8 q9 q10 q11
           obtain ⟨q0, q1, q2, q3, q4, q5, q6, q7, q8, q9, q10, q11⟩ := regBlock _ HC0.out.reg
           clear hW10 hu10 hg10 HX91x HN91x e4 e1 t0 t2 t3 t5 t6 t7 t8 t9 t10 t11))
      obtain ⟨q, hq⟩ : ∃ q, q = w91x.heap.size := ⟨_, rfl⟩
      have HQ : Hid (z < q ∧ q < W1.heap.size) := by rw [hq]; exact ⟨HS91x.out.cz.lt, HC0.out.tg.lt⟩
      have hC1 := HC0.out.rot
      rw [← hq] at hC1
      have HC1 : Hid _ := hC1
      clear hC1
      rw [← hq]
      have hzW1 : z < W1.heap.size := HC1.out.cy.lt
      have hqW1 : q < W1.heap.size := HC1.out.tg.lt
      clear hq HS91x HU91x HC0 t1 t4 HT1 HRe HIq hz8 hz9 hz9s
      obtain ⟨V2, hV2⟩ : ∃ V, V = tuR K G.a G.f := ⟨_, rfl⟩
      obtain ⟨H2, hH2⟩ : ∃ H, H = tuF K G.a G.f := ⟨_, rfl⟩
      have HVe2 : Hid (V2 = tuR K G.a G.f ∧ H2 = tuF K G.a G.f) := ⟨hV2, hH2⟩
      have v20 : 0 ≤ V2 ∧ V2 ≤ 255 := by rw [hV2]; exact ⟨tuR_lo _ _ _ a0 a1, tuR_hi _ _ _ a0 a1⟩
      have h20 : 0 ≤ H2 ∧ H2 ≤ 255 := by rw [hH2]; exact tuF_b K hK _ _
      have v2a := v20.1
      have v2b := v20.2
      have h2a := h20.1
      have h2b := h20.2
      have wV2 : IntKind.i64.wrap V2 = V2 := wj _ (by omega) (by omega)
      have wH2 : IntKind.i64.wrap H2 = H2 := wj _ (by omega) (by omega)
      have HAl2 : Hid (∀ W, LaidB W → Calls Tryz.prog 35 #[.int .i64 K, .int .u8 G.a, .int .u8 G.f] W fun e w' => e = .returned (.tuple #[.int .u8 V2, .int .u8 H2]) ∧ Up W w') := fun W hW => by
        rw [hV2, hH2]
        exact (turn_any K G.a G.f W hW a0 a1 f0 f1).mono fun e w' ⟨h1, h2⟩ => ⟨h1, Up.ofGrown h2⟩
      clear hV2 hH2 v20 h20
      refine (HAl2.out _ HC1.out.lb).mono ?_
      rintro e_21 w82 ⟨rfl, hu8⟩
      have hB8 := HC1.out.ups hu8
      have hz8 := hu8.size
      clear q0 q1 q2 q3 q4 q5 q6 q7 q8 q9 q10 q11
      obtain ⟨q0, q1, q2, q3, q4, q5, q6, q7, q8, q9, q10, q11⟩ := regBlock _ hB8.reg
      have HB8 : Hid _ := hB8
      clear hB8 hu8 HAl2
      go_wp2_with fail
      generalize hW9 : World.alloc (World.alloc w82 _) _ = W9
      have hby : ∀ x ∈ [7 + 8 * (K : Int)], (0 : Int) ≤ x ∧ x ≤ 255 := by
        intro x hx
        simp at hx
        subst hx; omega
      have hPc : Pcs W9 (w82.heap.size + 1) [⟨512, [7 + 8 * (K : Int)]⟩] := by rw [← hW9]; exact pcs1 w82 512 [7 + 8 * (K : Int)] (by unfold I64; decide) hby (by simp)
      have u9 : Up w82 W9 := by rw [← hW9]; exact ((Up.refl w82).alloc _).alloc _
      clear hW9
      refine (mem_one (w82.heap.size + 1) 512 _ W9 hPc).mono ?_
      rintro e_22 w92 ⟨rfl, m9, hu9⟩
      have hB9 := HB8.out.ups (u9.trans hu9)
      have hz9 := u9.size
      have hfb : Byt (mem1 512 [7 + 8 * (K : Int)]) := mem1_byt 512 _ hby
      have hf0 : mem1 512 [7 + 8 * (K : Int)] (512 : Int).toNat = 7 + 8 * (K : Int) := mem1_code [7 + 8 * (K : Int)] (by simp) 0 (by simp)
      have hIn := tu_ins (r := rgF ({ G with b := n, h := 192, pc := 512 } : Rg)) (sp := G.sp) (ime := G.ime) K hK hf0
      have hRu : Hid _ := b3_one hIn hB9 m9 ⟨by have := HD.out; have := HQ.out; omega, by have := HD.out; have := HQ.out; omega, by have := HD.out; have := HQ.out; omega, by have := HD.out; have := HQ.out; omega, by have := HD.out; have := HQ.out; omega, by have := HD.out; have := HQ.out; omega, by have := HD.out; have := HQ.out; omega, by have := HD.out; have := HQ.out; omega, by have := HD.out; have := HQ.out; omega, by have := HD.out; have := HQ.out; omega, by have := HD.out; have := HQ.out; omega, by have := HD.out; have := HQ.out; omega, by have := HD.out; have := HQ.out; omega⟩ HIv.out hfb
      have HIq : Hid _ := (hIn.inv HIv.out hfb).1
      clear q0 q1 q2 q3 q4 q5 q6 q7 q8 q9 q10 q11
      obtain ⟨q0, q1, q2, q3, q4, q5, q6, q7, q8, q9, q10, q11⟩ := regBlock _ hB9.reg
      obtain ⟨gm2, hgm⟩ : ∃ g, g = W9.heap.size := ⟨_, rfl⟩
      rw [← hgm] at hRu
      rw [← hgm]
      have hz9s := hu9.size
      clear hB9 m9 hu9 u9 hPc hgm hf0 hfb hby HB8 
      go_wp2_with fail
      refine Calls.mono hRu.out ?_
      rintro e_23 wa2 ⟨rfl, hSa⟩
      clear q0 q1 q2 q3 q4 q5 q6 q7 q8 q9 q10 q11
      obtain ⟨q0, q1, q2, q3, q4, q5, q6, q7, q8, q9, q10, q11⟩ := regBlock _ hSa.reg
      have HRe : Hid _ := b3_regs hSa HIq.out
      obtain ⟨T2, hT⟩ : ∃ T, T = toRg (bd (tuR2 (rgF ({ G with b := n, h := 192, pc := 512 } : Rg)) K) G.sp (pc1 512) G.ime) := ⟨_, rfl⟩
      change Hid (Calls _ _ _ _ fun e w' => e = .returned (.agg (toRg (bd (tuR2 (rgF ({ G with b := n, h := 192, pc := 512 } : Rg)) K) G.sp (pc1 512) G.ime)).cells) ∧ _) at HRe
      rw [← hT] at HRe
      have HT2 : Hid (T2.a = V2 ∧ T2.f = H2) := by
        rw [hT, HVe2.out.1, HVe2.out.2]
        exact ⟨rfl, rfl⟩
      clear hSa hRu hT hIn
      go_wp2_with (first
        | (go_at_call 19; refine Calls.mono (HRe.out) ?_; rintro e w92x ⟨rfl, hS92x, hu92x⟩
           have HS92x : Hid _ := hS92x
           have HN92x : Hid (∀ o, (w92x.alloc o).heap[w92x.heap.size]? = some o) := heap_alloc_new w92x
           have HX92x : Hid _ := rgNew w92x T2
           have HU92x : Hid _ := hu92x
           clear hS92x hu92x)
        | (refine wpList_store_rowTo rfl 23 _ _ rfl rfl q T2.cells rfl rfl 23 T1.cells (by exact HS92x.out.tg) (by kernel_rfl) rfl (rgOne T2) ?_
           generalize hW10 : World.setRow _ _ _ = W2
           have HC0 : Hid _ := Bun3.row T2 HS92x.out hW10 (by have := HD.out; have := HQ.out; omega) (by have := HD.out; have := HQ.out; omega) (by have := HD.out; have := HQ.out; omega) (by have := HD.out; have := HQ.out; omega) (by have := HD.out; have := HQ.out; omega) (by have := HD.out; have := HQ.out; omega)
           obtain ⟨t0, t1, t2, t3, t4, t5, t6, t7, t8, t9, t10, t11⟩ := regBlock T2 HC0.out.tg
           clear q0 q1 q2 q3 q4 q5 q6 q7 q8 q9 q10 q11
           obtain ⟨q0, q1, q2, q3, q4, q5, q6, q7, q8, q9, q10, q11⟩ := regBlock _ HC0.out.reg
           obtain ⟨e0, e1⟩ := HT2.out
           rw [e0] at t0
           rw [e1] at t1
           clear hW10 HX92x HN92x e0 e1 t2 t3 t4 t5 t6 t7 t8 t9 t10 t11))
      have HC2 : Hid _ := HC0.out.rot
      have hzW2 : z < W2.heap.size := HC2.out.cx.lt
      have hqW2 : q < W2.heap.size := HC2.out.tg.lt
      clear HS92x HU92x HC0 t1 t0 HT2 HRe HIq hz8 hz9 hz9s hzW1 hqW1
      obtain ⟨V3, hV3⟩ : ∃ V, V = ofR G.sp n := ⟨_, rfl⟩
      obtain ⟨H3, hH3⟩ : ∃ H, H = ofF G.sp n := ⟨_, rfl⟩
      have HVe3 : Hid (V3 = ofR G.sp n ∧ H3 = ofF G.sp n) := ⟨hV3, hH3⟩
      have v30 : 0 ≤ V3 ∧ V3 ≤ 65535 := by rw [hV3]; exact ofR_b _ _
      have h30 : 0 ≤ H3 ∧ H3 ≤ 255 := by rw [hH3]; exact ofF_b _ _
      have v3a := v30.1
      have v3b := v30.2
      have h3a := h30.1
      have h3b := h30.2
      have wV3 : IntKind.i64.wrap V3 = V3 := wj _ (by omega) (by omega)
      have wH3 : IntKind.i64.wrap H3 = H3 := wj _ (by omega) (by omega)
      have HAl3 : Hid (∀ W, LaidB W → Calls Tryz.prog 36 #[.int .u16 G.sp, .int .u8 n] W fun e w' => e = .returned (.tuple #[.int .u16 V3, .int .u8 H3]) ∧ Up W w') := fun W hW => by
        rw [hV3, hH3]
        exact (addoffset_any G.sp n W sp0 sp1 n0 n1).mono fun e w' ⟨h1, h2⟩ => ⟨h1, by rw [h2]; exact Up.refl W⟩
      clear hV3 hH3 v30 h30
      refine (HAl3.out _ HC2.out.lb).mono ?_
      rintro e_31 w83 ⟨rfl, hu8⟩
      have hB8 := HC2.out.ups hu8
      have hz8 := hu8.size
      clear q0 q1 q2 q3 q4 q5 q6 q7 q8 q9 q10 q11
      obtain ⟨q0, q1, q2, q3, q4, q5, q6, q7, q8, q9, q10, q11⟩ := regBlock _ hB8.reg
      have HB8 : Hid _ := hB8
      clear hB8 hu8 HAl3
      go_wp2_with fail
      generalize hW9 : World.alloc (World.alloc w83 _) _ = W9
      have hby : ∀ x ∈ [248, n, 232, n], (0 : Int) ≤ x ∧ x ≤ 255 := by
        intro x hx
        simp at hx
        rcases hx with rfl | rfl | rfl | rfl <;> omega
      have hPc : Pcs W9 (w83.heap.size + 1) [⟨512, [248, n, 232, n]⟩] := by rw [← hW9]; exact pcs1 w83 512 [248, n, 232, n] (by unfold I64; decide) hby (by simp)
      have u9 : Up w83 W9 := by rw [← hW9]; exact ((Up.refl w83).alloc _).alloc _
      clear hW9
      refine (mem_one (w83.heap.size + 1) 512 _ W9 hPc).mono ?_
      rintro e_32 w93 ⟨rfl, m9, hu9⟩
      have hB9 := HB8.out.ups (u9.trans hu9)
      have hz9 := u9.size
      have hfb : Byt (mem1 512 [248, n, 232, n]) := mem1_byt 512 _ hby
      have hf0 : mem1 512 [248, n, 232, n] (512 : Int).toNat = 248 := mem1_code [248, n, 232, n] (by simp) 0 (by simp)
      have hf1 : mem1 512 [248, n, 232, n] (adr 512 0) = n := mem1_code [248, n, 232, n] (by simp) 1 (by simp)
      have hf2 : mem1 512 [248, n, 232, n] (pc2 512).toNat = 232 := mem1_code [248, n, 232, n] (by simp) 2 (by simp)
      have hf3 : mem1 512 [248, n, 232, n] (adr (pc2 512) 0) = n := mem1_code [248, n, 232, n] (by simp) 3 (by simp)
      have hIn := hl_ins (r := rgF ({ G with b := n, h := 192, pc := 512 } : Rg)) (sp := G.sp) (ime := G.ime) hf0 hf1
      have hJn := sp_ins (r := hlR2 (rgF ({ G with b := n, h := 192, pc := 512 } : Rg)) G.sp (n % 256)) (sp := G.sp) (pc := pc2 512) (ime := G.ime) hf2 hf3
      have hRu : Hid _ := b3_two hIn hJn hB9 m9 ⟨by have := HD.out; have := HQ.out; omega, by have := HD.out; have := HQ.out; omega, by have := HD.out; have := HQ.out; omega, by have := HD.out; have := HQ.out; omega, by have := HD.out; have := HQ.out; omega, by have := HD.out; have := HQ.out; omega, by have := HD.out; have := HQ.out; omega, by have := HD.out; have := HQ.out; omega, by have := HD.out; have := HQ.out; omega, by have := HD.out; have := HQ.out; omega, by have := HD.out; have := HQ.out; omega, by have := HD.out; have := HQ.out; omega, by have := HD.out; have := HQ.out; omega⟩ HIv.out hfb
      have HIq : Hid _ := (hJn.inv (hIn.inv HIv.out hfb).1 (hIn.inv HIv.out hfb).2).1
      clear q0 q1 q2 q3 q4 q5 q6 q7 q8 q9 q10 q11
      obtain ⟨q0, q1, q2, q3, q4, q5, q6, q7, q8, q9, q10, q11⟩ := regBlock _ hB9.reg
      obtain ⟨gm3, hgm⟩ : ∃ g, g = W9.heap.size := ⟨_, rfl⟩
      rw [← hgm] at hRu
      rw [← hgm]
      have hz9s := hu9.size
      clear hB9 m9 hu9 u9 hPc hgm hf0 hfb hby HB8 hf1 hf2 hf3 hJn
      go_wp2_with fail
      refine Calls.mono hRu.out ?_
      rintro e_33 wa3 ⟨⟨cc, rfl⟩, hSa⟩
      clear q0 q1 q2 q3 q4 q5 q6 q7 q8 q9 q10 q11
      obtain ⟨q0, q1, q2, q3, q4, q5, q6, q7, q8, q9, q10, q11⟩ := regBlock _ hSa.reg
      have HRe : Hid _ := b3_regs hSa HIq.out
      obtain ⟨T3, hT⟩ : ∃ T, T = toRg (bd (upd (hlR2 (rgF ({ G with b := n, h := 192, pc := 512 } : Rg)) G.sp (n % 256)) 6 (ofF G.sp (n % 256))) (ofR G.sp (n % 256)) (pc2 (pc2 512)) G.ime) := ⟨_, rfl⟩
      change Hid (Calls _ _ _ _ fun e w' => e = .returned (.agg (toRg (bd (upd (hlR2 (rgF ({ G with b := n, h := 192, pc := 512 } : Rg)) G.sp (n % 256)) 6 (ofF G.sp (n % 256))) (ofR G.sp (n % 256)) (pc2 (pc2 512)) G.ime)).cells) ∧ _) at HRe
      rw [← hT] at HRe
      have HT3 : Hid (256 * T3.h + T3.l = V3 ∧ T3.sp = V3 ∧ T3.f = H3 ∧ 0 ≤ T3.h ∧ T3.h ≤ 255 ∧ 0 ≤ T3.l ∧ T3.l ≤ 255) := by
        rw [show n % 256 = n by omega] at hT
        exact re_T3 hT HVe3.out.1 HVe3.out.2 v3a v3b
      clear hSa hRu hT hIn
      obtain ⟨Th, hTh⟩ : ∃ h, h = T3.h := ⟨_, rfl⟩
      obtain ⟨Tl, hTl⟩ : ∃ l, l = T3.l := ⟨_, rfl⟩
      obtain ⟨ehl, e8, e1, eh0, eh1, el0, el1⟩ := HT3.out
      obtain ⟨HH, hHH⟩ : ∃ h, h = 256 * Th := ⟨_, rfl⟩
      have wHH : IntKind.i64.wrap (256 * Th) = HH := by rw [hHH]; exact wj _ (by omega) (by omega)
      have wHL : IntKind.i64.wrap (HH + Tl) = V3 := by rw [hHH, hTh, hTl, ehl]; exact wV3
      have HT4 : Hid (T3.h = Th ∧ T3.l = Tl ∧ T3.sp = V3 ∧ T3.f = H3) := ⟨hTh.symm, hTl.symm, e8, e1⟩
      clear hTh hTl ehl e8 e1 eh0 eh1 el0 el1 hHH HT3
      go_wp2_with (first
        | (go_at_call 19; refine Calls.mono (HRe.out) ?_; rintro e w93x ⟨rfl, hS93x, hu93x⟩
           have HS93x : Hid _ := hS93x
           have HN93x : Hid (∀ o, (w93x.alloc o).heap[w93x.heap.size]? = some o) := heap_alloc_new w93x
           have HX93x : Hid _ := rgNew w93x T3
           have HU93x : Hid _ := hu93x
           clear hS93x hu93x)
        | (refine wpList_store_rowTo rfl 23 _ _ rfl rfl q T3.cells rfl rfl 23 T2.cells (by exact HS93x.out.tg) (by kernel_rfl) rfl (rgOne T3) ?_
           generalize hW10 : World.setRow _ _ _ = W3
           have HC0 : Hid _ := Bun3.row T3 HS93x.out hW10 (by have := HD.out; have := HQ.out; omega) (by have := HD.out; have := HQ.out; omega) (by have := HD.out; have := HQ.out; omega) (by have := HD.out; have := HQ.out; omega) (by have := HD.out; have := HQ.out; omega) (by have := HD.out; have := HQ.out; omega)
           obtain ⟨t0, t1, t2, t3, t4, t5, t6, t7, t8, t9, t10, t11⟩ := regBlock T3 HC0.out.tg
           clear q0 q1 q2 q3 q4 q5 q6 q7 q8 q9 q10 q11
           obtain ⟨q0, q1, q2, q3, q4, q5, q6, q7, q8, q9, q10, q11⟩ := regBlock _ HC0.out.reg
           obtain ⟨e6, e7, e8, e1⟩ := HT4.out
           rw [e6] at t6
           rw [e7] at t7
           rw [e8] at t8
           rw [e1] at t1
           clear hW10 HX93x HN93x e8 e1 e6 e7 t0 t2 t3 t4 t5 t9 t10 t11))
      go_ret
      exact ⟨rfl, HW6.out.1.trans HC0.out.up⟩
theorem reck_walk (g : Rg) (i : g.In) (op n : Int) (h1 : I64 op) (h2 : 0 ≤ n ∧ n ≤ 255) (w : World) (hB : LaidB w) :
    Calls Tryz.prog 12 #[.agg g.cells, .int .i64 op, .int .u8 n] w fun e w' => e = .returned (.bool true) ∧ Up w w' := by
  obtain ⟨K, hKe⟩ : ∃ K : Nat, pickI op 8 = (K : Int) := ⟨(pickI op 8).toNat, by have := pickI_lo op 8 (by decide); omega⟩
  have hK : K < 8 := by have := pickI_hi op 8 (by decide); omega
  have HB : Hid (∀ W, Calls Tryz.prog 14 #[.agg #[.int .i64 g.a, .int .i64 g.f, .int .i64 g.b, .int .i64 g.c, .int .i64 g.d, .int .i64 g.e, .int .i64 g.h, .int .i64 g.l, .int .i64 g.sp, .int .i64 g.pc, .bool g.ime, .int .i64 g.state]] W fun e w' => e = .returned (.agg (bnd g).cells) ∧ Up W w') := fun W => bounded_any g i W
  have o := bnd_ok g
  have hs : (bnd g).state = 0 := rfl
  generalize bnd g = G at HB o hs
  exact reck_walk0 g G op n K hK h2.1 h2.2 o hs HB h1 hKe w hB
end Go.Proofs.YtbfjihcnnefehaaGreatDoor
