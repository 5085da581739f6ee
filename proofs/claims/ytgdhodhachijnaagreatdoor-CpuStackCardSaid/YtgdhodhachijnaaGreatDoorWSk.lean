/- CpuStack: the walk. -/
import Derived.Test.YtgdhodhachijnaaGreatDoorKs
namespace Go.Proofs.YtgdhodhachijnaaGreatDoor
open Go.RowKit
set_option linter.unusedVariables false
theorem rg_sk (G : Rg) (o : G.Ok) (hs : G.state = 0) : ∀ k, 0 ≤ rgF G k ∧ rgF G k ≤ 255 := (bd_inv G o hs).ok.r
set_option maxRecDepth 100000 in
set_option maxHeartbeats 1000000 in
theorem stack_walk (g : Rg) (i : g.In) (w : World) (hB : LaidB w) :
    Calls Tryz.prog 4 #[.agg g.cells] w fun e w' => e = .returned (.bool true) ∧ Up w w' := by
  have HB : Hid (∀ W, Calls Tryz.prog 14 #[.agg #[.int .i64 g.a, .int .i64 g.f, .int .i64 g.b, .int .i64 g.c, .int .i64 g.d, .int .i64 g.e, .int .i64 g.h, .int .i64 g.l, .int .i64 g.sp, .int .i64 g.pc, .bool g.ime, .int .i64 g.state]] W fun e w' => e = .returned (.agg (bnd g).cells) ∧ Up W w') := fun W => bounded_any g i W
  have o := bnd_ok g
  have hst : (bnd g).state = 0 := rfl
  generalize hGG : bnd g = G at HB o hst
  have HS0 : Hid (G.state = 0) := hst
  clear hst hGG i
  have HO : Hid G.Ok := o
  have HLB : Hid (LaidB w) := hB
  have s1 := o.sp.1
  have s2 := o.sp.2
  have c1 := o.c.1
  have c2 := o.c.2
  have hc16 : G.c.tdiv 16 = G.c / 16 := Int.tdiv_eq_ediv_of_nonneg c1
  clear hB o
  rw [show g.cells = #[.int .i64 g.a, .int .i64 g.f, .int .i64 g.b, .int .i64 g.c, .int .i64 g.d, .int .i64 g.e, .int .i64 g.h, .int .i64 g.l, .int .i64 g.sp, .int .i64 g.pc, .bool g.ime, .int .i64 g.state] from rfl]
  by_cases hsp : G.sp < 1024
  · have o2 : ({ G with sp := G.sp + 1024, pc := 512 } : Rg).Ok := { HO.out with pc := (show (0 : Int) ≤ 512 ∧ (512 : Int) ≤ 65535 by decide), sp := (show 0 ≤ G.sp + 1024 ∧ G.sp + 1024 ≤ 65535 by omega) }
    have HSt : Hid (∀ W, Calls Tryz.prog 16 #[.agg #[.int .i64 G.a, .int .i64 G.f, .int .i64 G.b, .int .i64 G.c, .int .i64 G.d, .int .i64 G.e, .int .i64 G.h, .int .i64 G.l, .int .i64 (G.sp + 1024), .int .i64 (512), .bool G.ime, .int .i64 G.state]] W fun e w' => ∃ b, e = .returned (.pointer (some ⟨b, 0, none⟩)) ∧ W.heap.size ≤ b ∧ Cp w' b (bd (rgF G) (G.sp + 1024) 512 G.ime) ∧ Up W w') := fun W => started_ok ({ G with sp := G.sp + 1024, pc := 512 } : Rg) o2 HS0.out W
    have HIv : Hid (bd (rgF G) (G.sp + 1024) 512 G.ime).Inv := bd_inv ({ G with sp := G.sp + 1024, pc := 512 } : Rg) o2 HS0.out
    clear o2
    go_enter Tryz.func4, Tryz.ntmps4
    go_wp2_with (first
    | (go_at_call 14; refine (HB.out _).mono ?_; rintro e w2 ⟨rfl, hu2⟩
       have u2 : Up w w2 := ((Up.refl w).alloc _).trans hu2
       have HN2 : Hid (∀ o, (w2.alloc o).heap[w2.heap.size]? = some o) := heap_alloc_new w2
       have HX2 : Hid _ := rgNew w2 G
       clear hu2)
    | (refine wpList_store_rowTo rfl 23 _ _ rfl rfl w2.heap.size G.cells rfl rfl 23 #[.int .i64 0, .int .i64 0, .int .i64 0, .int .i64 0, .int .i64 0, .int .i64 0, .int .i64 0, .int .i64 0, .int .i64 0, .int .i64 0, .bool false, .int .i64 0] (HN2.out _) (by kernel_rfl) rfl (rgOne G) ?_
       generalize hW3 : World.setRow _ _ _ = W3
       obtain ⟨hg3, hu3⟩ := HX2.out W3 _ hW3
       have u3 := u2.trans hu3
       have hl3 : w2.heap.size < W3.heap.size := (Array.getElem?_eq_some_iff.1 hg3).1
       obtain ⟨r0, r1, r2, r3, r4, r5, r6, r7, r8, r9, r10, r11⟩ := regBlock G hg3
       have HG3 : Hid (RgAt W3 w2.heap.size G) := hg3
       have hz3 := u2.size
       have fz8 : W3.frozen? ⟨w2.heap.size, 8, none⟩ = false := by simp [World.frozen?, hg3]
       have fz9 : W3.frozen? ⟨w2.heap.size, 9, none⟩ = false := by simp [World.frozen?, hg3]
       clear hW3 hu3 hg3 u2 HX2 HN2)
    | (go_at_call 16; refine (HSt.out _).mono ?_; rintro e w4 ⟨b, rfl, hbs, h4, hu4⟩
       have hbs' : W3.heap.size ≤ b := by simp at hbs; omega
       have u4 : Up w w4 := ((u3.setCell (p := ⟨w2.heap.size, 9, none⟩) hz3 _).setCell (p := ⟨w2.heap.size, 8, none⟩) hz3 _).trans hu4
       have hr4 : RgAt w4 w2.heap.size ({ G with sp := G.sp + 1024, pc := 512 } : Rg) := ((HG3.out.set (H := { G with pc := 512 }) 9 _ rfl).set (H := { G with sp := G.sp + 1024, pc := 512 }) 8 _ rfl).up hu4
       clear hbs hu4 r0 r1 r2 r3 r4 r5 r6 r7 r8 r9 r10 r11 fz9 fz8))
    generalize hW5 : World.alloc (World.alloc w4 _) _ = W5
    have hPc : Pcs W5 (w4.heap.size + 1) [⟨512, skB⟩] := by rw [← hW5]; exact pcs1 w4 512 skB (by unfold I64; decide) sk_byt (by decide)
    have u45 : Up w4 W5 := by rw [← hW5]; exact ((Up.refl w4).alloc _).alloc _
    clear hW5
    refine (mem_one (w4.heap.size + 1) 512 skB W5 hPc).mono ?_
    rintro e w6 ⟨rfl, m6, hu6⟩
    obtain ⟨hS6, hKs⟩ := bun_mk u4 HLB.out h4 (by have := u3.size; omega) hr4.lt hr4 (by omega) u45 hu6 m6
    have HKs : Hid _ := hKs
    have hbR := rg_sk G HO.out HS0.out
    have hI8 := fun i hi => sk_ins (S := G.sp + 1024) (ime := G.ime) hbR (by omega) (by omega) i hi
    have hf0 : Byt skF := mem1_byt 512 skB sk_byt
    have hS6' : Bun w b W5.heap.size w2.heap.size ({ G with sp := G.sp + 1024, pc := 512 } : Rg) (skSt (rgF G) (G.sp + 1024) G.ime 0).1 (skSt (rgF G) (G.sp + 1024) G.ime 0).2 w6 := by rw [sk_start]; exact hS6
    have hi0 : (skSt (rgF G) (G.sp + 1024) G.ime 0).1.Inv := by rw [sk_start]; exact HIv.out
    have hf0' : Byt (skSt (rgF G) (G.sp + 1024) G.ime 0).2 := by rw [sk_start]; exact hf0
    have hRu : Hid _ := bun_many 8 (by decide) (skSt (rgF G) (G.sp + 1024) G.ime) skK hI8 skK7 hS6' hKs hi0 hf0'
    have HIq : Hid _ := (runs_inv (skSt (rgF G) (G.sp + 1024) G.ime) skK 8 hI8 hi0 hf0').1
    have HBy : Hid _ := (runs_inv (skSt (rgF G) (G.sp + 1024) G.ime) skK 8 hI8 hi0 hf0').2
    rw [sk_end] at hRu HIq HBy
    have HRg : Hid _ := sk_regs hbR
    have HMo : Hid _ := fun j hj => skM_off (r := rgF G) (S := G.sp + 1024) (by omega) (by omega) j hj 4 (by decide)
    have HMl : Hid _ := fun p hp => skM_lo (r := rgF G) (S := G.sp + 1024) (by omega) (by omega) p hp 4 hp (by decide)
    have HMh : Hid _ := fun p hp => skM_hi (r := rgF G) (S := G.sp + 1024) (by omega) (by omega) p hp 4 hp (by decide)
    obtain ⟨p, hp⟩ : ∃ p, p = w2.heap.size := ⟨_, rfl⟩
    obtain ⟨gm, hgm⟩ : ∃ gm, gm = W5.heap.size := ⟨_, rfl⟩
    rw [← hp, ← hgm] at hRu HKs
    rw [← hp, ← hgm]
    clear hp hgm hS6 hKs m6 hu6 u45 hPc hr4 h4 u4 hl3 hz3 HG3 u3 hbs' HSt HB hI8 hf0 hf0' hi0 hS6' hbR
    go_wp2_with fail
    refine Calls.mono hRu.out ?_
    rintro e w7 ⟨rfl, hS7⟩
    have HS7 : Hid _ := hS7
    clear hS7 hRu
    have HRe : Hid _ := bun_regs HS7.out HIq.out
    generalize hT : toRg (bd (skR (rgF G) 4) (G.sp + 1024) 520 G.ime) = T at HRe
    have HT : Hid (T.sp = G.sp + 1024 ∧ T.b = G.a ∧ T.c = G.f ∧ T.d = G.h ∧ T.e = G.l ∧ T.h = G.d ∧ T.l = G.e ∧ T.a = G.b ∧ T.f = G.c / 16 * 16) := by
      obtain ⟨q0, q1, q2, q3, q4, q5, q7, q6⟩ := HRg.out
      rw [← hT]
      exact ⟨rfl, q0, q1, q2, q3, q4, q5, q7, q6⟩
    clear hT HRg
    generalize hM : skM (rgF G) (G.sp + 1024) 4 = M at HS7 HRe HBy HMo HMl HMh
    clear hM
    go_wp2_with (first
    | (go_at_call 19; refine Calls.mono (HRe.out) ?_; rintro e w9 ⟨rfl, hS9, hu9⟩
       have HS9 : Hid _ := hS9
       have HN9 : Hid (∀ o, (w9.alloc o).heap[w9.heap.size]? = some o) := heap_alloc_new w9
       have HX9 : Hid _ := rgNew w9 T
       clear hS9 hu9)
    | (refine wpList_store_rowTo rfl 23 _ _ rfl rfl w9.heap.size T.cells rfl rfl 23 #[.int .i64 0, .int .i64 0, .int .i64 0, .int .i64 0, .int .i64 0, .int .i64 0, .int .i64 0, .int .i64 0, .int .i64 0, .int .i64 0, .bool false, .int .i64 0] (HN9.out _) (by kernel_rfl) rfl (rgOne T) ?_
       generalize hW10 : World.setRow _ _ _ = W10
       obtain ⟨hg10, hu10⟩ := HX9.out W10 _ hW10
       have HS10 : Hid _ := HS9.out.ups hu10
       obtain ⟨t0, t1, t2, t3, t4, t5, t6, t7, t8, t9, t10, t11⟩ := regBlock T hg10
       obtain ⟨e8, e2, e3, e4, e5, e6, e7, e0, e1⟩ := HT.out
       rw [e0] at t0
       rw [e1] at t1
       rw [e2] at t2
       rw [e3] at t3
       rw [e4] at t4
       rw [e5] at t5
       rw [e6] at t6
       rw [e7] at t7
       rw [e8] at t8
       obtain ⟨x0, x1, x2, x3, x4, x5, x6, x7, x8, x9, x10, x11⟩ := regBlock _ HS10.out.reg
       clear hW10 hu10 hg10 HX9 HN9 HS9 e0 e1 e2 e3 e4 e5 e6 e7 e8 t9 t10 t11 HT))
    go_loopw [9] (fun I wr => ∃ j : Nat, j ≤ 65536 ∧ I = .int .i64 j ∧ Hid (Bun w b gm p ({ G with sp := G.sp + 1024, pc := 512 } : Rg) (bd (skR (rgF G) 4) (G.sp + 1024) 520 G.ime) M wr)) (fun I _ => 65536 - (intOf I).toNat)
    case atStart => exact ⟨0, by omega, rfl, by first | exact HS10 | exact HS10.out.ups ((Up.refl W10).drew) | exact HS10.out.ups (Up.drewN W10 _)⟩
    case round =>
      clear x0 x1 x2 x3 x4 x5 x6 x7 x8 x9 x10 x11 t0 t1 t2 t3 t4 t5 t6 t7 t8
      obtain ⟨j, hj, rfl, hS⟩ := hrel
      obtain ⟨x0, x1, x2, x3, x4, x5, x6, x7, x8, x9, x10, x11⟩ := regBlock _ hS.out.reg
      clear x0 x4 x5 x6 x7 x9 x10 x11
      by_cases hlt : j < 65536
      · have hjd : decide ((j : Int) < 65536) = true := decide_eq_true (by omega)
        have hjn : (j : Int) < 65536 := by omega
        obtain ⟨X, hX⟩ : ∃ X, X = M j := ⟨_, rfl⟩
        have cm : wr.cell? ⟨gm, j, none⟩ = some (.int .u8 X) := by rw [hX]; exact (hS.out.mem.2 j hlt).1
        have hx1 : 0 ≤ X := by rw [hX]; exact (HBy.out j).1
        have hx2 : X ≤ 255 := by rw [hX]; exact (HBy.out j).2
        by_cases h0 : X = 0
        · rw [h0] at cm
          clear hX hx1 hx2 h0 x1 x2 x3
          go_wp2_with fail
          go_roundw
          case rel => exact ⟨j + 1, by omega, rfl, by first | exact hS | exact hS.out.ups ((Up.refl wr).drew) | exact hS.out.ups (Up.drewN wr _)⟩
          case measure => simp [intOf]; omega
        · have hin : (512 ≤ j ∧ j ≤ 519) ∨ (1 ≤ G.sp + 1024 - (j : Int) ∧ G.sp + 1024 - (j : Int) ≤ 8) := by
            by_cases q : 1 ≤ G.sp + 1024 - (j : Int) ∧ G.sp + 1024 - (j : Int) ≤ 8
            · exact Or.inr q
            · refine Or.inl ?_
              have e := HMo.out j (by omega)
              by_cases q2 : j < 512 ∨ 519 < j
              · rw [skF_off j q2] at e
                exact absurd (hX.trans e) h0
              · omega
          have hxn : (X == 0) = false := by simp; exact h0
          have hxm : (X != 0) = true := by simp; exact h0
          have j0 : decide ((j : Int) < 512) = false := decide_eq_false (by omega)
          clear hX h0 x1 x2 x3
          rcases hin with ⟨i1, i2⟩ | ⟨i1, i2⟩
          · have j1 : decide (519 < (j : Int)) = false := decide_eq_false (by omega)
            go_wp2_with fail
            go_roundw
            case rel => exact ⟨j + 1, by omega, rfl, by first | exact hS | exact hS.out.ups ((Up.refl wr).drew) | exact hS.out.ups (Up.drewN wr _)⟩
            case measure => simp [intOf]; omega
          · have j1 : decide (519 < (j : Int)) = true := decide_eq_true (by omega)
            have j2 : decide (G.sp + 1024 - (j : Int) < 1) = false := decide_eq_false (by omega)
            have j3 : decide (8 < G.sp + 1024 - (j : Int)) = false := decide_eq_false (by omega)
            go_wp2_with fail
            go_roundw
            case rel => exact ⟨j + 1, by omega, rfl, by first | exact hS | exact hS.out.ups ((Up.refl wr).drew) | exact hS.out.ups (Up.drewN wr _)⟩
            case measure => simp [intOf]; omega
      · have hje : j = 65536 := by omega
        subst hje
        have y1 : wr.cell? ⟨gm, (G.sp + 1024 - 1).toNat, none⟩ = some (.int .u8 G.b) := by
          have := HMh.out 0 (by decide)
          rw [show G.sp + 1024 - 2 * ((0 : Nat) : Int) - 1 = G.sp + 1024 - 1 by omega] at this
          rw [show G.b = M (G.sp + 1024 - 1).toNat from this.symm]
          exact (hS.out.mem.2 _ (by omega)).1
        have y2 : wr.cell? ⟨gm, (G.sp + 1024 - 2).toNat, none⟩ = some (.int .u8 G.c) := by
          have := HMl.out 0 (by decide)
          rw [show G.sp + 1024 - 2 * ((0 : Nat) : Int) - 2 = G.sp + 1024 - 2 by omega] at this
          rw [show G.c = M (G.sp + 1024 - 2).toNat from this.symm]
          exact (hS.out.mem.2 _ (by omega)).1
        have y8 : wr.cell? ⟨gm, (G.sp + 1024 - 8).toNat, none⟩ = some (.int .u8 G.f) := by
          have := HMl.out 3 (by decide)
          rw [show G.sp + 1024 - 2 * ((3 : Nat) : Int) - 2 = G.sp + 1024 - 8 by omega] at this
          rw [show G.f = M (G.sp + 1024 - 8).toNat from this.symm]
          exact (hS.out.mem.2 _ (by omega)).1
        have b1 := HO.out.b.1
        have b2 := HO.out.b.2
        have f1 := HO.out.f.1
        have f2 := HO.out.f.2
        have c1' := HO.out.c.1
        have c2' := HO.out.c.2
        have wb : IntKind.i64.wrap G.b = G.b := wj _ (by omega) (by omega)
        have wc : IntKind.i64.wrap G.c = G.c := wj _ (by omega) (by omega)
        have wf : IntKind.i64.wrap G.f = G.f := wj _ (by omega) (by omega)
        obtain ⟨Sx, hSx⟩ : ∃ s, s = G.sp + 1024 := ⟨_, rfl⟩
        change wr.cell? ⟨p, 8, none⟩ = some (.int .i64 (G.sp + 1024)) at x8
        rw [← hSx] at x8 y1 y2 y8
        obtain ⟨I1, hI1⟩ : ∃ I, I = Sx - 1 := ⟨_, rfl⟩
        obtain ⟨I2, hI2⟩ : ∃ I, I = Sx - 2 := ⟨_, rfl⟩
        obtain ⟨I8, hI8⟩ : ∃ I, I = Sx - 8 := ⟨_, rfl⟩
        have ws1 : IntKind.i64.wrap (Sx - 1) = I1 := by rw [hI1]; exact wj _ (by omega) (by omega)
        have ws2 : IntKind.i64.wrap (Sx - 2) = I2 := by rw [hI2]; exact wj _ (by omega) (by omega)
        have ws8 : IntKind.i64.wrap (Sx - 8) = I8 := by rw [hI8]; exact wj _ (by omega) (by omega)
        rw [← hI1] at y1
        rw [← hI2] at y2
        rw [← hI8] at y8
        have n1 : 0 ≤ I1 := by omega
        have n1' : I1 < 65536 := by omega
        have n2 : 0 ≤ I2 := by omega
        have n2' : I2 < 65536 := by omega
        have n8 : 0 ≤ I8 := by omega
        have n8' : I8 < 65536 := by omega
        clear hI1 hI2 hI8 hSx
        go_wp2_with fail
        try dsimp only [List.append]
        go_quiet (fail)
        go_wp2
        go_ret
        exact ⟨rfl, hS.out.up.trans (by first | exact Up.drewN wr _ | exact (Up.refl wr).drew | exact Up.refl wr)⟩
  · have o2 : ({ G with sp := G.sp, pc := 512 } : Rg).Ok := { HO.out with pc := (show (0 : Int) ≤ 512 ∧ (512 : Int) ≤ 65535 by decide), sp := (show 0 ≤ G.sp ∧ G.sp ≤ 65535 by omega) }
    have HSt : Hid (∀ W, Calls Tryz.prog 16 #[.agg #[.int .i64 G.a, .int .i64 G.f, .int .i64 G.b, .int .i64 G.c, .int .i64 G.d, .int .i64 G.e, .int .i64 G.h, .int .i64 G.l, .int .i64 (G.sp), .int .i64 (512), .bool G.ime, .int .i64 G.state]] W fun e w' => ∃ b, e = .returned (.pointer (some ⟨b, 0, none⟩)) ∧ W.heap.size ≤ b ∧ Cp w' b (bd (rgF G) (G.sp) 512 G.ime) ∧ Up W w') := fun W => started_ok ({ G with sp := G.sp, pc := 512 } : Rg) o2 HS0.out W
    have HIv : Hid (bd (rgF G) (G.sp) 512 G.ime).Inv := bd_inv ({ G with sp := G.sp, pc := 512 } : Rg) o2 HS0.out
    clear o2
    go_enter Tryz.func4, Tryz.ntmps4
    go_wp2_with (first
    | (go_at_call 14; refine (HB.out _).mono ?_; rintro e w2 ⟨rfl, hu2⟩
       have u2 : Up w w2 := ((Up.refl w).alloc _).trans hu2
       have HN2 : Hid (∀ o, (w2.alloc o).heap[w2.heap.size]? = some o) := heap_alloc_new w2
       have HX2 : Hid _ := rgNew w2 G
       clear hu2)
    | (refine wpList_store_rowTo rfl 23 _ _ rfl rfl w2.heap.size G.cells rfl rfl 23 #[.int .i64 0, .int .i64 0, .int .i64 0, .int .i64 0, .int .i64 0, .int .i64 0, .int .i64 0, .int .i64 0, .int .i64 0, .int .i64 0, .bool false, .int .i64 0] (HN2.out _) (by kernel_rfl) rfl (rgOne G) ?_
       generalize hW3 : World.setRow _ _ _ = W3
       obtain ⟨hg3, hu3⟩ := HX2.out W3 _ hW3
       have u3 := u2.trans hu3
       have hl3 : w2.heap.size < W3.heap.size := (Array.getElem?_eq_some_iff.1 hg3).1
       obtain ⟨r0, r1, r2, r3, r4, r5, r6, r7, r8, r9, r10, r11⟩ := regBlock G hg3
       have HG3 : Hid (RgAt W3 w2.heap.size G) := hg3
       have hz3 := u2.size
       have fz8 : W3.frozen? ⟨w2.heap.size, 8, none⟩ = false := by simp [World.frozen?, hg3]
       have fz9 : W3.frozen? ⟨w2.heap.size, 9, none⟩ = false := by simp [World.frozen?, hg3]
       clear hW3 hu3 hg3 u2 HX2 HN2)
    | (go_at_call 16; refine (HSt.out _).mono ?_; rintro e w4 ⟨b, rfl, hbs, h4, hu4⟩
       have hbs' : W3.heap.size ≤ b := by simp at hbs; omega
       have u4 : Up w w4 := (u3.setCell (p := ⟨w2.heap.size, 9, none⟩) hz3 _).trans hu4
       have hr4 : RgAt w4 w2.heap.size ({ G with sp := G.sp, pc := 512 } : Rg) := (HG3.out.set (H := { G with pc := 512 }) 9 _ rfl).up hu4
       clear hbs hu4 r0 r1 r2 r3 r4 r5 r6 r7 r8 r9 r10 r11 fz9 fz8))
    generalize hW5 : World.alloc (World.alloc w4 _) _ = W5
    have hPc : Pcs W5 (w4.heap.size + 1) [⟨512, skB⟩] := by rw [← hW5]; exact pcs1 w4 512 skB (by unfold I64; decide) sk_byt (by decide)
    have u45 : Up w4 W5 := by rw [← hW5]; exact ((Up.refl w4).alloc _).alloc _
    clear hW5
    refine (mem_one (w4.heap.size + 1) 512 skB W5 hPc).mono ?_
    rintro e w6 ⟨rfl, m6, hu6⟩
    obtain ⟨hS6, hKs⟩ := bun_mk u4 HLB.out h4 (by have := u3.size; omega) hr4.lt hr4 (by omega) u45 hu6 m6
    have HKs : Hid _ := hKs
    have hbR := rg_sk G HO.out HS0.out
    have hI8 := fun i hi => sk_ins (S := G.sp) (ime := G.ime) hbR (by omega) (by omega) i hi
    have hf0 : Byt skF := mem1_byt 512 skB sk_byt
    have hS6' : Bun w b W5.heap.size w2.heap.size ({ G with sp := G.sp, pc := 512 } : Rg) (skSt (rgF G) (G.sp) G.ime 0).1 (skSt (rgF G) (G.sp) G.ime 0).2 w6 := by rw [sk_start]; exact hS6
    have hi0 : (skSt (rgF G) (G.sp) G.ime 0).1.Inv := by rw [sk_start]; exact HIv.out
    have hf0' : Byt (skSt (rgF G) (G.sp) G.ime 0).2 := by rw [sk_start]; exact hf0
    have hRu : Hid _ := bun_many 8 (by decide) (skSt (rgF G) (G.sp) G.ime) skK hI8 skK7 hS6' hKs hi0 hf0'
    have HIq : Hid _ := (runs_inv (skSt (rgF G) (G.sp) G.ime) skK 8 hI8 hi0 hf0').1
    have HBy : Hid _ := (runs_inv (skSt (rgF G) (G.sp) G.ime) skK 8 hI8 hi0 hf0').2
    rw [sk_end] at hRu HIq HBy
    have HRg : Hid _ := sk_regs hbR
    have HMo : Hid _ := fun j hj => skM_off (r := rgF G) (S := G.sp) (by omega) (by omega) j hj 4 (by decide)
    have HMl : Hid _ := fun p hp => skM_lo (r := rgF G) (S := G.sp) (by omega) (by omega) p hp 4 hp (by decide)
    have HMh : Hid _ := fun p hp => skM_hi (r := rgF G) (S := G.sp) (by omega) (by omega) p hp 4 hp (by decide)
    obtain ⟨p, hp⟩ : ∃ p, p = w2.heap.size := ⟨_, rfl⟩
    obtain ⟨gm, hgm⟩ : ∃ gm, gm = W5.heap.size := ⟨_, rfl⟩
    rw [← hp, ← hgm] at hRu HKs
    rw [← hp, ← hgm]
    clear hp hgm hS6 hKs m6 hu6 u45 hPc hr4 h4 u4 hl3 hz3 HG3 u3 hbs' HSt HB hI8 hf0 hf0' hi0 hS6' hbR
    go_wp2_with fail
    refine Calls.mono hRu.out ?_
    rintro e w7 ⟨rfl, hS7⟩
    have HS7 : Hid _ := hS7
    clear hS7 hRu
    have HRe : Hid _ := bun_regs HS7.out HIq.out
    generalize hT : toRg (bd (skR (rgF G) 4) (G.sp) 520 G.ime) = T at HRe
    have HT : Hid (T.sp = G.sp ∧ T.b = G.a ∧ T.c = G.f ∧ T.d = G.h ∧ T.e = G.l ∧ T.h = G.d ∧ T.l = G.e ∧ T.a = G.b ∧ T.f = G.c / 16 * 16) := by
      obtain ⟨q0, q1, q2, q3, q4, q5, q7, q6⟩ := HRg.out
      rw [← hT]
      exact ⟨rfl, q0, q1, q2, q3, q4, q5, q7, q6⟩
    clear hT HRg
    generalize hM : skM (rgF G) (G.sp) 4 = M at HS7 HRe HBy HMo HMl HMh
    clear hM
    go_wp2_with (first
    | (go_at_call 19; refine Calls.mono (HRe.out) ?_; rintro e w9 ⟨rfl, hS9, hu9⟩
       have HS9 : Hid _ := hS9
       have HN9 : Hid (∀ o, (w9.alloc o).heap[w9.heap.size]? = some o) := heap_alloc_new w9
       have HX9 : Hid _ := rgNew w9 T
       clear hS9 hu9)
    | (refine wpList_store_rowTo rfl 23 _ _ rfl rfl w9.heap.size T.cells rfl rfl 23 #[.int .i64 0, .int .i64 0, .int .i64 0, .int .i64 0, .int .i64 0, .int .i64 0, .int .i64 0, .int .i64 0, .int .i64 0, .int .i64 0, .bool false, .int .i64 0] (HN9.out _) (by kernel_rfl) rfl (rgOne T) ?_
       generalize hW10 : World.setRow _ _ _ = W10
       obtain ⟨hg10, hu10⟩ := HX9.out W10 _ hW10
       have HS10 : Hid _ := HS9.out.ups hu10
       obtain ⟨t0, t1, t2, t3, t4, t5, t6, t7, t8, t9, t10, t11⟩ := regBlock T hg10
       obtain ⟨e8, e2, e3, e4, e5, e6, e7, e0, e1⟩ := HT.out
       rw [e0] at t0
       rw [e1] at t1
       rw [e2] at t2
       rw [e3] at t3
       rw [e4] at t4
       rw [e5] at t5
       rw [e6] at t6
       rw [e7] at t7
       rw [e8] at t8
       obtain ⟨x0, x1, x2, x3, x4, x5, x6, x7, x8, x9, x10, x11⟩ := regBlock _ HS10.out.reg
       clear hW10 hu10 hg10 HX9 HN9 HS9 e0 e1 e2 e3 e4 e5 e6 e7 e8 t9 t10 t11 HT))
    go_loopw [9] (fun I wr => ∃ j : Nat, j ≤ 65536 ∧ I = .int .i64 j ∧ Hid (Bun w b gm p ({ G with sp := G.sp, pc := 512 } : Rg) (bd (skR (rgF G) 4) (G.sp) 520 G.ime) M wr)) (fun I _ => 65536 - (intOf I).toNat)
    case atStart => exact ⟨0, by omega, rfl, by first | exact HS10 | exact HS10.out.ups ((Up.refl W10).drew) | exact HS10.out.ups (Up.drewN W10 _)⟩
    case round =>
      clear x0 x1 x2 x3 x4 x5 x6 x7 x8 x9 x10 x11 t0 t1 t2 t3 t4 t5 t6 t7 t8
      obtain ⟨j, hj, rfl, hS⟩ := hrel
      obtain ⟨x0, x1, x2, x3, x4, x5, x6, x7, x8, x9, x10, x11⟩ := regBlock _ hS.out.reg
      clear x0 x4 x5 x6 x7 x9 x10 x11
      by_cases hlt : j < 65536
      · have hjd : decide ((j : Int) < 65536) = true := decide_eq_true (by omega)
        have hjn : (j : Int) < 65536 := by omega
        obtain ⟨X, hX⟩ : ∃ X, X = M j := ⟨_, rfl⟩
        have cm : wr.cell? ⟨gm, j, none⟩ = some (.int .u8 X) := by rw [hX]; exact (hS.out.mem.2 j hlt).1
        have hx1 : 0 ≤ X := by rw [hX]; exact (HBy.out j).1
        have hx2 : X ≤ 255 := by rw [hX]; exact (HBy.out j).2
        by_cases h0 : X = 0
        · rw [h0] at cm
          clear hX hx1 hx2 h0 x1 x2 x3
          go_wp2_with fail
          go_roundw
          case rel => exact ⟨j + 1, by omega, rfl, by first | exact hS | exact hS.out.ups ((Up.refl wr).drew) | exact hS.out.ups (Up.drewN wr _)⟩
          case measure => simp [intOf]; omega
        · have hin : (512 ≤ j ∧ j ≤ 519) ∨ (1 ≤ G.sp - (j : Int) ∧ G.sp - (j : Int) ≤ 8) := by
            by_cases q : 1 ≤ G.sp - (j : Int) ∧ G.sp - (j : Int) ≤ 8
            · exact Or.inr q
            · refine Or.inl ?_
              have e := HMo.out j (by omega)
              by_cases q2 : j < 512 ∨ 519 < j
              · rw [skF_off j q2] at e
                exact absurd (hX.trans e) h0
              · omega
          have hxn : (X == 0) = false := by simp; exact h0
          have hxm : (X != 0) = true := by simp; exact h0
          have j0 : decide ((j : Int) < 512) = false := decide_eq_false (by omega)
          clear hX h0 x1 x2 x3
          rcases hin with ⟨i1, i2⟩ | ⟨i1, i2⟩
          · have j1 : decide (519 < (j : Int)) = false := decide_eq_false (by omega)
            go_wp2_with fail
            go_roundw
            case rel => exact ⟨j + 1, by omega, rfl, by first | exact hS | exact hS.out.ups ((Up.refl wr).drew) | exact hS.out.ups (Up.drewN wr _)⟩
            case measure => simp [intOf]; omega
          · have j1 : decide (519 < (j : Int)) = true := decide_eq_true (by omega)
            have j2 : decide (G.sp - (j : Int) < 1) = false := decide_eq_false (by omega)
            have j3 : decide (8 < G.sp - (j : Int)) = false := decide_eq_false (by omega)
            go_wp2_with fail
            go_roundw
            case rel => exact ⟨j + 1, by omega, rfl, by first | exact hS | exact hS.out.ups ((Up.refl wr).drew) | exact hS.out.ups (Up.drewN wr _)⟩
            case measure => simp [intOf]; omega
      · have hje : j = 65536 := by omega
        subst hje
        have y1 : wr.cell? ⟨gm, (G.sp - 1).toNat, none⟩ = some (.int .u8 G.b) := by
          have := HMh.out 0 (by decide)
          rw [show G.sp - 2 * ((0 : Nat) : Int) - 1 = G.sp - 1 by omega] at this
          rw [show G.b = M (G.sp - 1).toNat from this.symm]
          exact (hS.out.mem.2 _ (by omega)).1
        have y2 : wr.cell? ⟨gm, (G.sp - 2).toNat, none⟩ = some (.int .u8 G.c) := by
          have := HMl.out 0 (by decide)
          rw [show G.sp - 2 * ((0 : Nat) : Int) - 2 = G.sp - 2 by omega] at this
          rw [show G.c = M (G.sp - 2).toNat from this.symm]
          exact (hS.out.mem.2 _ (by omega)).1
        have y8 : wr.cell? ⟨gm, (G.sp - 8).toNat, none⟩ = some (.int .u8 G.f) := by
          have := HMl.out 3 (by decide)
          rw [show G.sp - 2 * ((3 : Nat) : Int) - 2 = G.sp - 8 by omega] at this
          rw [show G.f = M (G.sp - 8).toNat from this.symm]
          exact (hS.out.mem.2 _ (by omega)).1
        have b1 := HO.out.b.1
        have b2 := HO.out.b.2
        have f1 := HO.out.f.1
        have f2 := HO.out.f.2
        have c1' := HO.out.c.1
        have c2' := HO.out.c.2
        have wb : IntKind.i64.wrap G.b = G.b := wj _ (by omega) (by omega)
        have wc : IntKind.i64.wrap G.c = G.c := wj _ (by omega) (by omega)
        have wf : IntKind.i64.wrap G.f = G.f := wj _ (by omega) (by omega)
        obtain ⟨Sx, hSx⟩ : ∃ s, s = G.sp := ⟨_, rfl⟩
        change wr.cell? ⟨p, 8, none⟩ = some (.int .i64 (G.sp)) at x8
        rw [← hSx] at x8 y1 y2 y8
        obtain ⟨I1, hI1⟩ : ∃ I, I = Sx - 1 := ⟨_, rfl⟩
        obtain ⟨I2, hI2⟩ : ∃ I, I = Sx - 2 := ⟨_, rfl⟩
        obtain ⟨I8, hI8⟩ : ∃ I, I = Sx - 8 := ⟨_, rfl⟩
        have ws1 : IntKind.i64.wrap (Sx - 1) = I1 := by rw [hI1]; exact wj _ (by omega) (by omega)
        have ws2 : IntKind.i64.wrap (Sx - 2) = I2 := by rw [hI2]; exact wj _ (by omega) (by omega)
        have ws8 : IntKind.i64.wrap (Sx - 8) = I8 := by rw [hI8]; exact wj _ (by omega) (by omega)
        rw [← hI1] at y1
        rw [← hI2] at y2
        rw [← hI8] at y8
        have n1 : 0 ≤ I1 := by omega
        have n1' : I1 < 65536 := by omega
        have n2 : 0 ≤ I2 := by omega
        have n2' : I2 < 65536 := by omega
        have n8 : 0 ≤ I8 := by omega
        have n8' : I8 < 65536 := by omega
        clear hI1 hI2 hI8 hSx
        go_wp2_with fail
        try dsimp only [List.append]
        go_quiet (fail)
        go_wp2
        go_ret
        exact ⟨rfl, hS.out.up.trans (by first | exact Up.drewN wr _ | exact (Up.refl wr).drew | exact Up.refl wr)⟩
end Go.Proofs.YtgdhodhachijnaaGreatDoor
