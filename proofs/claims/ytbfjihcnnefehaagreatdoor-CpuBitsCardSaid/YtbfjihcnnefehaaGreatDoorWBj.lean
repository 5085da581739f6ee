/- CpuBits: the walk of memory. -/
import Derived.Test.YtbfjihcnnefehaaGreatDoorKb
import Derived.Test.YtbfjihcnnefehaaGreatDoorWBi
namespace Go.Proofs.YtbfjihcnnefehaaGreatDoor
open Go.RowKit
set_option linter.unusedVariables false
set_option maxRecDepth 100000 in
set_option maxHeartbeats 6000000 in
theorem bits_mem (g : Rg) (G : Rg) (bit which : Int) (K : Nat) (hK : K < 8) (HO : Hid G.Ok) (HS0 : Hid (G.state = 0))
    (HB : Hid (∀ W, Calls Tryz.prog 14 #[.agg #[.int .i64 g.a, .int .i64 g.f, .int .i64 g.b, .int .i64 g.c, .int .i64 g.d, .int .i64 g.e, .int .i64 g.h, .int .i64 g.l, .int .i64 g.sp, .int .i64 g.pc, .bool g.ime, .int .i64 g.state]] W fun e w' => e = .returned (.agg G.cells) ∧ Up W w'))
    (HI1 : Hid (I64 bit)) (HI2 : Hid (I64 which)) (HKe : Hid (pickI bit 8 = (K : Int))) (HNe : Hid (pickI which 8 = 6))
    (w : World) (HLB : Hid (LaidB w)) :
    Calls Tryz.prog 6 #[.agg g.cells, .int .i64 bit, .int .i64 which] w fun e w' => e = .returned (.bool true) ∧ Up w w' := by
  have L1 := HO.out.l.1
  have L2 := HO.out.l.2
  have o2 : ({ G with h := 194, pc := 512 } : Rg).Ok := { HO.out with h := (show (0 : Int) ≤ 194 ∧ (194 : Int) ≤ 255 by decide), pc := (show (0 : Int) ≤ 512 ∧ (512 : Int) ≤ 65535 by decide) }
  obtain ⟨r, hr⟩ : ∃ r, r = rgF { G with h := 194, pc := 512 } := ⟨_, rfl⟩
  have HR : Hid (r 4 = 194 ∧ r 5 = G.l ∧ r 6 = G.f) := by rw [hr]; exact ⟨rfl, rfl, rfl⟩
  have HSt : Hid (∀ W, Calls Tryz.prog 16 #[.agg #[.int .i64 G.a, .int .i64 G.f, .int .i64 G.b, .int .i64 G.c, .int .i64 G.d, .int .i64 G.e, .int .i64 (194), .int .i64 G.l, .int .i64 G.sp, .int .i64 (512), .bool G.ime, .int .i64 G.state]] W fun e w' => ∃ b, e = .returned (.pointer (some ⟨b, 0, none⟩)) ∧ W.heap.size ≤ b ∧ Cp w' b (bd r G.sp 512 G.ime) ∧ Up W w') := fun W => by rw [hr]; exact started_ok { G with h := 194, pc := 512 } o2 HS0.out W
  have HIv : Hid (bd r G.sp 512 G.ime).Inv := by rw [hr]; exact bd_inv { G with h := 194, pc := 512 } o2 HS0.out
  clear o2 hr
  have hKi : (K : Int) < 8 := by omega
  rw [show g.cells = #[.int .i64 g.a, .int .i64 g.f, .int .i64 g.b, .int .i64 g.c, .int .i64 g.d, .int .i64 g.e, .int .i64 g.h, .int .i64 g.l, .int .i64 g.sp, .int .i64 g.pc, .bool g.ime, .int .i64 g.state] from rfl]
  go_enter Tryz.func6, Tryz.ntmps6
  go_wp2_with (first
    | (go_at_call 14; refine (HB.out _).mono ?_; rintro e w2 ⟨rfl, hu2⟩
       have u2 : Up w w2 := ((Up.refl w).alloc _).trans hu2
       have HN2 : Hid (∀ o, (w2.alloc o).heap[w2.heap.size]? = some o) := heap_alloc_new w2
       have HX2 : Hid _ := rgNew w2 G
       clear hu2)
    | (refine wpList_store_rowTo rfl 23 _ _ rfl rfl w2.heap.size G.cells rfl rfl 23 #[.int .i64 0, .int .i64 0, .int .i64 0, .int .i64 0, .int .i64 0, .int .i64 0, .int .i64 0, .int .i64 0, .int .i64 0, .int .i64 0, .bool false, .int .i64 0] (HN2.out _) (by kernel_rfl) rfl (rgOne G) ?_
       generalize hW3 : World.setRow _ _ _ = W3
       obtain ⟨hg3, hu3⟩ := HX2.out W3 _ hW3
       have u3 := u2.trans hu3
       have hl3 : w2.heap.size < W3.heap.size := (Array.getElem?_eq_some_iff.1 hg3).1
       obtain ⟨r0, r1, r2, r3, r4, r5, r6, r7, r8, r9, r10, r11⟩ := regBlock G hg3
       have HG3 : Hid (RgAt W3 w2.heap.size G) := hg3
       have hz3 := u2.size
       have fz6 : W3.frozen? ⟨w2.heap.size, 6, none⟩ = false := by simp [World.frozen?, hg3]
       have fz9 : W3.frozen? ⟨w2.heap.size, 9, none⟩ = false := by simp [World.frozen?, hg3]
       clear hW3 hu3 hg3 u2 HX2 HN2
       go_wp2_with fail)
    | (go_at_call 15; refine (pick_any _ _ _ (by first | exact HI1.out | exact HI2.out) (by decide) (by decide)).mono ?_; (first | rw [HKe.out] | rw [HNe.out]); rintro e w' ⟨rfl, rfl⟩))
  generalize hW4 : World.alloc _ _ = W4
  have HS : Hid (Up w W4 ∧ LaidB W4 ∧ RgAt W4 w2.heap.size { G with h := 194, pc := 512 }) := by
    rw [← hW4]
    have u := (((u3.setCell (p := ⟨w2.heap.size, 9, none⟩) hz3 (.int .i64 512)).setCell (p := ⟨w2.heap.size, 6, none⟩) hz3 (.int .i64 194)).alloc (Obj.cells #[.int .i64 G.b, .int .i64 G.c, .int .i64 G.d, .int .i64 G.e, .int .i64 194, .int .i64 G.l, .int .i64 173, .int .i64 G.a] 3))
    exact ⟨u, HLB.out.up u, ((HG3.out.set (H := { G with pc := 512 }) 9 _ rfl).set (H := { G with h := 194, pc := 512 }) 6 _ rfl).up ((Up.refl _).alloc _)⟩
  obtain ⟨p, hp⟩ : ∃ p, p = w2.heap.size := ⟨_, rfl⟩
  have hwp : w.heap.size ≤ p := by omega
  rw [← hp] at HS
  rw [← hp]
  clear hW4 hp r0 r1 r2 r3 r4 r5 r6 r7 r8 r9 r10 r11 fz6 fz9 HG3 hl3 hz3 u3 HB
  go_loopw [11] (fun I wr => ∃ j : Nat, 1 ≤ j ∧ j ≤ 4 ∧ I = .int .i64 j ∧ Hid (Up w wr ∧ LaidB wr ∧ RgAt wr p { G with h := 194, pc := 512 })) (fun I _ => 4 - (intOf I).toNat)
  case atStart => exact ⟨1, by omega, by omega, rfl, HS⟩
  case round =>
    obtain ⟨j, hj1, hj4, rfl, hS⟩ := hrel
    obtain ⟨q0, q1, q2, q3, q4, q5, q6, q7, q8, q9, q10, q11⟩ := regBlock _ hS.out.2.2
    have hj : j = 1 ∨ j = 2 ∨ j = 3 ∨ j = 4 := by omega
    rcases hj with rfl | rfl | rfl | rfl
    · have hcb : cbOp 1 K 6 = 64 + 8 * (K : Int) + 6 := by unfold cbOp; omega
      have hcb' : ∀ x ∈ [203, cbOp 1 K 6], (0 : Int) ≤ x ∧ x ≤ 255 := by
        intro x hx
        simp at hx
        rcases hx with rfl | rfl
        · decide
        · rw [hcb]; omega
      have HCb : Hid _ := hcb'
      have HCe : Hid _ := hcb
      clear hcb hcb'
      go_wp2_with fail
      refine (HSt.out _).mono ?_
      rintro e w4 ⟨b, rfl, hbs, h4, hu4⟩
      have hpw : p < wr.heap.size := hS.out.2.2.lt
      have hpb : p ≠ b := by omega
      have r4 : RgAt w4 p { G with h := 194, pc := 512 } := hS.out.2.2.up hu4
      have hlp : p < w4.heap.size := r4.lt
      clear q0 q1 q2 q3 q4 q5 q6 q7 q8 q9 q10 q11
      obtain ⟨q0, q1, q2, q3, q4, q5, q6, q7, q8, q9, q10, q11⟩ := regBlock _ r4
      have HR4 : Hid (RgAt w4 p { G with h := 194, pc := 512 } ∧ Cp w4 b (bd r G.sp 512 G.ime) ∧ Up wr w4 ∧ wr.heap.size ≤ b) := ⟨r4, h4, hu4, hbs⟩
      clear r4 h4 hu4 hbs
      go_wp2_with fail
      generalize hW5 : World.alloc (World.alloc (World.alloc w4 _) _) _ = W5
      have hPc : Pcs W5 (w4.heap.size + 1 + 1) [⟨512, [203, cbOp 1 K 6]⟩, ⟨49664 + G.l, [173]⟩] := by
        rw [← hW5]
        have := pcs2 w4 512 (49664 + G.l) [203, cbOp 1 K 6] [173] (by unfold I64; decide) (by unfold I64; omega) HCb.out (by intro x hx; simp at hx; subst hx; decide) (by simp) (by simp)
        rw [HCe.out] at this ⊢
        exact this
      have u5 : Up w4 W5 := by rw [← hW5]; exact (((Up.refl w4).alloc _).alloc _).alloc _
      clear hW5
      refine (mem_two (w4.heap.size + 1 + 1) 512 _ (49664 + G.l) _ W5 hPc).mono ?_
      rintro e w6 ⟨rfl, m6, hu6⟩
      obtain ⟨hS8, hK8⟩ := bun_mk (w := w) (hS.out.1.trans HR4.out.2.2.1) HLB.out HR4.out.2.1 (by have := hS.out.1.size; have := HR4.out.2.2.2; omega) HR4.out.1.lt HR4.out.1 hpb u5 hu6 m6
      have hfb : Byt (mem2 512 [203, cbOp 1 K 6] (49664 + G.l) [173]) := mem2_byt 512 _ _ _ HCb.out (by intro x hx; simp at hx; subst hx; decide)
      have hwd : wordP (r 4) (r 5) = 49664 + G.l := by rw [HR.out.1, HR.out.2.1]; unfold wordP; omega
      have hf0 : mem2 512 [203, cbOp 1 K 6] (49664 + G.l) [173] (512 : Int).toNat = 203 := mem2_code [203, cbOp 1 K 6] (by simp) _ _ (by omega) (by omega) 0 (by simp)
      have hf1 : mem2 512 [203, cbOp 1 K 6] (49664 + G.l) [173] (adr 512 0) = cbOp 1 K 6 := mem2_code [203, cbOp 1 K 6] (by simp) _ _ (by omega) (by omega) 1 (by simp)
      have hf2 : mem2 512 [203, cbOp 1 K 6] (49664 + G.l) [173] (wordP (r 4) (r 5)).toNat = 173 := by rw [hwd]; exact mem2_at _ _ _ (by omega) (by omega)
      have hIn := cb_bit (r := r) (sp := G.sp) (ime := G.ime) K hK hf0 hf1 hf2
      have hRu : Hid _ := bun_runs hIn hS8 hK8 HIv.out hfb
      have HIq : Hid _ := hIn.inv HIv.out hfb
      clear q0 q1 q2 q3 q4 q5 q6 q7 q8 q9 q10 q11
      obtain ⟨q0, q1, q2, q3, q4, q5, q6, q7, q8, q9, q10, q11⟩ := regBlock _ hS8.reg
      generalize hgm : W5.heap.size = gm at *
      clear hS8 m6 hu6 u5 hPc hgm hK8 hf0 hf1 hIn
      go_wp2_with fail
      refine Calls.mono hRu.out ?_
      rintro e w9 ⟨rfl, hS9⟩
      clear q0 q1 q2 q3 q4 q5 q6 q7 q8 q9 q10 q11
      obtain ⟨q0, q1, q2, q3, q4, q5, q6, q7, q8, q9, q10, q11⟩ := regBlock _ hS9.reg
      have HRe : Hid _ := bun_regs hS9 HIq.out.1
      obtain ⟨T, hT⟩ : ∃ T, T = toRg (bd (upd r 6 (altF (cbOp 1 K 6) (173 % 256) (r 6))) G.sp (pc2 512) G.ime) := ⟨_, rfl⟩
      change Hid (Calls _ _ _ _ fun e w' => e = .returned (.agg (toRg (bd (upd r 6 (altF (cbOp 1 K 6) (173 % 256) (r 6))) G.sp (pc2 512) G.ime)).cells) ∧ _) at HRe
      rw [← hT] at HRe
      have HT : Hid (T.f = altF (cbOp 1 K 6) 173 G.f) := by
        rw [hT, ← HR.out.2.2]
        rfl
      obtain ⟨I, hI⟩ : ∃ I, I = 49664 + G.l := ⟨_, rfl⟩
      have hI0 : 0 ≤ I := by omega
      have hI1 : I < 65536 := by omega
      have hIh : IntKind.i64.wrap 49664 = 49664 := by decide
      have hIw : IntKind.i64.wrap (49664 + G.l) = I := by rw [hI]; exact wj _ (by omega) (by omega)
      obtain ⟨X, hX⟩ : ∃ X, X = altR (cbOp 1 K 6) 173 G.f := ⟨_, rfl⟩
      have HX : Hid (∃ M, Mem w9 gm M ∧ M I.toNat = X ∧ 0 ≤ X ∧ X ≤ 255) := by
        refine ⟨_, hS9.mem, ?_⟩
        have hm := HIq.out.2 I.toNat
        have he : (mem2 512 [203, cbOp 1 K 6] (49664 + G.l) [173]) I.toNat = X := by
          rw [hX, hI, bi1R K 6 hK (by decide)]
          rw [hwd] at hf2
          exact hf2
        have hm' : 0 ≤ X ∧ X ≤ 255 := by rw [← he]; exact hm
        exact ⟨he, hm'⟩
      obtain ⟨M, HM⟩ := HX.out
      have HMm : Hid _ := HM
      have hx1 : 0 ≤ X := HM.2.2.1
      have hx2 : X ≤ 255 := HM.2.2.2
      have HXe : Hid (X = altR (cbOp 1 K 6) 173 G.f) := hX
      clear hS9 hRu hT hX hI HX HM hf2 hwd hfb
      go_wp2_with (first
        | (go_at_call 19; refine Calls.mono ((Calls.and_up HMm.out.1 HRe.out)) ?_; rintro e w91 ⟨rfl, hS91, hu91⟩
           have HS91 : Hid _ := hS91
           have HN91 : Hid (∀ o, (w91.alloc o).heap[w91.heap.size]? = some o) := heap_alloc_new w91
           have HX91 : Hid _ := rgNew w91 T
           clear hS91 hu91)
        | (refine wpList_store_rowTo rfl 23 _ _ rfl rfl w91.heap.size T.cells rfl rfl 23 #[.int .i64 0, .int .i64 0, .int .i64 0, .int .i64 0, .int .i64 0, .int .i64 0, .int .i64 0, .int .i64 0, .int .i64 0, .int .i64 0, .bool false, .int .i64 0] (HN91.out _) (by kernel_rfl) rfl (rgOne T) ?_
           generalize hW10 : World.setRow _ _ _ = W10
           obtain ⟨hg10, hu10⟩ := HX91.out W10 _ hW10
           have HS10 : Hid _ := HS91.out.1.ups hu10
           obtain ⟨t0, t1, t2, t3, t4, t5, t6, t7, t8, t9, t10, t11⟩ := regBlock T hg10
           clear q0 q1 q2 q3 q4 q5 q6 q7 q8 q9 q10 q11
           obtain ⟨q0, q1, q2, q3, q4, q5, q6, q7, q8, q9, q10, q11⟩ := regBlock _ HS10.out.reg
           have cm : W10.cell? ⟨gm, I.toNat, none⟩ = some (.int .u8 X) := by rw [← HMm.out.2.1]; exact ((HS91.out.2.up hu10).2 I.toNat (by omega)).1
           have HT10 : Hid (w91.heap.size < W10.heap.size) := RgAt.lt hg10
           clear hW10 hu10 hg10 HX91 HN91 HS91))
      have hpl : p < W10.heap.size := HS10.out.reg.lt
      have hgl : gm < W10.heap.size := HS10.out.mem.1
      have htl : w91.heap.size < W10.heap.size := HT10.out
      refine wp_region_held_drew (S := (fun w' => w'.cell? ⟨w91.heap.size, 0, none⟩ = some (.int .i64 T.a) ∧ w'.cell? ⟨w91.heap.size, 2, none⟩ = some (.int .i64 T.b) ∧ w'.cell? ⟨w91.heap.size, 3, none⟩ = some (.int .i64 T.c) ∧ w'.cell? ⟨w91.heap.size, 4, none⟩ = some (.int .i64 T.d) ∧ w'.cell? ⟨w91.heap.size, 5, none⟩ = some (.int .i64 T.e) ∧ w'.cell? ⟨w91.heap.size, 6, none⟩ = some (.int .i64 T.h) ∧ w'.cell? ⟨w91.heap.size, 7, none⟩ = some (.int .i64 T.l) ∧ w'.cell? ⟨p, 6, none⟩ = some (.int .i64 194) ∧ w'.cell? ⟨p, 7, none⟩ = some (.int .i64 G.l) ∧ w'.cell? ⟨gm, I.toNat, none⟩ = some (.int .u8 X))) (by kernel_rfl) ?_ (fun hHeld => ?_)
      · (try dsimp only); exact ⟨t0, t2, t3, t4, t5, t6, t7, q6, q7, cm⟩
      refine wpAnyH_take (i := 0) (v := ?_) (by simp only [List.getElem?_toArray, List.getElem?_cons_zero]; rfl) (by kernel_rfl) (by kernel_rfl) (by kernel_rfl) (by intro _ _ _ h; exact h) (Or.inl ⟨by rfl, ?_⟩) (by assumption) ?_
      rotate_left
      · (intro w hSw; (try dsimp only at hSw); go_simp <;> with_reducible rfl)
      try simp only [Act.put, List.setIfInBounds_toArray, List.set_cons_zero, List.set_cons_succ]
      refine wpAnyH_take (i := 1) (v := ?_) (by simp only [List.getElem?_toArray, List.getElem?_cons_succ, List.getElem?_cons_zero]; rfl) (by kernel_rfl) (by kernel_rfl) (by kernel_rfl) (by intro _ _ _ h; exact h) (Or.inl ⟨by rfl, ?_⟩) (by assumption) ?_
      rotate_left
      · (intro w hSw; (try dsimp only at hSw); go_simp <;> with_reducible rfl)
      try simp only [Act.put, List.setIfInBounds_toArray, List.set_cons_zero, List.set_cons_succ]
      refine wpAnyH_take (i := 2) (v := ?_) (by simp only [List.getElem?_toArray, List.getElem?_cons_succ, List.getElem?_cons_zero]; rfl) (by kernel_rfl) (by kernel_rfl) (by kernel_rfl) (by intro _ _ _ h; exact h) (Or.inl ⟨by rfl, ?_⟩) (by assumption) ?_
      rotate_left
      · (intro w hSw; (try dsimp only at hSw); go_simp <;> with_reducible rfl)
      try simp only [Act.put, List.setIfInBounds_toArray, List.set_cons_zero, List.set_cons_succ]
      refine wpAnyH_take (i := 3) (v := ?_) (by simp only [List.getElem?_toArray, List.getElem?_cons_succ, List.getElem?_cons_zero]; rfl) (by kernel_rfl) (by kernel_rfl) (by kernel_rfl) (by intro _ _ _ h; exact h) (Or.inl ⟨by rfl, ?_⟩) (by assumption) ?_
      rotate_left
      · (intro w hSw; (try dsimp only at hSw); go_simp <;> with_reducible rfl)
      try simp only [Act.put, List.setIfInBounds_toArray, List.set_cons_zero, List.set_cons_succ]
      refine wpAnyH_take (i := 4) (v := ?_) (by simp only [List.getElem?_toArray, List.getElem?_cons_succ, List.getElem?_cons_zero]; rfl) (by kernel_rfl) (by kernel_rfl) (by kernel_rfl) (by intro _ _ _ h; exact h) (Or.inl ⟨by rfl, ?_⟩) (by assumption) ?_
      rotate_left
      · (intro w hSw; (try dsimp only at hSw); go_simp <;> with_reducible rfl)
      try simp only [Act.put, List.setIfInBounds_toArray, List.set_cons_zero, List.set_cons_succ]
      refine wpAnyH_take (i := 5) (v := ?_) (by simp only [List.getElem?_toArray, List.getElem?_cons_succ, List.getElem?_cons_zero]; rfl) (by kernel_rfl) (by kernel_rfl) (by kernel_rfl) (by intro _ _ _ h; exact h) (Or.inl ⟨by rfl, ?_⟩) (by assumption) ?_
      rotate_left
      · (intro w hSw; (try dsimp only at hSw); go_simp <;> with_reducible rfl)
      try simp only [Act.put, List.setIfInBounds_toArray, List.set_cons_zero, List.set_cons_succ]
      refine wpAnyH_take (i := 6) (v := ?_) (by simp only [List.getElem?_toArray, List.getElem?_cons_succ, List.getElem?_cons_zero]; rfl) (by kernel_rfl) (by kernel_rfl) (by kernel_rfl) (by intro _ _ _ h; exact h) (Or.inl ⟨by rfl, ?_⟩) (by assumption) ?_
      rotate_left
      · (intro w hSw; (try dsimp only at hSw); go_simp <;> with_reducible rfl)
      try simp only [Act.put, List.setIfInBounds_toArray, List.set_cons_zero, List.set_cons_succ]
      refine wpAnyH_take (i := 7) (v := ?_) (by simp only [List.getElem?_toArray, List.getElem?_cons_succ, List.getElem?_cons_zero]; rfl) (by kernel_rfl) (by kernel_rfl) (by kernel_rfl) (by intro _ _ _ h; exact h) (Or.inl ⟨by rfl, ?_⟩) (by assumption) ?_
      rotate_left
      · (intro w hSw; (try dsimp only at hSw); go_simp <;> with_reducible rfl)
      try simp only [Act.put, List.setIfInBounds_toArray, List.set_cons_zero, List.set_cons_succ]
      refine wpAnyH_take (i := 8) (v := ?_) (by simp only [List.getElem?_toArray, List.getElem?_cons_succ, List.getElem?_cons_zero]; rfl) (by kernel_rfl) (by kernel_rfl) (by kernel_rfl) (by intro _ _ _ h; exact h) (Or.inl ⟨by rfl, ?_⟩) (by assumption) ?_
      rotate_left
      · (intro w hSw; (try dsimp only at hSw); go_simp <;> with_reducible rfl)
      try simp only [Act.put, List.setIfInBounds_toArray, List.set_cons_zero, List.set_cons_succ]
      refine wpAnyH_take (i := 9) (v := ?_) (by simp only [List.getElem?_toArray, List.getElem?_cons_succ, List.getElem?_cons_zero]; rfl) (by kernel_rfl) (by kernel_rfl) (by kernel_rfl) (by intro _ _ _ h; exact h) (Or.inl ⟨by rfl, ?_⟩) (by assumption) ?_
      rotate_left
      · (intro w hSw; (try dsimp only at hSw); go_simp <;> with_reducible rfl)
      try simp only [Act.put, List.setIfInBounds_toArray, List.set_cons_zero, List.set_cons_succ]
      refine wpAnyH_take (i := 10) (v := ?_) (by simp only [List.getElem?_toArray, List.getElem?_cons_succ, List.getElem?_cons_zero]; rfl) (by kernel_rfl) (by kernel_rfl) (by kernel_rfl) (by intro _ _ _ h; exact h) (Or.inl ⟨by rfl, ?_⟩) (by assumption) ?_
      rotate_left
      · (intro w hSw; (try dsimp only at hSw); go_simp <;> with_reducible rfl)
      try simp only [Act.put, List.setIfInBounds_toArray, List.set_cons_zero, List.set_cons_succ]
      refine wpAnyH_take (i := 11) (v := ?_) (by simp only [List.getElem?_toArray, List.getElem?_cons_succ, List.getElem?_cons_zero]; rfl) (by kernel_rfl) (by kernel_rfl) (by kernel_rfl) (by intro _ _ _ h; exact h) (Or.inl ⟨by rfl, ?_⟩) (by assumption) ?_
      rotate_left
      · (intro w hSw; (try dsimp only at hSw); go_simp <;> with_reducible rfl)
      try simp only [Act.put, List.setIfInBounds_toArray, List.set_cons_zero, List.set_cons_succ]
      refine wpAnyH_take (i := 12) (v := ?_) (by simp only [List.getElem?_toArray, List.getElem?_cons_succ, List.getElem?_cons_zero]; rfl) (by kernel_rfl) (by kernel_rfl) (by kernel_rfl) (by intro _ _ _ h; exact h) (Or.inl ⟨by rfl, ?_⟩) (by assumption) ?_
      rotate_left
      · (intro w hSw; (try dsimp only at hSw); go_simp <;> with_reducible rfl)
      try simp only [Act.put, List.setIfInBounds_toArray, List.set_cons_zero, List.set_cons_succ]
      refine wpAnyH_take (i := 13) (v := ?_) (by simp only [List.getElem?_toArray, List.getElem?_cons_succ, List.getElem?_cons_zero]; rfl) (by kernel_rfl) (by kernel_rfl) (by kernel_rfl) (by intro _ _ _ h; exact h) (Or.inl ⟨by rfl, ?_⟩) (by assumption) ?_
      rotate_left
      · (intro w hSw; (try dsimp only at hSw); go_simp <;> with_reducible rfl)
      try simp only [Act.put, List.setIfInBounds_toArray, List.set_cons_zero, List.set_cons_succ]
      refine wpAnyH_take (i := 14) (v := ?_) (by simp only [List.getElem?_toArray, List.getElem?_cons_succ, List.getElem?_cons_zero]; rfl) (by kernel_rfl) (by kernel_rfl) (by kernel_rfl) (by intro _ _ _ h; exact h) (Or.inl ⟨by rfl, ?_⟩) (by assumption) ?_
      rotate_left
      · (intro w hSw; (try dsimp only at hSw); go_simp <;> with_reducible rfl)
      try simp only [Act.put, List.setIfInBounds_toArray, List.set_cons_zero, List.set_cons_succ]
      refine wpAnyH_take (i := 15) (v := ?_) (by simp only [List.getElem?_toArray, List.getElem?_cons_succ, List.getElem?_cons_zero]; rfl) (by kernel_rfl) (by kernel_rfl) (by kernel_rfl) (by intro _ _ _ h; exact h) (Or.inl ⟨by rfl, ?_⟩) (by assumption) ?_
      rotate_left
      · (intro w hSw; (try dsimp only at hSw); go_simp <;> with_reducible rfl)
      try simp only [Act.put, List.setIfInBounds_toArray, List.set_cons_zero, List.set_cons_succ]
      refine wpAnyH_take (i := 16) (v := ?_) (by simp only [List.getElem?_toArray, List.getElem?_cons_succ, List.getElem?_cons_zero]; rfl) (by kernel_rfl) (by kernel_rfl) (by kernel_rfl) (by intro _ _ _ h; exact h) (Or.inl ⟨by rfl, ?_⟩) (by assumption) ?_
      rotate_left
      · (intro w hSw; (try dsimp only at hSw); go_simp <;> with_reducible rfl)
      try simp only [Act.put, List.setIfInBounds_toArray, List.set_cons_zero, List.set_cons_succ]
      refine wpAnyH_take (i := 17) (v := ?_) (by simp only [List.getElem?_toArray, List.getElem?_cons_succ, List.getElem?_cons_zero]; rfl) (by kernel_rfl) (by kernel_rfl) (by kernel_rfl) (by intro _ _ _ h; exact h) (Or.inl ⟨by rfl, ?_⟩) (by assumption) ?_
      rotate_left
      · (intro w hSw; (try dsimp only at hSw); go_simp <;> with_reducible rfl)
      try simp only [Act.put, List.setIfInBounds_toArray, List.set_cons_zero, List.set_cons_succ]
      refine wpAnyH_take (i := 18) (v := ?_) (by simp only [List.getElem?_toArray, List.getElem?_cons_succ, List.getElem?_cons_zero]; rfl) (by kernel_rfl) (by kernel_rfl) (by kernel_rfl) (by intro _ _ _ h; exact h) (Or.inl ⟨by rfl, ?_⟩) (by assumption) ?_
      rotate_left
      · (intro w hSw; (try dsimp only at hSw); go_simp <;> with_reducible rfl)
      try simp only [Act.put, List.setIfInBounds_toArray, List.set_cons_zero, List.set_cons_succ]
      refine wpAnyH_take (i := 19) (v := ?_) (by simp only [List.getElem?_toArray, List.getElem?_cons_succ, List.getElem?_cons_zero]; rfl) (by kernel_rfl) (by kernel_rfl) (by kernel_rfl) (by intro _ _ _ h; exact h) (Or.inl ⟨by rfl, ?_⟩) (by assumption) ?_
      rotate_left
      · (intro w hSw; (try dsimp only at hSw); go_simp <;> with_reducible rfl)
      try simp only [Act.put, List.setIfInBounds_toArray, List.set_cons_zero, List.set_cons_succ]
      refine wpAnyH_take (i := 20) (v := ?_) (by simp only [List.getElem?_toArray, List.getElem?_cons_succ, List.getElem?_cons_zero]; rfl) (by kernel_rfl) (by kernel_rfl) (by kernel_rfl) (by intro _ _ _ h; exact h) (Or.inl ⟨by rfl, ?_⟩) (by assumption) ?_
      rotate_left
      · (intro w hSw; (try dsimp only at hSw); go_simp <;> with_reducible rfl)
      try simp only [Act.put, List.setIfInBounds_toArray, List.set_cons_zero, List.set_cons_succ]
      refine wpAnyH_take (i := 21) (v := ?_) (by simp only [List.getElem?_toArray, List.getElem?_cons_succ, List.getElem?_cons_zero]; rfl) (by kernel_rfl) (by kernel_rfl) (by kernel_rfl) (by intro _ _ _ h; exact h) (Or.inl ⟨by rfl, ?_⟩) (by assumption) ?_
      rotate_left
      · (intro w hSw; (try dsimp only at hSw); go_simp <;> with_reducible rfl)
      try simp only [Act.put, List.setIfInBounds_toArray, List.set_cons_zero, List.set_cons_succ]
      refine wpAnyH_take (i := 22) (v := ?_) (by simp only [List.getElem?_toArray, List.getElem?_cons_succ, List.getElem?_cons_zero]; rfl) (by kernel_rfl) (by kernel_rfl) (by kernel_rfl) (by intro _ _ _ h; exact h) (Or.inl ⟨by rfl, ?_⟩) (by assumption) ?_
      rotate_left
      · (intro w hSw; (try dsimp only at hSw); go_simp <;> with_reducible rfl)
      try simp only [Act.put, List.setIfInBounds_toArray, List.set_cons_zero, List.set_cons_succ]
      refine wpAnyH_take (i := 23) (v := ?_) (by simp only [List.getElem?_toArray, List.getElem?_cons_succ, List.getElem?_cons_zero]; rfl) (by kernel_rfl) (by kernel_rfl) (by kernel_rfl) (by intro _ _ _ h; exact h) (Or.inl ⟨by rfl, ?_⟩) (by assumption) ?_
      rotate_left
      · (intro w hSw; (try dsimp only at hSw); go_simp <;> with_reducible rfl)
      try simp only [Act.put, List.setIfInBounds_toArray, List.set_cons_zero, List.set_cons_succ]
      refine wpAnyH_take (i := 25) (v := ?_) (by simp only [List.getElem?_toArray, List.getElem?_cons_succ, List.getElem?_cons_zero]; rfl) (by kernel_rfl) (by kernel_rfl) (by kernel_rfl) (by intro _ _ _ h; exact h) (Or.inl ⟨by rfl, ?_⟩) (by assumption) ?_
      rotate_left
      · (intro w hSw; (try dsimp only at hSw); go_simp <;> with_reducible rfl)
      try simp only [Act.put, List.setIfInBounds_toArray, List.set_cons_zero, List.set_cons_succ]
      refine wpAnyH_ready (rs := [24]) (by kernel_rfl) (by simp) ?_
      refine AllReadyH.cons (by simp only [List.getElem?_toArray, List.getElem?_cons_succ, List.getElem?_cons_zero]; rfl) (fun K hK => ?_) AllReadyH.nil
      go_simp
      refine hK.out _ _ ?_ (fun hHeld => ?_)
      · (try dsimp only); go_keep
      clear hK K
      try simp only [Act.put, List.setIfInBounds_toArray, List.set_cons_zero, List.set_cons_succ]
      refine wpAnyH_take (i := 26) (v := ?_) (by simp only [List.getElem?_toArray, List.getElem?_cons_succ, List.getElem?_cons_zero]; rfl) (by kernel_rfl) (by kernel_rfl) (by kernel_rfl) (by intro _ _ _ h; exact h) (Or.inl ⟨by rfl, ?_⟩) (by assumption) ?_
      rotate_left
      · (intro w hSw; (try dsimp only at hSw); go_simp <;> with_reducible rfl)
      try simp only [Act.put, List.setIfInBounds_toArray, List.set_cons_zero, List.set_cons_succ]
      refine wpAnyH_ready (rs := [27]) (by kernel_rfl) (by simp) ?_
      refine AllReadyH.cons (by simp only [List.getElem?_toArray, List.getElem?_cons_succ, List.getElem?_cons_zero]; rfl) (fun K hK => ?_) AllReadyH.nil
      go_simp
      refine hK.out _ _ ?_ (fun hHeld => ?_)
      · (try dsimp only); go_keep
      clear hK K
      try simp only [Act.put, List.setIfInBounds_toArray, List.set_cons_zero, List.set_cons_succ]
      refine wpAnyH_take (i := 28) (v := ?_) (by simp only [List.getElem?_toArray, List.getElem?_cons_succ, List.getElem?_cons_zero]; rfl) (by kernel_rfl) (by kernel_rfl) (by kernel_rfl) (by intro _ _ _ h; exact h) (Or.inl ⟨by rfl, ?_⟩) (by assumption) ?_
      rotate_left
      · (intro w hSw; (try dsimp only at hSw); go_simp <;> with_reducible rfl)
      try simp only [Act.put, List.setIfInBounds_toArray, List.set_cons_zero, List.set_cons_succ]
      refine wpAnyH_done (by kernel_rfl) ?_ _
      rw [wj X hx1 (by omega), HXe.out]
      generalize hWd : World.drew _ = Wd
      have hud : Up W10 Wd := by rw [← hWd]; exact ((Up.refl W10).alloc _).drew
      have HSd : Hid _ := HS10.out.ups hud
      have t1d : Wd.cell? ⟨w91.heap.size, 1, none⟩ = some (.int .i64 T.f) := (hud.cell htl).trans t1
      rw [HT.out] at t1d
      obtain ⟨d0, d1, d2, d3, d4, d5, d6, d7, d8, d9, d10, d11⟩ := regBlock _ HSd.out.reg
      clear hWd t0 t1 t2 t3 t4 t5 t6 t7 t8 t9 t10 t11 q0 q1 q2 q3 q4 q5 q6 q7 q8 q9 q10 q11 cm hpl hgl htl HS10 hud HT10
      rw [bi1R K 6 hK (by decide)]
      cases hB : (bits .and .i64 (173 / 2 ^ K) 1 == 0)
      · rw [bi1Ff K 6 hK (by decide) 173 G.f (by decide) (by decide) HO.out.f.1 HO.out.f.2 hB] at t1d
        go_wp2_with fail
        go_roundw
        case rel => exact ⟨2, by omega, by omega, rfl, HSd.out.up, HSd.out.lb, HSd.out.reg⟩
        case measure => simp [intOf]
      · rw [bi1Ft K 6 hK (by decide) 173 G.f (by decide) (by decide) HO.out.f.1 HO.out.f.2 hB] at t1d
        go_wp2_with fail
        go_roundw
        case rel => exact ⟨2, by omega, by omega, rfl, HSd.out.up, HSd.out.lb, HSd.out.reg⟩
        case measure => simp [intOf]
    · have hcb : cbOp 2 K 6 = 128 + 8 * (K : Int) + 6 := by unfold cbOp; omega
      have hcb' : ∀ x ∈ [203, cbOp 2 K 6], (0 : Int) ≤ x ∧ x ≤ 255 := by
        intro x hx
        simp at hx
        rcases hx with rfl | rfl
        · decide
        · rw [hcb]; omega
      have HCb : Hid _ := hcb'
      have HCe : Hid _ := hcb
      clear hcb hcb'
      go_wp2_with fail
      refine (HSt.out _).mono ?_
      rintro e w4 ⟨b, rfl, hbs, h4, hu4⟩
      have hpw : p < wr.heap.size := hS.out.2.2.lt
      have hpb : p ≠ b := by omega
      have r4 : RgAt w4 p { G with h := 194, pc := 512 } := hS.out.2.2.up hu4
      have hlp : p < w4.heap.size := r4.lt
      clear q0 q1 q2 q3 q4 q5 q6 q7 q8 q9 q10 q11
      obtain ⟨q0, q1, q2, q3, q4, q5, q6, q7, q8, q9, q10, q11⟩ := regBlock _ r4
      have HR4 : Hid (RgAt w4 p { G with h := 194, pc := 512 } ∧ Cp w4 b (bd r G.sp 512 G.ime) ∧ Up wr w4 ∧ wr.heap.size ≤ b) := ⟨r4, h4, hu4, hbs⟩
      clear r4 h4 hu4 hbs
      go_wp2_with fail
      generalize hW5 : World.alloc (World.alloc (World.alloc w4 _) _) _ = W5
      have hPc : Pcs W5 (w4.heap.size + 1 + 1) [⟨512, [203, cbOp 2 K 6]⟩, ⟨49664 + G.l, [173]⟩] := by
        rw [← hW5]
        have := pcs2 w4 512 (49664 + G.l) [203, cbOp 2 K 6] [173] (by unfold I64; decide) (by unfold I64; omega) HCb.out (by intro x hx; simp at hx; subst hx; decide) (by simp) (by simp)
        rw [HCe.out] at this ⊢
        exact this
      have u5 : Up w4 W5 := by rw [← hW5]; exact (((Up.refl w4).alloc _).alloc _).alloc _
      clear hW5
      refine (mem_two (w4.heap.size + 1 + 1) 512 _ (49664 + G.l) _ W5 hPc).mono ?_
      rintro e w6 ⟨rfl, m6, hu6⟩
      obtain ⟨hS8, hK8⟩ := bun_mk (w := w) (hS.out.1.trans HR4.out.2.2.1) HLB.out HR4.out.2.1 (by have := hS.out.1.size; have := HR4.out.2.2.2; omega) HR4.out.1.lt HR4.out.1 hpb u5 hu6 m6
      have hfb : Byt (mem2 512 [203, cbOp 2 K 6] (49664 + G.l) [173]) := mem2_byt 512 _ _ _ HCb.out (by intro x hx; simp at hx; subst hx; decide)
      have hwd : wordP (r 4) (r 5) = 49664 + G.l := by rw [HR.out.1, HR.out.2.1]; unfold wordP; omega
      have hf0 : mem2 512 [203, cbOp 2 K 6] (49664 + G.l) [173] (512 : Int).toNat = 203 := mem2_code [203, cbOp 2 K 6] (by simp) _ _ (by omega) (by omega) 0 (by simp)
      have hf1 : mem2 512 [203, cbOp 2 K 6] (49664 + G.l) [173] (adr 512 0) = cbOp 2 K 6 := mem2_code [203, cbOp 2 K 6] (by simp) _ _ (by omega) (by omega) 1 (by simp)
      have hf2 : mem2 512 [203, cbOp 2 K 6] (49664 + G.l) [173] (wordP (r 4) (r 5)).toNat = 173 := by rw [hwd]; exact mem2_at _ _ _ (by omega) (by omega)
      have hIn := cb_mem (r := r) (sp := G.sp) (ime := G.ime) 2 K (Or.inl rfl) hK hf0 hf1 hf2
      have hRu : Hid _ := bun_runs hIn hS8 hK8 HIv.out hfb
      have HIq : Hid _ := hIn.inv HIv.out hfb
      clear q0 q1 q2 q3 q4 q5 q6 q7 q8 q9 q10 q11
      obtain ⟨q0, q1, q2, q3, q4, q5, q6, q7, q8, q9, q10, q11⟩ := regBlock _ hS8.reg
      generalize hgm : W5.heap.size = gm at *
      clear hS8 m6 hu6 u5 hPc hgm hK8 hf0 hf1 hIn
      go_wp2_with fail
      refine Calls.mono hRu.out ?_
      rintro e w9 ⟨rfl, hS9⟩
      clear q0 q1 q2 q3 q4 q5 q6 q7 q8 q9 q10 q11
      obtain ⟨q0, q1, q2, q3, q4, q5, q6, q7, q8, q9, q10, q11⟩ := regBlock _ hS9.reg
      have HRe : Hid _ := bun_regs hS9 HIq.out.1
      obtain ⟨T, hT⟩ : ∃ T, T = toRg (bd (upd r 6 (altF (cbOp 2 K 6) (173 % 256) (r 6))) G.sp (pc2 512) G.ime) := ⟨_, rfl⟩
      change Hid (Calls _ _ _ _ fun e w' => e = .returned (.agg (toRg (bd (upd r 6 (altF (cbOp 2 K 6) (173 % 256) (r 6))) G.sp (pc2 512) G.ime)).cells) ∧ _) at HRe
      rw [← hT] at HRe
      have HT : Hid (T.f = altF (cbOp 2 K 6) 173 G.f) := by
        rw [hT, ← HR.out.2.2]
        rfl
      obtain ⟨I, hI⟩ : ∃ I, I = 49664 + G.l := ⟨_, rfl⟩
      have hI0 : 0 ≤ I := by omega
      have hI1 : I < 65536 := by omega
      have hIh : IntKind.i64.wrap 49664 = 49664 := by decide
      have hIw : IntKind.i64.wrap (49664 + G.l) = I := by rw [hI]; exact wj _ (by omega) (by omega)
      obtain ⟨X, hX⟩ : ∃ X, X = altR (cbOp 2 K 6) 173 G.f := ⟨_, rfl⟩
      have HX : Hid (∃ M, Mem w9 gm M ∧ M I.toNat = X ∧ 0 ≤ X ∧ X ≤ 255) := by
        refine ⟨_, hS9.mem, ?_⟩
        have hm := HIq.out.2 I.toNat
        have he : (upd (mem2 512 [203, cbOp 2 K 6] (49664 + G.l) [173]) (wordP (r 4) (r 5)).toNat (altR (cbOp 2 K 6) (173 % 256) (r 6))) I.toNat = X := by
          rw [hX, hI]
          rw [hwd, ← HR.out.2.2]
          exact if_pos rfl
        have hm' : 0 ≤ X ∧ X ≤ 255 := by rw [← he]; exact hm
        exact ⟨he, hm'⟩
      obtain ⟨M, HM⟩ := HX.out
      have HMm : Hid _ := HM
      have hx1 : 0 ≤ X := HM.2.2.1
      have hx2 : X ≤ 255 := HM.2.2.2
      have HXe : Hid (X = altR (cbOp 2 K 6) 173 G.f) := hX
      clear hS9 hRu hT hX hI HX HM hf2 hwd hfb
      go_wp2_with (first
        | (go_at_call 19; refine Calls.mono ((Calls.and_up HMm.out.1 HRe.out)) ?_; rintro e w91 ⟨rfl, hS91, hu91⟩
           have HS91 : Hid _ := hS91
           have HN91 : Hid (∀ o, (w91.alloc o).heap[w91.heap.size]? = some o) := heap_alloc_new w91
           have HX91 : Hid _ := rgNew w91 T
           clear hS91 hu91)
        | (refine wpList_store_rowTo rfl 23 _ _ rfl rfl w91.heap.size T.cells rfl rfl 23 #[.int .i64 0, .int .i64 0, .int .i64 0, .int .i64 0, .int .i64 0, .int .i64 0, .int .i64 0, .int .i64 0, .int .i64 0, .int .i64 0, .bool false, .int .i64 0] (HN91.out _) (by kernel_rfl) rfl (rgOne T) ?_
           generalize hW10 : World.setRow _ _ _ = W10
           obtain ⟨hg10, hu10⟩ := HX91.out W10 _ hW10
           have HS10 : Hid _ := HS91.out.1.ups hu10
           obtain ⟨t0, t1, t2, t3, t4, t5, t6, t7, t8, t9, t10, t11⟩ := regBlock T hg10
           clear q0 q1 q2 q3 q4 q5 q6 q7 q8 q9 q10 q11
           obtain ⟨q0, q1, q2, q3, q4, q5, q6, q7, q8, q9, q10, q11⟩ := regBlock _ HS10.out.reg
           have cm : W10.cell? ⟨gm, I.toNat, none⟩ = some (.int .u8 X) := by rw [← HMm.out.2.1]; exact ((HS91.out.2.up hu10).2 I.toNat (by omega)).1
           have HT10 : Hid (w91.heap.size < W10.heap.size) := RgAt.lt hg10
           clear hW10 hu10 hg10 HX91 HN91 HS91))
      have hpl : p < W10.heap.size := HS10.out.reg.lt
      have hgl : gm < W10.heap.size := HS10.out.mem.1
      have htl : w91.heap.size < W10.heap.size := HT10.out
      refine wp_region_held_drew (S := (fun w' => w'.cell? ⟨w91.heap.size, 0, none⟩ = some (.int .i64 T.a) ∧ w'.cell? ⟨w91.heap.size, 2, none⟩ = some (.int .i64 T.b) ∧ w'.cell? ⟨w91.heap.size, 3, none⟩ = some (.int .i64 T.c) ∧ w'.cell? ⟨w91.heap.size, 4, none⟩ = some (.int .i64 T.d) ∧ w'.cell? ⟨w91.heap.size, 5, none⟩ = some (.int .i64 T.e) ∧ w'.cell? ⟨w91.heap.size, 6, none⟩ = some (.int .i64 T.h) ∧ w'.cell? ⟨w91.heap.size, 7, none⟩ = some (.int .i64 T.l) ∧ w'.cell? ⟨p, 6, none⟩ = some (.int .i64 194) ∧ w'.cell? ⟨p, 7, none⟩ = some (.int .i64 G.l) ∧ w'.cell? ⟨gm, I.toNat, none⟩ = some (.int .u8 X))) (by kernel_rfl) ?_ (fun hHeld => ?_)
      · (try dsimp only); exact ⟨t0, t2, t3, t4, t5, t6, t7, q6, q7, cm⟩
      refine wpAnyH_take (i := 0) (v := ?_) (by simp only [List.getElem?_toArray, List.getElem?_cons_zero]; rfl) (by kernel_rfl) (by kernel_rfl) (by kernel_rfl) (by intro _ _ _ h; exact h) (Or.inl ⟨by rfl, ?_⟩) (by assumption) ?_
      rotate_left
      · (intro w hSw; (try dsimp only at hSw); go_simp <;> with_reducible rfl)
      try simp only [Act.put, List.setIfInBounds_toArray, List.set_cons_zero, List.set_cons_succ]
      refine wpAnyH_take (i := 1) (v := ?_) (by simp only [List.getElem?_toArray, List.getElem?_cons_succ, List.getElem?_cons_zero]; rfl) (by kernel_rfl) (by kernel_rfl) (by kernel_rfl) (by intro _ _ _ h; exact h) (Or.inl ⟨by rfl, ?_⟩) (by assumption) ?_
      rotate_left
      · (intro w hSw; (try dsimp only at hSw); go_simp <;> with_reducible rfl)
      try simp only [Act.put, List.setIfInBounds_toArray, List.set_cons_zero, List.set_cons_succ]
      refine wpAnyH_take (i := 2) (v := ?_) (by simp only [List.getElem?_toArray, List.getElem?_cons_succ, List.getElem?_cons_zero]; rfl) (by kernel_rfl) (by kernel_rfl) (by kernel_rfl) (by intro _ _ _ h; exact h) (Or.inl ⟨by rfl, ?_⟩) (by assumption) ?_
      rotate_left
      · (intro w hSw; (try dsimp only at hSw); go_simp <;> with_reducible rfl)
      try simp only [Act.put, List.setIfInBounds_toArray, List.set_cons_zero, List.set_cons_succ]
      refine wpAnyH_take (i := 3) (v := ?_) (by simp only [List.getElem?_toArray, List.getElem?_cons_succ, List.getElem?_cons_zero]; rfl) (by kernel_rfl) (by kernel_rfl) (by kernel_rfl) (by intro _ _ _ h; exact h) (Or.inl ⟨by rfl, ?_⟩) (by assumption) ?_
      rotate_left
      · (intro w hSw; (try dsimp only at hSw); go_simp <;> with_reducible rfl)
      try simp only [Act.put, List.setIfInBounds_toArray, List.set_cons_zero, List.set_cons_succ]
      refine wpAnyH_take (i := 4) (v := ?_) (by simp only [List.getElem?_toArray, List.getElem?_cons_succ, List.getElem?_cons_zero]; rfl) (by kernel_rfl) (by kernel_rfl) (by kernel_rfl) (by intro _ _ _ h; exact h) (Or.inl ⟨by rfl, ?_⟩) (by assumption) ?_
      rotate_left
      · (intro w hSw; (try dsimp only at hSw); go_simp <;> with_reducible rfl)
      try simp only [Act.put, List.setIfInBounds_toArray, List.set_cons_zero, List.set_cons_succ]
      refine wpAnyH_take (i := 5) (v := ?_) (by simp only [List.getElem?_toArray, List.getElem?_cons_succ, List.getElem?_cons_zero]; rfl) (by kernel_rfl) (by kernel_rfl) (by kernel_rfl) (by intro _ _ _ h; exact h) (Or.inl ⟨by rfl, ?_⟩) (by assumption) ?_
      rotate_left
      · (intro w hSw; (try dsimp only at hSw); go_simp <;> with_reducible rfl)
      try simp only [Act.put, List.setIfInBounds_toArray, List.set_cons_zero, List.set_cons_succ]
      refine wpAnyH_take (i := 6) (v := ?_) (by simp only [List.getElem?_toArray, List.getElem?_cons_succ, List.getElem?_cons_zero]; rfl) (by kernel_rfl) (by kernel_rfl) (by kernel_rfl) (by intro _ _ _ h; exact h) (Or.inl ⟨by rfl, ?_⟩) (by assumption) ?_
      rotate_left
      · (intro w hSw; (try dsimp only at hSw); go_simp <;> with_reducible rfl)
      try simp only [Act.put, List.setIfInBounds_toArray, List.set_cons_zero, List.set_cons_succ]
      refine wpAnyH_take (i := 7) (v := ?_) (by simp only [List.getElem?_toArray, List.getElem?_cons_succ, List.getElem?_cons_zero]; rfl) (by kernel_rfl) (by kernel_rfl) (by kernel_rfl) (by intro _ _ _ h; exact h) (Or.inl ⟨by rfl, ?_⟩) (by assumption) ?_
      rotate_left
      · (intro w hSw; (try dsimp only at hSw); go_simp <;> with_reducible rfl)
      try simp only [Act.put, List.setIfInBounds_toArray, List.set_cons_zero, List.set_cons_succ]
      refine wpAnyH_take (i := 8) (v := ?_) (by simp only [List.getElem?_toArray, List.getElem?_cons_succ, List.getElem?_cons_zero]; rfl) (by kernel_rfl) (by kernel_rfl) (by kernel_rfl) (by intro _ _ _ h; exact h) (Or.inl ⟨by rfl, ?_⟩) (by assumption) ?_
      rotate_left
      · (intro w hSw; (try dsimp only at hSw); go_simp <;> with_reducible rfl)
      try simp only [Act.put, List.setIfInBounds_toArray, List.set_cons_zero, List.set_cons_succ]
      refine wpAnyH_take (i := 9) (v := ?_) (by simp only [List.getElem?_toArray, List.getElem?_cons_succ, List.getElem?_cons_zero]; rfl) (by kernel_rfl) (by kernel_rfl) (by kernel_rfl) (by intro _ _ _ h; exact h) (Or.inl ⟨by rfl, ?_⟩) (by assumption) ?_
      rotate_left
      · (intro w hSw; (try dsimp only at hSw); go_simp <;> with_reducible rfl)
      try simp only [Act.put, List.setIfInBounds_toArray, List.set_cons_zero, List.set_cons_succ]
      refine wpAnyH_take (i := 10) (v := ?_) (by simp only [List.getElem?_toArray, List.getElem?_cons_succ, List.getElem?_cons_zero]; rfl) (by kernel_rfl) (by kernel_rfl) (by kernel_rfl) (by intro _ _ _ h; exact h) (Or.inl ⟨by rfl, ?_⟩) (by assumption) ?_
      rotate_left
      · (intro w hSw; (try dsimp only at hSw); go_simp <;> with_reducible rfl)
      try simp only [Act.put, List.setIfInBounds_toArray, List.set_cons_zero, List.set_cons_succ]
      refine wpAnyH_take (i := 11) (v := ?_) (by simp only [List.getElem?_toArray, List.getElem?_cons_succ, List.getElem?_cons_zero]; rfl) (by kernel_rfl) (by kernel_rfl) (by kernel_rfl) (by intro _ _ _ h; exact h) (Or.inl ⟨by rfl, ?_⟩) (by assumption) ?_
      rotate_left
      · (intro w hSw; (try dsimp only at hSw); go_simp <;> with_reducible rfl)
      try simp only [Act.put, List.setIfInBounds_toArray, List.set_cons_zero, List.set_cons_succ]
      refine wpAnyH_take (i := 12) (v := ?_) (by simp only [List.getElem?_toArray, List.getElem?_cons_succ, List.getElem?_cons_zero]; rfl) (by kernel_rfl) (by kernel_rfl) (by kernel_rfl) (by intro _ _ _ h; exact h) (Or.inl ⟨by rfl, ?_⟩) (by assumption) ?_
      rotate_left
      · (intro w hSw; (try dsimp only at hSw); go_simp <;> with_reducible rfl)
      try simp only [Act.put, List.setIfInBounds_toArray, List.set_cons_zero, List.set_cons_succ]
      refine wpAnyH_take (i := 13) (v := ?_) (by simp only [List.getElem?_toArray, List.getElem?_cons_succ, List.getElem?_cons_zero]; rfl) (by kernel_rfl) (by kernel_rfl) (by kernel_rfl) (by intro _ _ _ h; exact h) (Or.inl ⟨by rfl, ?_⟩) (by assumption) ?_
      rotate_left
      · (intro w hSw; (try dsimp only at hSw); go_simp <;> with_reducible rfl)
      try simp only [Act.put, List.setIfInBounds_toArray, List.set_cons_zero, List.set_cons_succ]
      refine wpAnyH_take (i := 14) (v := ?_) (by simp only [List.getElem?_toArray, List.getElem?_cons_succ, List.getElem?_cons_zero]; rfl) (by kernel_rfl) (by kernel_rfl) (by kernel_rfl) (by intro _ _ _ h; exact h) (Or.inl ⟨by rfl, ?_⟩) (by assumption) ?_
      rotate_left
      · (intro w hSw; (try dsimp only at hSw); go_simp <;> with_reducible rfl)
      try simp only [Act.put, List.setIfInBounds_toArray, List.set_cons_zero, List.set_cons_succ]
      refine wpAnyH_take (i := 15) (v := ?_) (by simp only [List.getElem?_toArray, List.getElem?_cons_succ, List.getElem?_cons_zero]; rfl) (by kernel_rfl) (by kernel_rfl) (by kernel_rfl) (by intro _ _ _ h; exact h) (Or.inl ⟨by rfl, ?_⟩) (by assumption) ?_
      rotate_left
      · (intro w hSw; (try dsimp only at hSw); go_simp <;> with_reducible rfl)
      try simp only [Act.put, List.setIfInBounds_toArray, List.set_cons_zero, List.set_cons_succ]
      refine wpAnyH_take (i := 16) (v := ?_) (by simp only [List.getElem?_toArray, List.getElem?_cons_succ, List.getElem?_cons_zero]; rfl) (by kernel_rfl) (by kernel_rfl) (by kernel_rfl) (by intro _ _ _ h; exact h) (Or.inl ⟨by rfl, ?_⟩) (by assumption) ?_
      rotate_left
      · (intro w hSw; (try dsimp only at hSw); go_simp <;> with_reducible rfl)
      try simp only [Act.put, List.setIfInBounds_toArray, List.set_cons_zero, List.set_cons_succ]
      refine wpAnyH_take (i := 17) (v := ?_) (by simp only [List.getElem?_toArray, List.getElem?_cons_succ, List.getElem?_cons_zero]; rfl) (by kernel_rfl) (by kernel_rfl) (by kernel_rfl) (by intro _ _ _ h; exact h) (Or.inl ⟨by rfl, ?_⟩) (by assumption) ?_
      rotate_left
      · (intro w hSw; (try dsimp only at hSw); go_simp <;> with_reducible rfl)
      try simp only [Act.put, List.setIfInBounds_toArray, List.set_cons_zero, List.set_cons_succ]
      refine wpAnyH_take (i := 18) (v := ?_) (by simp only [List.getElem?_toArray, List.getElem?_cons_succ, List.getElem?_cons_zero]; rfl) (by kernel_rfl) (by kernel_rfl) (by kernel_rfl) (by intro _ _ _ h; exact h) (Or.inl ⟨by rfl, ?_⟩) (by assumption) ?_
      rotate_left
      · (intro w hSw; (try dsimp only at hSw); go_simp <;> with_reducible rfl)
      try simp only [Act.put, List.setIfInBounds_toArray, List.set_cons_zero, List.set_cons_succ]
      refine wpAnyH_take (i := 19) (v := ?_) (by simp only [List.getElem?_toArray, List.getElem?_cons_succ, List.getElem?_cons_zero]; rfl) (by kernel_rfl) (by kernel_rfl) (by kernel_rfl) (by intro _ _ _ h; exact h) (Or.inl ⟨by rfl, ?_⟩) (by assumption) ?_
      rotate_left
      · (intro w hSw; (try dsimp only at hSw); go_simp <;> with_reducible rfl)
      try simp only [Act.put, List.setIfInBounds_toArray, List.set_cons_zero, List.set_cons_succ]
      refine wpAnyH_take (i := 20) (v := ?_) (by simp only [List.getElem?_toArray, List.getElem?_cons_succ, List.getElem?_cons_zero]; rfl) (by kernel_rfl) (by kernel_rfl) (by kernel_rfl) (by intro _ _ _ h; exact h) (Or.inl ⟨by rfl, ?_⟩) (by assumption) ?_
      rotate_left
      · (intro w hSw; (try dsimp only at hSw); go_simp <;> with_reducible rfl)
      try simp only [Act.put, List.setIfInBounds_toArray, List.set_cons_zero, List.set_cons_succ]
      refine wpAnyH_take (i := 21) (v := ?_) (by simp only [List.getElem?_toArray, List.getElem?_cons_succ, List.getElem?_cons_zero]; rfl) (by kernel_rfl) (by kernel_rfl) (by kernel_rfl) (by intro _ _ _ h; exact h) (Or.inl ⟨by rfl, ?_⟩) (by assumption) ?_
      rotate_left
      · (intro w hSw; (try dsimp only at hSw); go_simp <;> with_reducible rfl)
      try simp only [Act.put, List.setIfInBounds_toArray, List.set_cons_zero, List.set_cons_succ]
      refine wpAnyH_take (i := 22) (v := ?_) (by simp only [List.getElem?_toArray, List.getElem?_cons_succ, List.getElem?_cons_zero]; rfl) (by kernel_rfl) (by kernel_rfl) (by kernel_rfl) (by intro _ _ _ h; exact h) (Or.inl ⟨by rfl, ?_⟩) (by assumption) ?_
      rotate_left
      · (intro w hSw; (try dsimp only at hSw); go_simp <;> with_reducible rfl)
      try simp only [Act.put, List.setIfInBounds_toArray, List.set_cons_zero, List.set_cons_succ]
      refine wpAnyH_take (i := 23) (v := ?_) (by simp only [List.getElem?_toArray, List.getElem?_cons_succ, List.getElem?_cons_zero]; rfl) (by kernel_rfl) (by kernel_rfl) (by kernel_rfl) (by intro _ _ _ h; exact h) (Or.inl ⟨by rfl, ?_⟩) (by assumption) ?_
      rotate_left
      · (intro w hSw; (try dsimp only at hSw); go_simp <;> with_reducible rfl)
      try simp only [Act.put, List.setIfInBounds_toArray, List.set_cons_zero, List.set_cons_succ]
      refine wpAnyH_take (i := 25) (v := ?_) (by simp only [List.getElem?_toArray, List.getElem?_cons_succ, List.getElem?_cons_zero]; rfl) (by kernel_rfl) (by kernel_rfl) (by kernel_rfl) (by intro _ _ _ h; exact h) (Or.inl ⟨by rfl, ?_⟩) (by assumption) ?_
      rotate_left
      · (intro w hSw; (try dsimp only at hSw); go_simp <;> with_reducible rfl)
      try simp only [Act.put, List.setIfInBounds_toArray, List.set_cons_zero, List.set_cons_succ]
      refine wpAnyH_ready (rs := [24]) (by kernel_rfl) (by simp) ?_
      refine AllReadyH.cons (by simp only [List.getElem?_toArray, List.getElem?_cons_succ, List.getElem?_cons_zero]; rfl) (fun K hK => ?_) AllReadyH.nil
      go_simp
      refine hK.out _ _ ?_ (fun hHeld => ?_)
      · (try dsimp only); go_keep
      clear hK K
      try simp only [Act.put, List.setIfInBounds_toArray, List.set_cons_zero, List.set_cons_succ]
      refine wpAnyH_take (i := 26) (v := ?_) (by simp only [List.getElem?_toArray, List.getElem?_cons_succ, List.getElem?_cons_zero]; rfl) (by kernel_rfl) (by kernel_rfl) (by kernel_rfl) (by intro _ _ _ h; exact h) (Or.inl ⟨by rfl, ?_⟩) (by assumption) ?_
      rotate_left
      · (intro w hSw; (try dsimp only at hSw); go_simp <;> with_reducible rfl)
      try simp only [Act.put, List.setIfInBounds_toArray, List.set_cons_zero, List.set_cons_succ]
      refine wpAnyH_ready (rs := [27]) (by kernel_rfl) (by simp) ?_
      refine AllReadyH.cons (by simp only [List.getElem?_toArray, List.getElem?_cons_succ, List.getElem?_cons_zero]; rfl) (fun K hK => ?_) AllReadyH.nil
      go_simp
      refine hK.out _ _ ?_ (fun hHeld => ?_)
      · (try dsimp only); go_keep
      clear hK K
      try simp only [Act.put, List.setIfInBounds_toArray, List.set_cons_zero, List.set_cons_succ]
      refine wpAnyH_take (i := 28) (v := ?_) (by simp only [List.getElem?_toArray, List.getElem?_cons_succ, List.getElem?_cons_zero]; rfl) (by kernel_rfl) (by kernel_rfl) (by kernel_rfl) (by intro _ _ _ h; exact h) (Or.inl ⟨by rfl, ?_⟩) (by assumption) ?_
      rotate_left
      · (intro w hSw; (try dsimp only at hSw); go_simp <;> with_reducible rfl)
      try simp only [Act.put, List.setIfInBounds_toArray, List.set_cons_zero, List.set_cons_succ]
      refine wpAnyH_done (by kernel_rfl) ?_ _
      rw [wj X hx1 (by omega), HXe.out]
      generalize hWd : World.drew _ = Wd
      have hud : Up W10 Wd := by rw [← hWd]; exact ((Up.refl W10).alloc _).drew
      have HSd : Hid _ := HS10.out.ups hud
      have t1d : Wd.cell? ⟨w91.heap.size, 1, none⟩ = some (.int .i64 T.f) := (hud.cell htl).trans t1
      rw [HT.out] at t1d
      obtain ⟨d0, d1, d2, d3, d4, d5, d6, d7, d8, d9, d10, d11⟩ := regBlock _ HSd.out.reg
      clear hWd t0 t1 t2 t3 t4 t5 t6 t7 t8 t9 t10 t11 q0 q1 q2 q3 q4 q5 q6 q7 q8 q9 q10 q11 cm hpl hgl htl HS10 hud HT10
      rw [bi2R K 6 hK (by decide) 173 G.f (by decide) (by decide)]
      rw [bi2F K 6 hK (by decide)] at t1d
      go_wp2_with fail
      go_roundw
      case rel => exact ⟨3, by omega, by omega, rfl, HSd.out.up, HSd.out.lb, HSd.out.reg⟩
      case measure => simp [intOf]
    · have hcb : cbOp 3 K 6 = 192 + 8 * (K : Int) + 6 := by unfold cbOp; omega
      have hcb' : ∀ x ∈ [203, cbOp 3 K 6], (0 : Int) ≤ x ∧ x ≤ 255 := by
        intro x hx
        simp at hx
        rcases hx with rfl | rfl
        · decide
        · rw [hcb]; omega
      have HCb : Hid _ := hcb'
      have HCe : Hid _ := hcb
      clear hcb hcb'
      go_wp2_with fail
      refine (HSt.out _).mono ?_
      rintro e w4 ⟨b, rfl, hbs, h4, hu4⟩
      have hpw : p < wr.heap.size := hS.out.2.2.lt
      have hpb : p ≠ b := by omega
      have r4 : RgAt w4 p { G with h := 194, pc := 512 } := hS.out.2.2.up hu4
      have hlp : p < w4.heap.size := r4.lt
      clear q0 q1 q2 q3 q4 q5 q6 q7 q8 q9 q10 q11
      obtain ⟨q0, q1, q2, q3, q4, q5, q6, q7, q8, q9, q10, q11⟩ := regBlock _ r4
      have HR4 : Hid (RgAt w4 p { G with h := 194, pc := 512 } ∧ Cp w4 b (bd r G.sp 512 G.ime) ∧ Up wr w4 ∧ wr.heap.size ≤ b) := ⟨r4, h4, hu4, hbs⟩
      clear r4 h4 hu4 hbs
      go_wp2_with fail
      generalize hW5 : World.alloc (World.alloc (World.alloc w4 _) _) _ = W5
      have hPc : Pcs W5 (w4.heap.size + 1 + 1) [⟨512, [203, cbOp 3 K 6]⟩, ⟨49664 + G.l, [173]⟩] := by
        rw [← hW5]
        have := pcs2 w4 512 (49664 + G.l) [203, cbOp 3 K 6] [173] (by unfold I64; decide) (by unfold I64; omega) HCb.out (by intro x hx; simp at hx; subst hx; decide) (by simp) (by simp)
        rw [HCe.out] at this ⊢
        exact this
      have u5 : Up w4 W5 := by rw [← hW5]; exact (((Up.refl w4).alloc _).alloc _).alloc _
      clear hW5
      refine (mem_two (w4.heap.size + 1 + 1) 512 _ (49664 + G.l) _ W5 hPc).mono ?_
      rintro e w6 ⟨rfl, m6, hu6⟩
      obtain ⟨hS8, hK8⟩ := bun_mk (w := w) (hS.out.1.trans HR4.out.2.2.1) HLB.out HR4.out.2.1 (by have := hS.out.1.size; have := HR4.out.2.2.2; omega) HR4.out.1.lt HR4.out.1 hpb u5 hu6 m6
      have hfb : Byt (mem2 512 [203, cbOp 3 K 6] (49664 + G.l) [173]) := mem2_byt 512 _ _ _ HCb.out (by intro x hx; simp at hx; subst hx; decide)
      have hwd : wordP (r 4) (r 5) = 49664 + G.l := by rw [HR.out.1, HR.out.2.1]; unfold wordP; omega
      have hf0 : mem2 512 [203, cbOp 3 K 6] (49664 + G.l) [173] (512 : Int).toNat = 203 := mem2_code [203, cbOp 3 K 6] (by simp) _ _ (by omega) (by omega) 0 (by simp)
      have hf1 : mem2 512 [203, cbOp 3 K 6] (49664 + G.l) [173] (adr 512 0) = cbOp 3 K 6 := mem2_code [203, cbOp 3 K 6] (by simp) _ _ (by omega) (by omega) 1 (by simp)
      have hf2 : mem2 512 [203, cbOp 3 K 6] (49664 + G.l) [173] (wordP (r 4) (r 5)).toNat = 173 := by rw [hwd]; exact mem2_at _ _ _ (by omega) (by omega)
      have hIn := cb_mem (r := r) (sp := G.sp) (ime := G.ime) 3 K (Or.inr rfl) hK hf0 hf1 hf2
      have hRu : Hid _ := bun_runs hIn hS8 hK8 HIv.out hfb
      have HIq : Hid _ := hIn.inv HIv.out hfb
      clear q0 q1 q2 q3 q4 q5 q6 q7 q8 q9 q10 q11
      obtain ⟨q0, q1, q2, q3, q4, q5, q6, q7, q8, q9, q10, q11⟩ := regBlock _ hS8.reg
      generalize hgm : W5.heap.size = gm at *
      clear hS8 m6 hu6 u5 hPc hgm hK8 hf0 hf1 hIn
      go_wp2_with fail
      refine Calls.mono hRu.out ?_
      rintro e w9 ⟨rfl, hS9⟩
      clear q0 q1 q2 q3 q4 q5 q6 q7 q8 q9 q10 q11
      obtain ⟨q0, q1, q2, q3, q4, q5, q6, q7, q8, q9, q10, q11⟩ := regBlock _ hS9.reg
      have HRe : Hid _ := bun_regs hS9 HIq.out.1
      obtain ⟨T, hT⟩ : ∃ T, T = toRg (bd (upd r 6 (altF (cbOp 3 K 6) (173 % 256) (r 6))) G.sp (pc2 512) G.ime) := ⟨_, rfl⟩
      change Hid (Calls _ _ _ _ fun e w' => e = .returned (.agg (toRg (bd (upd r 6 (altF (cbOp 3 K 6) (173 % 256) (r 6))) G.sp (pc2 512) G.ime)).cells) ∧ _) at HRe
      rw [← hT] at HRe
      have HT : Hid (T.f = altF (cbOp 3 K 6) 173 G.f) := by
        rw [hT, ← HR.out.2.2]
        rfl
      obtain ⟨I, hI⟩ : ∃ I, I = 49664 + G.l := ⟨_, rfl⟩
      have hI0 : 0 ≤ I := by omega
      have hI1 : I < 65536 := by omega
      have hIh : IntKind.i64.wrap 49664 = 49664 := by decide
      have hIw : IntKind.i64.wrap (49664 + G.l) = I := by rw [hI]; exact wj _ (by omega) (by omega)
      obtain ⟨X, hX⟩ : ∃ X, X = altR (cbOp 3 K 6) 173 G.f := ⟨_, rfl⟩
      have HX : Hid (∃ M, Mem w9 gm M ∧ M I.toNat = X ∧ 0 ≤ X ∧ X ≤ 255) := by
        refine ⟨_, hS9.mem, ?_⟩
        have hm := HIq.out.2 I.toNat
        have he : (upd (mem2 512 [203, cbOp 3 K 6] (49664 + G.l) [173]) (wordP (r 4) (r 5)).toNat (altR (cbOp 3 K 6) (173 % 256) (r 6))) I.toNat = X := by
          rw [hX, hI]
          rw [hwd, ← HR.out.2.2]
          exact if_pos rfl
        have hm' : 0 ≤ X ∧ X ≤ 255 := by rw [← he]; exact hm
        exact ⟨he, hm'⟩
      obtain ⟨M, HM⟩ := HX.out
      have HMm : Hid _ := HM
      have hx1 : 0 ≤ X := HM.2.2.1
      have hx2 : X ≤ 255 := HM.2.2.2
      have HXe : Hid (X = altR (cbOp 3 K 6) 173 G.f) := hX
      clear hS9 hRu hT hX hI HX HM hf2 hwd hfb
      go_wp2_with (first
        | (go_at_call 19; refine Calls.mono ((Calls.and_up HMm.out.1 HRe.out)) ?_; rintro e w91 ⟨rfl, hS91, hu91⟩
           have HS91 : Hid _ := hS91
           have HN91 : Hid (∀ o, (w91.alloc o).heap[w91.heap.size]? = some o) := heap_alloc_new w91
           have HX91 : Hid _ := rgNew w91 T
           clear hS91 hu91)
        | (refine wpList_store_rowTo rfl 23 _ _ rfl rfl w91.heap.size T.cells rfl rfl 23 #[.int .i64 0, .int .i64 0, .int .i64 0, .int .i64 0, .int .i64 0, .int .i64 0, .int .i64 0, .int .i64 0, .int .i64 0, .int .i64 0, .bool false, .int .i64 0] (HN91.out _) (by kernel_rfl) rfl (rgOne T) ?_
           generalize hW10 : World.setRow _ _ _ = W10
           obtain ⟨hg10, hu10⟩ := HX91.out W10 _ hW10
           have HS10 : Hid _ := HS91.out.1.ups hu10
           obtain ⟨t0, t1, t2, t3, t4, t5, t6, t7, t8, t9, t10, t11⟩ := regBlock T hg10
           clear q0 q1 q2 q3 q4 q5 q6 q7 q8 q9 q10 q11
           obtain ⟨q0, q1, q2, q3, q4, q5, q6, q7, q8, q9, q10, q11⟩ := regBlock _ HS10.out.reg
           have cm : W10.cell? ⟨gm, I.toNat, none⟩ = some (.int .u8 X) := by rw [← HMm.out.2.1]; exact ((HS91.out.2.up hu10).2 I.toNat (by omega)).1
           have HT10 : Hid (w91.heap.size < W10.heap.size) := RgAt.lt hg10
           clear hW10 hu10 hg10 HX91 HN91 HS91))
      have hpl : p < W10.heap.size := HS10.out.reg.lt
      have hgl : gm < W10.heap.size := HS10.out.mem.1
      have htl : w91.heap.size < W10.heap.size := HT10.out
      refine wp_region_held_drew (S := (fun w' => w'.cell? ⟨w91.heap.size, 0, none⟩ = some (.int .i64 T.a) ∧ w'.cell? ⟨w91.heap.size, 2, none⟩ = some (.int .i64 T.b) ∧ w'.cell? ⟨w91.heap.size, 3, none⟩ = some (.int .i64 T.c) ∧ w'.cell? ⟨w91.heap.size, 4, none⟩ = some (.int .i64 T.d) ∧ w'.cell? ⟨w91.heap.size, 5, none⟩ = some (.int .i64 T.e) ∧ w'.cell? ⟨w91.heap.size, 6, none⟩ = some (.int .i64 T.h) ∧ w'.cell? ⟨w91.heap.size, 7, none⟩ = some (.int .i64 T.l) ∧ w'.cell? ⟨p, 6, none⟩ = some (.int .i64 194) ∧ w'.cell? ⟨p, 7, none⟩ = some (.int .i64 G.l) ∧ w'.cell? ⟨gm, I.toNat, none⟩ = some (.int .u8 X))) (by kernel_rfl) ?_ (fun hHeld => ?_)
      · (try dsimp only); exact ⟨t0, t2, t3, t4, t5, t6, t7, q6, q7, cm⟩
      refine wpAnyH_take (i := 0) (v := ?_) (by simp only [List.getElem?_toArray, List.getElem?_cons_zero]; rfl) (by kernel_rfl) (by kernel_rfl) (by kernel_rfl) (by intro _ _ _ h; exact h) (Or.inl ⟨by rfl, ?_⟩) (by assumption) ?_
      rotate_left
      · (intro w hSw; (try dsimp only at hSw); go_simp <;> with_reducible rfl)
      try simp only [Act.put, List.setIfInBounds_toArray, List.set_cons_zero, List.set_cons_succ]
      refine wpAnyH_take (i := 1) (v := ?_) (by simp only [List.getElem?_toArray, List.getElem?_cons_succ, List.getElem?_cons_zero]; rfl) (by kernel_rfl) (by kernel_rfl) (by kernel_rfl) (by intro _ _ _ h; exact h) (Or.inl ⟨by rfl, ?_⟩) (by assumption) ?_
      rotate_left
      · (intro w hSw; (try dsimp only at hSw); go_simp <;> with_reducible rfl)
      try simp only [Act.put, List.setIfInBounds_toArray, List.set_cons_zero, List.set_cons_succ]
      refine wpAnyH_take (i := 2) (v := ?_) (by simp only [List.getElem?_toArray, List.getElem?_cons_succ, List.getElem?_cons_zero]; rfl) (by kernel_rfl) (by kernel_rfl) (by kernel_rfl) (by intro _ _ _ h; exact h) (Or.inl ⟨by rfl, ?_⟩) (by assumption) ?_
      rotate_left
      · (intro w hSw; (try dsimp only at hSw); go_simp <;> with_reducible rfl)
      try simp only [Act.put, List.setIfInBounds_toArray, List.set_cons_zero, List.set_cons_succ]
      refine wpAnyH_take (i := 3) (v := ?_) (by simp only [List.getElem?_toArray, List.getElem?_cons_succ, List.getElem?_cons_zero]; rfl) (by kernel_rfl) (by kernel_rfl) (by kernel_rfl) (by intro _ _ _ h; exact h) (Or.inl ⟨by rfl, ?_⟩) (by assumption) ?_
      rotate_left
      · (intro w hSw; (try dsimp only at hSw); go_simp <;> with_reducible rfl)
      try simp only [Act.put, List.setIfInBounds_toArray, List.set_cons_zero, List.set_cons_succ]
      refine wpAnyH_take (i := 4) (v := ?_) (by simp only [List.getElem?_toArray, List.getElem?_cons_succ, List.getElem?_cons_zero]; rfl) (by kernel_rfl) (by kernel_rfl) (by kernel_rfl) (by intro _ _ _ h; exact h) (Or.inl ⟨by rfl, ?_⟩) (by assumption) ?_
      rotate_left
      · (intro w hSw; (try dsimp only at hSw); go_simp <;> with_reducible rfl)
      try simp only [Act.put, List.setIfInBounds_toArray, List.set_cons_zero, List.set_cons_succ]
      refine wpAnyH_take (i := 5) (v := ?_) (by simp only [List.getElem?_toArray, List.getElem?_cons_succ, List.getElem?_cons_zero]; rfl) (by kernel_rfl) (by kernel_rfl) (by kernel_rfl) (by intro _ _ _ h; exact h) (Or.inl ⟨by rfl, ?_⟩) (by assumption) ?_
      rotate_left
      · (intro w hSw; (try dsimp only at hSw); go_simp <;> with_reducible rfl)
      try simp only [Act.put, List.setIfInBounds_toArray, List.set_cons_zero, List.set_cons_succ]
      refine wpAnyH_take (i := 6) (v := ?_) (by simp only [List.getElem?_toArray, List.getElem?_cons_succ, List.getElem?_cons_zero]; rfl) (by kernel_rfl) (by kernel_rfl) (by kernel_rfl) (by intro _ _ _ h; exact h) (Or.inl ⟨by rfl, ?_⟩) (by assumption) ?_
      rotate_left
      · (intro w hSw; (try dsimp only at hSw); go_simp <;> with_reducible rfl)
      try simp only [Act.put, List.setIfInBounds_toArray, List.set_cons_zero, List.set_cons_succ]
      refine wpAnyH_take (i := 7) (v := ?_) (by simp only [List.getElem?_toArray, List.getElem?_cons_succ, List.getElem?_cons_zero]; rfl) (by kernel_rfl) (by kernel_rfl) (by kernel_rfl) (by intro _ _ _ h; exact h) (Or.inl ⟨by rfl, ?_⟩) (by assumption) ?_
      rotate_left
      · (intro w hSw; (try dsimp only at hSw); go_simp <;> with_reducible rfl)
      try simp only [Act.put, List.setIfInBounds_toArray, List.set_cons_zero, List.set_cons_succ]
      refine wpAnyH_take (i := 8) (v := ?_) (by simp only [List.getElem?_toArray, List.getElem?_cons_succ, List.getElem?_cons_zero]; rfl) (by kernel_rfl) (by kernel_rfl) (by kernel_rfl) (by intro _ _ _ h; exact h) (Or.inl ⟨by rfl, ?_⟩) (by assumption) ?_
      rotate_left
      · (intro w hSw; (try dsimp only at hSw); go_simp <;> with_reducible rfl)
      try simp only [Act.put, List.setIfInBounds_toArray, List.set_cons_zero, List.set_cons_succ]
      refine wpAnyH_take (i := 9) (v := ?_) (by simp only [List.getElem?_toArray, List.getElem?_cons_succ, List.getElem?_cons_zero]; rfl) (by kernel_rfl) (by kernel_rfl) (by kernel_rfl) (by intro _ _ _ h; exact h) (Or.inl ⟨by rfl, ?_⟩) (by assumption) ?_
      rotate_left
      · (intro w hSw; (try dsimp only at hSw); go_simp <;> with_reducible rfl)
      try simp only [Act.put, List.setIfInBounds_toArray, List.set_cons_zero, List.set_cons_succ]
      refine wpAnyH_take (i := 10) (v := ?_) (by simp only [List.getElem?_toArray, List.getElem?_cons_succ, List.getElem?_cons_zero]; rfl) (by kernel_rfl) (by kernel_rfl) (by kernel_rfl) (by intro _ _ _ h; exact h) (Or.inl ⟨by rfl, ?_⟩) (by assumption) ?_
      rotate_left
      · (intro w hSw; (try dsimp only at hSw); go_simp <;> with_reducible rfl)
      try simp only [Act.put, List.setIfInBounds_toArray, List.set_cons_zero, List.set_cons_succ]
      refine wpAnyH_take (i := 11) (v := ?_) (by simp only [List.getElem?_toArray, List.getElem?_cons_succ, List.getElem?_cons_zero]; rfl) (by kernel_rfl) (by kernel_rfl) (by kernel_rfl) (by intro _ _ _ h; exact h) (Or.inl ⟨by rfl, ?_⟩) (by assumption) ?_
      rotate_left
      · (intro w hSw; (try dsimp only at hSw); go_simp <;> with_reducible rfl)
      try simp only [Act.put, List.setIfInBounds_toArray, List.set_cons_zero, List.set_cons_succ]
      refine wpAnyH_take (i := 12) (v := ?_) (by simp only [List.getElem?_toArray, List.getElem?_cons_succ, List.getElem?_cons_zero]; rfl) (by kernel_rfl) (by kernel_rfl) (by kernel_rfl) (by intro _ _ _ h; exact h) (Or.inl ⟨by rfl, ?_⟩) (by assumption) ?_
      rotate_left
      · (intro w hSw; (try dsimp only at hSw); go_simp <;> with_reducible rfl)
      try simp only [Act.put, List.setIfInBounds_toArray, List.set_cons_zero, List.set_cons_succ]
      refine wpAnyH_take (i := 13) (v := ?_) (by simp only [List.getElem?_toArray, List.getElem?_cons_succ, List.getElem?_cons_zero]; rfl) (by kernel_rfl) (by kernel_rfl) (by kernel_rfl) (by intro _ _ _ h; exact h) (Or.inl ⟨by rfl, ?_⟩) (by assumption) ?_
      rotate_left
      · (intro w hSw; (try dsimp only at hSw); go_simp <;> with_reducible rfl)
      try simp only [Act.put, List.setIfInBounds_toArray, List.set_cons_zero, List.set_cons_succ]
      refine wpAnyH_take (i := 14) (v := ?_) (by simp only [List.getElem?_toArray, List.getElem?_cons_succ, List.getElem?_cons_zero]; rfl) (by kernel_rfl) (by kernel_rfl) (by kernel_rfl) (by intro _ _ _ h; exact h) (Or.inl ⟨by rfl, ?_⟩) (by assumption) ?_
      rotate_left
      · (intro w hSw; (try dsimp only at hSw); go_simp <;> with_reducible rfl)
      try simp only [Act.put, List.setIfInBounds_toArray, List.set_cons_zero, List.set_cons_succ]
      refine wpAnyH_take (i := 15) (v := ?_) (by simp only [List.getElem?_toArray, List.getElem?_cons_succ, List.getElem?_cons_zero]; rfl) (by kernel_rfl) (by kernel_rfl) (by kernel_rfl) (by intro _ _ _ h; exact h) (Or.inl ⟨by rfl, ?_⟩) (by assumption) ?_
      rotate_left
      · (intro w hSw; (try dsimp only at hSw); go_simp <;> with_reducible rfl)
      try simp only [Act.put, List.setIfInBounds_toArray, List.set_cons_zero, List.set_cons_succ]
      refine wpAnyH_take (i := 16) (v := ?_) (by simp only [List.getElem?_toArray, List.getElem?_cons_succ, List.getElem?_cons_zero]; rfl) (by kernel_rfl) (by kernel_rfl) (by kernel_rfl) (by intro _ _ _ h; exact h) (Or.inl ⟨by rfl, ?_⟩) (by assumption) ?_
      rotate_left
      · (intro w hSw; (try dsimp only at hSw); go_simp <;> with_reducible rfl)
      try simp only [Act.put, List.setIfInBounds_toArray, List.set_cons_zero, List.set_cons_succ]
      refine wpAnyH_take (i := 17) (v := ?_) (by simp only [List.getElem?_toArray, List.getElem?_cons_succ, List.getElem?_cons_zero]; rfl) (by kernel_rfl) (by kernel_rfl) (by kernel_rfl) (by intro _ _ _ h; exact h) (Or.inl ⟨by rfl, ?_⟩) (by assumption) ?_
      rotate_left
      · (intro w hSw; (try dsimp only at hSw); go_simp <;> with_reducible rfl)
      try simp only [Act.put, List.setIfInBounds_toArray, List.set_cons_zero, List.set_cons_succ]
      refine wpAnyH_take (i := 18) (v := ?_) (by simp only [List.getElem?_toArray, List.getElem?_cons_succ, List.getElem?_cons_zero]; rfl) (by kernel_rfl) (by kernel_rfl) (by kernel_rfl) (by intro _ _ _ h; exact h) (Or.inl ⟨by rfl, ?_⟩) (by assumption) ?_
      rotate_left
      · (intro w hSw; (try dsimp only at hSw); go_simp <;> with_reducible rfl)
      try simp only [Act.put, List.setIfInBounds_toArray, List.set_cons_zero, List.set_cons_succ]
      refine wpAnyH_take (i := 19) (v := ?_) (by simp only [List.getElem?_toArray, List.getElem?_cons_succ, List.getElem?_cons_zero]; rfl) (by kernel_rfl) (by kernel_rfl) (by kernel_rfl) (by intro _ _ _ h; exact h) (Or.inl ⟨by rfl, ?_⟩) (by assumption) ?_
      rotate_left
      · (intro w hSw; (try dsimp only at hSw); go_simp <;> with_reducible rfl)
      try simp only [Act.put, List.setIfInBounds_toArray, List.set_cons_zero, List.set_cons_succ]
      refine wpAnyH_take (i := 20) (v := ?_) (by simp only [List.getElem?_toArray, List.getElem?_cons_succ, List.getElem?_cons_zero]; rfl) (by kernel_rfl) (by kernel_rfl) (by kernel_rfl) (by intro _ _ _ h; exact h) (Or.inl ⟨by rfl, ?_⟩) (by assumption) ?_
      rotate_left
      · (intro w hSw; (try dsimp only at hSw); go_simp <;> with_reducible rfl)
      try simp only [Act.put, List.setIfInBounds_toArray, List.set_cons_zero, List.set_cons_succ]
      refine wpAnyH_take (i := 21) (v := ?_) (by simp only [List.getElem?_toArray, List.getElem?_cons_succ, List.getElem?_cons_zero]; rfl) (by kernel_rfl) (by kernel_rfl) (by kernel_rfl) (by intro _ _ _ h; exact h) (Or.inl ⟨by rfl, ?_⟩) (by assumption) ?_
      rotate_left
      · (intro w hSw; (try dsimp only at hSw); go_simp <;> with_reducible rfl)
      try simp only [Act.put, List.setIfInBounds_toArray, List.set_cons_zero, List.set_cons_succ]
      refine wpAnyH_take (i := 22) (v := ?_) (by simp only [List.getElem?_toArray, List.getElem?_cons_succ, List.getElem?_cons_zero]; rfl) (by kernel_rfl) (by kernel_rfl) (by kernel_rfl) (by intro _ _ _ h; exact h) (Or.inl ⟨by rfl, ?_⟩) (by assumption) ?_
      rotate_left
      · (intro w hSw; (try dsimp only at hSw); go_simp <;> with_reducible rfl)
      try simp only [Act.put, List.setIfInBounds_toArray, List.set_cons_zero, List.set_cons_succ]
      refine wpAnyH_take (i := 23) (v := ?_) (by simp only [List.getElem?_toArray, List.getElem?_cons_succ, List.getElem?_cons_zero]; rfl) (by kernel_rfl) (by kernel_rfl) (by kernel_rfl) (by intro _ _ _ h; exact h) (Or.inl ⟨by rfl, ?_⟩) (by assumption) ?_
      rotate_left
      · (intro w hSw; (try dsimp only at hSw); go_simp <;> with_reducible rfl)
      try simp only [Act.put, List.setIfInBounds_toArray, List.set_cons_zero, List.set_cons_succ]
      refine wpAnyH_take (i := 25) (v := ?_) (by simp only [List.getElem?_toArray, List.getElem?_cons_succ, List.getElem?_cons_zero]; rfl) (by kernel_rfl) (by kernel_rfl) (by kernel_rfl) (by intro _ _ _ h; exact h) (Or.inl ⟨by rfl, ?_⟩) (by assumption) ?_
      rotate_left
      · (intro w hSw; (try dsimp only at hSw); go_simp <;> with_reducible rfl)
      try simp only [Act.put, List.setIfInBounds_toArray, List.set_cons_zero, List.set_cons_succ]
      refine wpAnyH_ready (rs := [24]) (by kernel_rfl) (by simp) ?_
      refine AllReadyH.cons (by simp only [List.getElem?_toArray, List.getElem?_cons_succ, List.getElem?_cons_zero]; rfl) (fun K hK => ?_) AllReadyH.nil
      go_simp
      refine hK.out _ _ ?_ (fun hHeld => ?_)
      · (try dsimp only); go_keep
      clear hK K
      try simp only [Act.put, List.setIfInBounds_toArray, List.set_cons_zero, List.set_cons_succ]
      refine wpAnyH_take (i := 26) (v := ?_) (by simp only [List.getElem?_toArray, List.getElem?_cons_succ, List.getElem?_cons_zero]; rfl) (by kernel_rfl) (by kernel_rfl) (by kernel_rfl) (by intro _ _ _ h; exact h) (Or.inl ⟨by rfl, ?_⟩) (by assumption) ?_
      rotate_left
      · (intro w hSw; (try dsimp only at hSw); go_simp <;> with_reducible rfl)
      try simp only [Act.put, List.setIfInBounds_toArray, List.set_cons_zero, List.set_cons_succ]
      refine wpAnyH_ready (rs := [27]) (by kernel_rfl) (by simp) ?_
      refine AllReadyH.cons (by simp only [List.getElem?_toArray, List.getElem?_cons_succ, List.getElem?_cons_zero]; rfl) (fun K hK => ?_) AllReadyH.nil
      go_simp
      refine hK.out _ _ ?_ (fun hHeld => ?_)
      · (try dsimp only); go_keep
      clear hK K
      try simp only [Act.put, List.setIfInBounds_toArray, List.set_cons_zero, List.set_cons_succ]
      refine wpAnyH_take (i := 28) (v := ?_) (by simp only [List.getElem?_toArray, List.getElem?_cons_succ, List.getElem?_cons_zero]; rfl) (by kernel_rfl) (by kernel_rfl) (by kernel_rfl) (by intro _ _ _ h; exact h) (Or.inl ⟨by rfl, ?_⟩) (by assumption) ?_
      rotate_left
      · (intro w hSw; (try dsimp only at hSw); go_simp <;> with_reducible rfl)
      try simp only [Act.put, List.setIfInBounds_toArray, List.set_cons_zero, List.set_cons_succ]
      refine wpAnyH_done (by kernel_rfl) ?_ _
      rw [wj X hx1 (by omega), HXe.out]
      generalize hWd : World.drew _ = Wd
      have hud : Up W10 Wd := by rw [← hWd]; exact ((Up.refl W10).alloc _).drew
      have HSd : Hid _ := HS10.out.ups hud
      have t1d : Wd.cell? ⟨w91.heap.size, 1, none⟩ = some (.int .i64 T.f) := (hud.cell htl).trans t1
      rw [HT.out] at t1d
      obtain ⟨d0, d1, d2, d3, d4, d5, d6, d7, d8, d9, d10, d11⟩ := regBlock _ HSd.out.reg
      clear hWd t0 t1 t2 t3 t4 t5 t6 t7 t8 t9 t10 t11 q0 q1 q2 q3 q4 q5 q6 q7 q8 q9 q10 q11 cm hpl hgl htl HS10 hud HT10
      rw [bi3R K 6 hK (by decide) 173 G.f (by decide) (by decide)]
      rw [bi3F K 6 hK (by decide)] at t1d
      go_wp2_with fail
      go_roundw
      case rel => exact ⟨4, by omega, by omega, rfl, HSd.out.up, HSd.out.lb, HSd.out.reg⟩
      case measure => simp [intOf]
    · go_wp2_with fail
      go_ret
      exact ⟨rfl, hS.out.1⟩
theorem bits_walk (g : Rg) (i : g.In) (bit which : Int) (h1 : I64 bit) (h2 : I64 which) (w : World) (hB : LaidB w) :
    Calls Tryz.prog 6 #[.agg g.cells, .int .i64 bit, .int .i64 which] w fun e w' => e = .returned (.bool true) ∧ Up w w' := by
  obtain ⟨K, hKe⟩ : ∃ K : Nat, pickI bit 8 = (K : Int) := ⟨(pickI bit 8).toNat, by have := pickI_lo bit 8 (by decide); omega⟩
  obtain ⟨N, hNe⟩ : ∃ N : Nat, pickI which 8 = (N : Int) := ⟨(pickI which 8).toNat, by have := pickI_lo which 8 (by decide); omega⟩
  have hK : K < 8 := by have := pickI_hi bit 8 (by decide); omega
  have hN : N < 8 := by have := pickI_hi which 8 (by decide); omega
  have HB : Hid (∀ W, Calls Tryz.prog 14 #[.agg #[.int .i64 g.a, .int .i64 g.f, .int .i64 g.b, .int .i64 g.c, .int .i64 g.d, .int .i64 g.e, .int .i64 g.h, .int .i64 g.l, .int .i64 g.sp, .int .i64 g.pc, .bool g.ime, .int .i64 g.state]] W fun e w' => e = .returned (.agg (bnd g).cells) ∧ Up W w') := fun W => bounded_any g i W
  have o := bnd_ok g
  have hs : (bnd g).state = 0 := rfl
  generalize bnd g = G at HB o hs
  by_cases h6 : N = 6
  · subst h6
    exact bits_mem g G bit which K hK o hs HB h1 h2 hKe hNe w hB
  · exact bits_reg g G bit which K N hK hN h6 o hs HB h1 h2 hKe hNe w hB
end Go.Proofs.YtbfjihcnnefehaaGreatDoor
