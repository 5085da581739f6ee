/- CpuWords: the walk. -/
import Derived.Test.YtfbfpcjnpegccaaGreatDoorLxU
namespace Go.Proofs.YtfbfpcjnpegccaaGreatDoor
open Go.RowKit
set_option linter.unusedVariables false
set_option maxRecDepth 100000 in
set_option maxHeartbeats 1000000 in
theorem words_walk (g : Rg) (i : g.In) (nn mm : Int) (hnn : I64 nn) (hmm : I64 mm) (w : World) (hB : LaidB w) :
    Calls Tryz.prog 5 #[.agg g.cells, .int .i64 nn, .int .i64 mm] w fun e w' => e = .returned (.bool true) ∧ Up w w' := by
  have HB : Hid (∀ W, Calls Tryz.prog 14 #[.agg #[.int .i64 g.a, .int .i64 g.f, .int .i64 g.b, .int .i64 g.c, .int .i64 g.d, .int .i64 g.e, .int .i64 g.h, .int .i64 g.l, .int .i64 g.sp, .int .i64 g.pc, .bool g.ime, .int .i64 g.state]] W fun e w' => e = .returned (.agg (bnd g).cells) ∧ Up W w') := fun W => bounded_any g i W
  have o := bnd_ok g
  have hbb := bnd512 g
  have hst : (bnd g).state = 0 := rfl
  have hP1 := pick65536 nn
  have hP2 := pick65536 mm
  generalize hGG : bnd g = G at HB o hbb hst
  have HS0 : Hid (G.state = 0) := hst
  clear hst
  have HI1 : Hid (I64 nn) := hnn
  have HI2 : Hid (I64 mm) := hmm
  have o512 : ({ G with pc := 512 } : Rg).Ok := { o with pc := (show (0 : Int) ≤ 512 ∧ (512 : Int) ≤ 65535 by decide) }
  have HSt : Hid (∀ W, Calls Tryz.prog 16 #[.agg #[.int .i64 G.a, .int .i64 G.f, .int .i64 G.b, .int .i64 G.c, .int .i64 G.d, .int .i64 G.e, .int .i64 G.h, .int .i64 G.l, .int .i64 G.sp, .int .i64 512, .bool G.ime, .int .i64 G.state]] W fun e w' => ∃ b, e = .returned (.pointer (some ⟨b, 0, none⟩)) ∧ W.heap.size ≤ b ∧ Cp w' b (ofRg { G with pc := 512 }) ∧ Up W w') := fun W => by
    have := started_any { G with pc := 512 } (In_of_ok o512) W
    rw [hbb] at this
    exact this
  have a1 := hP1.1
  have a2 := hP1.2
  have b1 := hP2.1
  have b2 := hP2.2
  clear hbb hGG hP1 hP2 i hnn hmm
  have HLB : Hid (LaidB w) := hB
  clear hB
  rw [show g.cells = #[.int .i64 g.a, .int .i64 g.f, .int .i64 g.b, .int .i64 g.c, .int .i64 g.d, .int .i64 g.e, .int .i64 g.h, .int .i64 g.l, .int .i64 g.sp, .int .i64 g.pc, .bool g.ime, .int .i64 g.state] from rfl]
  go_enter Tryz.func5, Tryz.ntmps5
  go_wp2_with (first
    | (go_at_call 14; refine (HB.out _).mono ?_; rintro e w2 ⟨rfl, hu2⟩
       have u2 : Up w w2 := ((Up.refl w).alloc _).trans hu2
       have HN2 : Hid (∀ o, (w2.alloc o).heap[w2.heap.size]? = some o) := heap_alloc_new w2
       have HX2 : Hid _ := rgNew w2 G
       clear hu2)
    | (refine wpList_store_rowTo rfl 23 _ _ rfl rfl w2.heap.size G.cells rfl rfl 23 #[.int .i64 0, .int .i64 0, .int .i64 0, .int .i64 0, .int .i64 0, .int .i64 0, .int .i64 0, .int .i64 0, .int .i64 0, .int .i64 0, .bool false, .int .i64 0] (HN2.out _) (by kernel_rfl) rfl (rgOne G) ?_
       generalize hW3 : World.setRow _ _ _ = W3
       obtain ⟨hg3, hu3⟩ := HX2.out W3 _ hW3
       have u3 := u2.trans hu3
       have hl3 : w2.heap.size < W3.heap.size := (Array.getElem?_eq_some_iff.1 hg3).1
       obtain ⟨r0, r1, r2, r3, r4, r5, r6, r7, r8, r9, r10, r11⟩ := regBlock G hg3
       have HG3 : Hid _ := hg3
       have hz3 := u2.size
       have fz9 : W3.frozen? ⟨w2.heap.size, 9, none⟩ = false := by simp [World.frozen?, hg3]
       clear hW3 hu3 hg3 u2 HX2 HN2)
    | (go_at_call 15; refine (pick_any _ 65536 _ (by first | exact HI1.out | exact HI2.out) (by decide) (by decide)).mono ?_; rintro e w' ⟨rfl, rfl⟩)
    | (go_at_call 16; refine (HSt.out _).mono ?_; rintro e w4 ⟨b, rfl, hbs, h4, hu4⟩
       have u34 : Up W3 w4 ∨ True := Or.inr trivial
       have hbs' : W3.heap.size ≤ b := by simpa using hbs
       clear u34))
  have hPc : Hid _ := pcsW w4 (pickI nn 65536) (pickI mm 65536) a1 a2 b1 b2
  generalize pickI nn 65536 = A at a1 a2 hPc
  generalize pickI mm 65536 = B at b1 b2 hPc
  generalize hW5 : World.alloc (World.alloc w4 _) _ = W5 at hPc
  have u45 : Up w4 W5 := by rw [← hW5]; exact ((Up.refl w4).alloc _).alloc _
  clear hW5
  refine (words_mem (w4.heap.size + 1) A B W5 hPc.out).mono ?_
  rintro e w6 ⟨rfl, m6, hu6⟩
  have h6 := h4.up (u45.trans hu6)
  have hgl := h4.lt
  have h56 := u45.size
  have hgb6 : W5.heap.size ≠ b := by omega
  have u4 : Up w w4 := (u3.setCell (p := ⟨w2.heap.size, 9, none⟩) hz3 _).trans hu4
  have u6 : Up w w6 := u4.trans (u45.trans hu6)
  have hw0 := HLB.out.1
  have hs4 := u4.size
  have hb0 : b ≠ 0 := by have := u3.size; omega
  have hg0 : W5.heap.size ≠ 0 := by omega
  have L6 : Lb b w6 := ⟨HLB.out.up u6, hb0⟩
  have hl3' : w2.heap.size < (W3.setCell ⟨w2.heap.size, 9, none⟩ (.int .i64 512)).heap.size := by simpa using hl3
  have gf4 : w4.cell? ⟨w2.heap.size, 1, none⟩ = some (.int .i64 G.f) := (hu4.cell hl3').trans ((World.cell?_setCell_other (h := by intro h; injection h with h1 h2; omega) ..).trans r1)
  have hl4 : w2.heap.size < w4.heap.size := Nat.lt_of_lt_of_le hl3' hu4.size
  have gf6 : w6.cell? ⟨w2.heap.size, 1, none⟩ = some (.int .i64 G.f) := ((u45.trans hu6).cell hl4).trans gf4
  have hbne : w2.heap.size ≠ b := by omega
  have hgne : w2.heap.size ≠ W5.heap.size := by omega
  have hRu : Hid _ := words_runs G o512 HS0.out A B a1 a2 b1 b2 w6 b W5.heap.size h6 L6 m6 hgb6 hg0
  have hFi : Hid _ := words_fin (rgF G) o.f A B a1 a2 b1 b2
  have hBo : Hid _ := words_b (rgF G) A B a1 a2 b1 b2
  have hIv : Hid _ := (runs_inv (wSt (rgF G) G.sp G.ime A B) wK 7 (by decide) (fun i hi => wIns _ _ _ _ _ i hi) (words_inv G o512 HS0.out A B) (words_byt A B a1 a2 b1 b2)).1.ok
  have HU6 : Hid _ := u6
  have hwb : w.heap.size ≤ b := by have := u3.size; omega
  have hwg : w.heap.size ≤ W5.heap.size := by omega
  have hl6 : w2.heap.size < w6.heap.size := Nat.lt_of_lt_of_le hl4 (u45.trans hu6).size
  generalize hgm : W5.heap.size = gm at *
  clear hgm h6 L6 m6 u6 u4 hu4 u45 hu6 h4 u3 HB HSt hPc HG3 r0 r1 r2 r3 r4 r5 r6 r7 r8 r9 r10 r11 fz9 hbs hbs' gf4 hl3' o512 o
  go_wp2_with fail
  refine Calls.mono hRu.out ?_
  rintro e w7 ⟨rfl, h7, m7, F7⟩
  have gf7 : w7.cell? ⟨w2.heap.size, 1, none⟩ = some (.int .i64 G.f) := (Fr2.cellq F7 hl6 hbne hgne).trans gf6
  have hl7 : w2.heap.size < w7.heap.size := Nat.lt_of_lt_of_le hl6 F7.size
  have HF7 : Hid _ := F7
  clear F7 gf6
  go_wp2_with fail
  refine (regs_any b _ _ (by exact h7) (by exact hIv.out)).mono ?_
  rintro e w8 ⟨rfl, hu8⟩
  have gf8 : w8.cell? ⟨w2.heap.size, 1, none⟩ = some (.int .i64 G.f) := (hu8.cell hl7).trans gf7
  have m8 := m7.up hu8
  have hl8 : w2.heap.size < w8.heap.size := Nat.lt_of_lt_of_le hl7 hu8.size
  generalize hT : toRg (bd (wR5 (rgF G) A B) (wSp A B) 525 G.ime) = T
  have td : T.d = wR5 (rgF G) A B 2 := by rw [← hT]; rfl
  have te : T.e = wR5 (rgF G) A B 3 := by rw [← hT]; rfl
  have th : T.h = wR5 (rgF G) A B 4 := by rw [← hT]; rfl
  have tl : T.l = wR5 (rgF G) A B 5 := by rw [← hT]; rfl
  have tf : T.f = wR5 (rgF G) A B 6 := by rw [← hT]; rfl
  have ts : T.sp = wSp A B := by rw [← hT]; rfl
  have HTT : Hid (T.d = wR5 (rgF G) A B 2 ∧ T.e = wR5 (rgF G) A B 3 ∧ T.h = wR5 (rgF G) A B 4 ∧ T.l = wR5 (rgF G) A B 5 ∧ T.f = wR5 (rgF G) A B 6 ∧ T.sp = wSp A B) := ⟨td, te, th, tl, tf, ts⟩
  have HN8 : Hid (∀ o, (w8.alloc o).heap[w8.heap.size]? = some o) := heap_alloc_new w8
  have HX8 : Hid _ := rgNew w8 T
  have HU8 : Hid _ := hu8
  clear hT td te th tl tf ts hu8 h7 m7 gf7
  go_wp2_with (first
    | (refine wpList_store_rowTo rfl 23 _ _ rfl rfl w8.heap.size T.cells rfl rfl 23 #[.int .i64 0, .int .i64 0, .int .i64 0, .int .i64 0, .int .i64 0, .int .i64 0, .int .i64 0, .int .i64 0, .int .i64 0, .int .i64 0, .bool false, .int .i64 0] (HN8.out _) (by kernel_rfl) rfl (rgOne T) ?_
       generalize hW9 : World.setRow _ _ _ = W9
       obtain ⟨hg9, hu9⟩ := HX8.out W9 _ hW9
       obtain ⟨t0, t1, t2, t3, t4, t5, t6, t7, t8, t9, t10, t11⟩ := regBlock T hg9
       have gf9 : W9.cell? ⟨w2.heap.size, 1, none⟩ = some (.int .i64 G.f) := (hu9.cell hl8).trans gf8
       have m9 := m8.up hu9
       have HU9 : Hid _ := hu9
       obtain ⟨X, hX⟩ : ∃ X, X = wM A B 768 := ⟨_, rfl⟩
       obtain ⟨Y, hY⟩ : ∃ Y, Y = wM A B 769 := ⟨_, rfl⟩
       have c768 : W9.cell? ⟨gm, 768, none⟩ = some (.int .u8 X) := by rw [hX]; exact (m9.2 768 (by decide)).1
       have c769 : W9.cell? ⟨gm, 769, none⟩ = some (.int .u8 Y) := by rw [hY]; exact (m9.2 769 (by decide)).1
       have hFF := hFi.out
       have hBB := hBo.out
       rw [← HTT.out.1, ← HTT.out.2.1, ← HTT.out.2.2.1, ← HTT.out.2.2.2.1, ← HTT.out.2.2.2.2.1, ← HTT.out.2.2.2.2.2, ← hX, ← hY, show rgF G 6 = G.f from rfl] at hFF
       rw [← HTT.out.1, ← HTT.out.2.1, ← HTT.out.2.2.1, ← HTT.out.2.2.2.1, ← hX, ← hY] at hBB
       obtain ⟨q1, q2, q3, q4, q5, q6, q7, q8⟩ := hFF
       obtain ⟨⟨d1, d2⟩, ⟨d3, d4⟩, ⟨d5, d6⟩, ⟨d7, d8⟩, ⟨x1, x2⟩, ⟨y1, y2⟩⟩ := hBB
       have HQ : Hid _ := And.intro q1 (And.intro q2 (And.intro q3 (And.intro q4 (And.intro q5 (And.intro q6 (And.intro q7 q8))))))
       clear hW9 hu9 hg9 gf8 m8 HX8 HN8 hX hY q1 q2 q3 q4 q5 q6 q7 q8))
  obtain ⟨q1, q2, q3, q4, q5, q6, q7, q8⟩ := HQ.out
  have hD0 : 0 ≤ (B + 1) % 65536 ∧ (B + 1) % 65536 ≤ 65535 := by omega
  have hH0 : 0 ≤ (A + 65535) % 65536 ∧ (A + 65535) % 65536 ≤ 65535 := by omega
  generalize (B + 1) % 65536 = D at q1 q2 q3 q5 q8 hD0 ⊢
  generalize (A + 65535) % 65536 = H at q2 q3 q5 q8 hH0 ⊢
  have hS0 : 0 ≤ H + D ∧ H + D ≤ 131070 := by omega
  have hh4 : H.tmod 4096 = H % 4096 := Int.tmod_eq_emod_of_nonneg hH0.1
  have hd4 : D.tmod 4096 = D % 4096 := Int.tmod_eq_emod_of_nonneg hD0.1
  have hh5 : 0 ≤ H % 4096 ∧ H % 4096 ≤ 4095 := by omega
  have hd5 : 0 ≤ D % 4096 ∧ D % 4096 ≤ 4095 := by omega
  generalize H % 4096 = h4 at q8 hh4 hh5
  generalize D % 4096 = d4 at q8 hd4 hd5
  have whd : IntKind.i64.wrap (h4 + d4) = h4 + d4 := wj _ (by omega) (by omega)
  generalize hSu : H + D = Su at q2 q3 q5 hS0 ⊢
  have htm : Su.tmod 65536 = Su % 65536 := Int.tmod_eq_emod_of_nonneg hS0.1
  generalize Su % 65536 = M at q2 q3 htm
  have w1 : IntKind.i64.wrap (256 * T.d) = 256 * T.d := wj _ (by omega) (by omega)
  have w2 : IntKind.i64.wrap (256 * T.d + T.e) = D := by rw [q1]; exact wj _ (by omega) (by omega)
  have w3 : IntKind.i64.wrap (256 * T.h) = 256 * T.h := wj _ (by omega) (by omega)
  have w4' : IntKind.i64.wrap (256 * T.h + T.l) = M := by rw [← q2]; exact wj _ (by omega) (by omega)
  have w5 : IntKind.i64.wrap (256 * Y) = 256 * Y := wj _ (by omega) (by omega)
  have w6' : IntKind.i64.wrap (X + 256 * Y) = M := by rw [← q3, ← q4]; exact wj _ (by omega) (by omega)
  have wx : IntKind.i64.wrap X = X := wj _ (by omega) (by omega)
  have wy : IntKind.i64.wrap Y = Y := wj _ (by omega) (by omega)
  have q4' : X + 256 * Y = M := q4.trans q3
  generalize hF16 : bits .and .i64 T.f 16 = F16 at q5
  generalize hF32 : bits .and .i64 T.f 32 = F32 at q8
  generalize hcB : decide (65535 < Su) = cB at q5
  generalize hhB : decide (4095 < h4 + d4) = hB at q8
  generalize hZ : bits .and .i64 G.f 128 = Zf at q6
  have HUA : Hid (Up w W9) := (Fr2.up HU6.out hwb hwg HF7.out).trans (HU8.out.trans HU9.out)
  clear hwb hwg HQ hFi hBo hIv hRu HTT
  dsimp only [List.append]
  go_quiet (fail)
  go_wp2
  go_ret
  exact ⟨rfl, HUA.out.trans (by first | exact Up.drewN W9 _ | exact (Up.refl W9).drew | exact Up.refl W9)⟩
end Go.Proofs.YtfbfpcjnpegccaaGreatDoor
