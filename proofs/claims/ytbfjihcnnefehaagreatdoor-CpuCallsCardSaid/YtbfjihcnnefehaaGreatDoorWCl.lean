/- CpuCalls: the walk. -/
import Derived.Test.YtbfjihcnnefehaaGreatDoorKc
namespace Go.Proofs.YtbfjihcnnefehaaGreatDoor
open Go.RowKit
set_option linter.unusedVariables false
theorem lholds_any (c : Nat) (hc : c < 4) (f : Int) (h0 : 0 ≤ f) (h1 : f ≤ 255) (w : World) :
    Calls Tryz.prog 22 #[.int .i64 f, .int .i64 c] w fun e w' => e = .returned (.bool (holdsC c f)) ∧ w' = w := by
  have k0 : ∀ x : Int, 0 ≤ x → x ≤ 255 → (bits .and .i64 x 128 != 0) = (x / 128 % 2 == 1) := byteAll (by decide +kernel)
  have k1 : ∀ x : Int, 0 ≤ x → x ≤ 255 → (bits .and .i64 x 16 != 0) = (x / 16 % 2 == 1) := byteAll (by decide +kernel)
  have k2 : ∀ x : Int, 0 ≤ x → x ≤ 255 → ((x / 128 % 2 == 1) == false) = (x / 128 % 2 == 0) := byteAll (by decide +kernel)
  have k3 : ∀ x : Int, 0 ≤ x → x ≤ 255 → ((x / 16 % 2 == 1) == false) = (x / 16 % 2 == 0) := byteAll (by decide +kernel)
  have e0 := k0 f h0 h1
  have e1 := k1 f h0 h1
  have e2 := k2 f h0 h1
  have e3 := k3 f h0 h1
  clear k0 k1 k2 k3
  have : c = 0 ∨ c = 1 ∨ c = 2 ∨ c = 3 := by omega
  rcases this with rfl | rfl | rfl | rfl
  all_goals
    go_enter Tryz.func22, Tryz.ntmps22
    go_wp2
    go_ret
    exact ⟨retB (by kernel_rfl), rfl⟩
theorem pcs3 (w : World) (a1 a2 a3 : Int) (bs1 bs2 bs3 : List Int) (h1 : I64 a1) (h2 : I64 a2) (h3 : I64 a3) (hb1 : ∀ x ∈ bs1, 0 ≤ x ∧ x ≤ 255) (hb2 : ∀ x ∈ bs2, 0 ≤ x ∧ x ≤ 255) (hb3 : ∀ x ∈ bs3, 0 ≤ x ∧ x ≤ 255) (hl1 : bs1.length ≤ 1000) (hl2 : bs2.length ≤ 1000) (hl3 : bs3.length ≤ 1000) :
    Pcs ((((w.alloc (.cells (bs1.map (Value.int .u8)).toArray 5)).alloc (.cells (bs2.map (Value.int .u8)).toArray 5)).alloc (.cells (bs3.map (Value.int .u8)).toArray 5)).alloc (.cells #[.int .i64 a1, .slice (some ⟨w.heap.size, 0, none⟩) bs1.length bs1.length, .int .i64 a2, .slice (some ⟨w.heap.size + 1, 0, none⟩) bs2.length bs2.length, .int .i64 a3, .slice (some ⟨w.heap.size + 1 + 1, 0, none⟩) bs3.length bs3.length] 32)) (w.heap.size + 1 + 1 + 1) [⟨a1, bs1⟩, ⟨a2, bs2⟩, ⟨a3, bs3⟩] := by
  generalize e1 : w.alloc (.cells (bs1.map (Value.int .u8)).toArray 5) = w1
  generalize e2 : w1.alloc (.cells (bs2.map (Value.int .u8)).toArray 5) = w2
  generalize e3 : w2.alloc (.cells (bs3.map (Value.int .u8)).toArray 5) = w3
  have s1 : w1.heap.size = w.heap.size + 1 := by rw [← e1]; simp
  have s2 : w2.heap.size = w.heap.size + 1 + 1 := by rw [← e2]; simp [s1]
  have s3 : w3.heap.size = w.heap.size + 1 + 1 + 1 := by rw [← e3]; simp [s2]
  have hN : ∀ (c : Array Value) (ty : TypeId) (k : Nat), (w3.alloc (.cells c ty)).cell? ⟨w.heap.size + 1 + 1 + 1, k, none⟩ = c[k]? := fun c ty k => by
    rw [← s3]; exact World.cell?_alloc_new w3 c ty k
  have hA : ∀ o p k, p < w.heap.size + 1 + 1 + 1 → (w3.alloc o).cell? ⟨p, k, none⟩ = w3.cell? ⟨p, k, none⟩ := fun o p k hp => World.cell?_alloc_lt _ _ _ (by rw [s3]; exact hp)
  have c3 : ∀ k, w3.cell? ⟨w.heap.size + 1 + 1, k, none⟩ = (bs3.map (Value.int .u8)).toArray[k]? := fun k => by
    rw [← e3, ← s2]; exact World.cell?_alloc_new w2 _ _ k
  have c2 : ∀ k, w3.cell? ⟨w.heap.size + 1, k, none⟩ = (bs2.map (Value.int .u8)).toArray[k]? := fun k => by
    rw [← e3, World.cell?_alloc_lt _ _ _ (by rw [s2]; show w.heap.size + 1 < _; omega), ← e2, ← s1]; exact World.cell?_alloc_new w1 _ _ k
  have c1 : ∀ k, w3.cell? ⟨w.heap.size, k, none⟩ = (bs1.map (Value.int .u8)).toArray[k]? := fun k => by
    rw [← e3, World.cell?_alloc_lt _ _ _ (by rw [s2]; show w.heap.size < _; omega), ← e2, World.cell?_alloc_lt _ _ _ (by rw [s1]; show w.heap.size < _; omega), ← e1]; exact World.cell?_alloc_new w _ _ k
  refine ⟨by simp [s3], fun i h => ?_⟩
  have hi : i = 0 ∨ i = 1 ∨ i = 2 := by simp at h; omega
  rcases hi with rfl | rfl | rfl
  · refine ⟨h1, w.heap.size, by first | (simp [s3]; done) | (simp [s3]; omega), by rw [hN]; rfl, ⟨_, _, by rw [hN]; rfl, fun _ => rfl⟩, hl1, fun k hk => ?_⟩
    have hk' : k < bs1.length := hk
    refine ⟨?_, hb1 _ (List.getElem_mem hk')⟩
    rw [hA _ _ _ (by omega), c1]
    simp [hk']
  · refine ⟨h2, w.heap.size + 1, by first | (simp [s3]; done) | (simp [s3]; omega), by rw [hN]; rfl, ⟨_, _, by rw [hN]; rfl, fun _ => rfl⟩, hl2, fun k hk => ?_⟩
    have hk' : k < bs2.length := hk
    refine ⟨?_, hb2 _ (List.getElem_mem hk')⟩
    rw [hA _ _ _ (by omega), c2]
    simp [hk']
  · refine ⟨h3, w.heap.size + 1 + 1, by first | (simp [s3]; done) | (simp [s3]; omega), by rw [hN]; rfl, ⟨_, _, by rw [hN]; rfl, fun _ => rfl⟩, hl3, fun k hk => ?_⟩
    have hk' : k < bs3.length := hk
    refine ⟨?_, hb3 _ (List.getElem_mem hk')⟩
    rw [hA _ _ _ (by omega), c3]
    simp [hk']
set_option maxRecDepth 100000 in
set_option maxHeartbeats 1000000 in
theorem calls_al (g : Rg) (G : Rg) (cond rs : Int) (C K : Nat) (hc : C = 4) (hK : K < 8) (HO : Hid G.Ok) (HS0 : Hid (G.state = 0)) (hsp : G.sp < 1024)
    (HB : Hid (∀ W, Calls Tryz.prog 14 #[.agg #[.int .i64 g.a, .int .i64 g.f, .int .i64 g.b, .int .i64 g.c, .int .i64 g.d, .int .i64 g.e, .int .i64 g.h, .int .i64 g.l, .int .i64 g.sp, .int .i64 g.pc, .bool g.ime, .int .i64 g.state]] W fun e w' => e = .returned (.agg G.cells) ∧ Up W w'))
    (HI1 : Hid (I64 cond)) (HI2 : Hid (I64 rs)) (HCe : Hid (pickI cond 5 = (C : Int))) (HKe : Hid (pickI rs 8 = (K : Int)))
    (w : World) (HLB : Hid (LaidB w)) :
    Calls Tryz.prog 8 #[.agg g.cells, .int .i64 cond, .int .i64 rs] w fun e w' => e = .returned (.bool true) ∧ Up w w' := by
  subst hc
  have s1 := HO.out.sp.1
  have s2 := HO.out.sp.2
  have a1 := HO.out.a.1
  have a2 := HO.out.a.2
  have b1 := HO.out.b.1
  have b2 := HO.out.b.2
  have hOk : ClOk (50000) := ⟨by omega, by omega, by omega⟩
  have hKi : (K : Int) < 8 := by omega




  have o2 : ({ G with sp := 50000, pc := 40000 } : Rg).Ok := { HO.out with pc := (show (0 : Int) ≤ 40000 ∧ (40000 : Int) ≤ 65535 by decide), sp := (show 0 ≤ 50000 ∧ 50000 ≤ 65535 by omega) }
  have HSt : Hid (∀ W, Calls Tryz.prog 16 #[.agg #[.int .i64 G.a, .int .i64 G.f, .int .i64 G.b, .int .i64 G.c, .int .i64 G.d, .int .i64 G.e, .int .i64 G.h, .int .i64 G.l, .int .i64 (50000), .int .i64 (40000), .bool G.ime, .int .i64 G.state]] W fun e w' => ∃ b, e = .returned (.pointer (some ⟨b, 0, none⟩)) ∧ W.heap.size ≤ b ∧ Cp w' b (bd (rgF G) (50000) 40000 G.ime) ∧ Up W w') := fun W => started_ok ({ G with sp := 50000, pc := 40000 } : Rg) o2 HS0.out W
  have HIv : Hid (bd (rgF G) (50000) 40000 G.ime).Inv := bd_inv ({ G with sp := 50000, pc := 40000 } : Rg) o2 HS0.out
  have HIn : Hid _ := fun i hi => clY_ins hOk 4 K (by decide) hK (Or.inl rfl) i hi (r := rgF G) (ime := G.ime)
  have hop : caOp 4 = 205 := by rfl
  clear o2
  rw [show g.cells = #[.int .i64 g.a, .int .i64 g.f, .int .i64 g.b, .int .i64 g.c, .int .i64 g.d, .int .i64 g.e, .int .i64 g.h, .int .i64 g.l, .int .i64 g.sp, .int .i64 g.pc, .bool g.ime, .int .i64 g.state] from rfl]
  go_enter Tryz.func8, Tryz.ntmps8
  go_wp2_with (first
    | (go_at_call 14; refine (HB.out _).mono ?_; rintro e w2 ⟨rfl, hu2⟩
       have u2 : Up w w2 := ((Up.refl w).alloc _).trans hu2
       have HN2 : Hid (∀ o, (w2.alloc o).heap[w2.heap.size]? = some o) := heap_alloc_new w2
       have HX2 : Hid _ := rgNew w2 G
       clear hu2)
    | (refine wpList_store_rowTo rfl 23 _ _ rfl rfl w2.heap.size G.cells rfl rfl 23 #[.int .i64 0, .int .i64 0, .int .i64 0, .int .i64 0, .int .i64 0, .int .i64 0, .int .i64 0, .int .i64 0, .int .i64 0, .int .i64 0, .bool false, .int .i64 0] (HN2.out _) (by kernel_rfl) rfl (rgOne G) ?_
       generalize hW3 : World.setRow _ _ _ = W3
       obtain ⟨hg3, hu3⟩ := HX2.out W3 _ hW3
       have u3 := u2.trans hu3
       have hl3 : w2.heap.size < W3.heap.size := (Array.getElem?_eq_some_iff.1 hg3).1
       obtain ⟨r0, r1, r2, r3, r4, r5, r6, r7, r8, r9, r10, r11⟩ := regBlock G hg3
       have HG3 : Hid (RgAt W3 w2.heap.size G) := hg3
       have hz3 := u2.size
       have fz8 : W3.frozen? ⟨w2.heap.size, 8, none⟩ = false := by simp [World.frozen?, hg3]
       have fz9 : W3.frozen? ⟨w2.heap.size, 9, none⟩ = false := by simp [World.frozen?, hg3]
       clear hW3 hu3 hg3 u2 HX2 HN2
       go_wp2_with fail)
    | (go_at_call 15; refine (pick_any _ _ _ (by first | exact HI1.out | exact HI2.out) (by decide) (by decide)).mono ?_; (first | rw [HCe.out] | rw [HKe.out]); rintro e w' ⟨rfl, rfl⟩)
    
    | (go_at_call 16; refine (HSt.out _).mono ?_; rintro e w4 ⟨b, rfl, hbs, h4, hu4⟩
       have hbs' : W3.heap.size ≤ b := by simp at hbs; omega
       have u4 : Up w w4 := ((u3.setCell (p := ⟨w2.heap.size, 9, none⟩) hz3 _).setCell (p := ⟨w2.heap.size, 8, none⟩) hz3 _).trans hu4
       have hr4 : RgAt w4 w2.heap.size ({ G with sp := 50000, pc := 40000 } : Rg) := ((HG3.out.set (H := { G with pc := 40000 }) 9 _ rfl).set (H := { G with sp := 50000, pc := 40000 }) 8 _ rfl).up hu4
       clear hbs hu4 r0 r1 r2 r3 r4 r5 r6 r7 r8 r9 r10 r11 fz9 fz8))
  generalize hW5 : World.alloc (World.alloc (World.alloc (World.alloc w4 _) _) _) _ = W5
  have hby := cl_byt 4 K (by omega) hK
  have hPc : Pcs W5 (w4.heap.size + 1 + 1 + 1) [⟨40000, [caOp 4, 0, 2, 199 + 8 * (K : Int)]⟩, ⟨512, [60, 201]⟩, ⟨8 * (K : Int), [4, 201]⟩] := by
    have hb1 := hby.1
    rw [hop] at hb1
    rw [← hW5, hop]
    exact pcs3 w4 40000 512 (8 * (K : Int)) _ _ _ (by unfold I64; decide) (by unfold I64; decide) (by unfold I64; omega) hb1 hby.2.1 hby.2.2 (by simp) (by simp) (by simp)
  have u45 : Up w4 W5 := by rw [← hW5]; exact ((((Up.refl w4).alloc _).alloc _).alloc _).alloc _
  clear hW5
  refine (mem_three (w4.heap.size + 1 + 1 + 1) 40000 _ 512 _ (8 * (K : Int)) _ W5 hPc).mono ?_
  rintro e w6 ⟨rfl, m6, hu6⟩
  obtain ⟨hS6, hKs⟩ := bun_mk u4 HLB.out h4 (by have := u3.size; omega) hr4.lt hr4 (by omega) u45 hu6 m6
  have hbf : Byt (clF 4 K) := mem3_byt 40000 _ 512 _ (8 * (K : Int)) _ hby.1 hby.2.1 hby.2.2
  have hRu : Hid _ := bun_many 6 (by decide) (clY (rgF G) (50000) G.ime 4 K) clYk HIn.out clYk7 hS6 hKs HIv.out hbf
  have HIq : Hid _ := (runs_inv (clY (rgF G) (50000) G.ime 4 K) clYk 6 HIn.out HIv.out hbf).1
  obtain ⟨p, hp⟩ : ∃ p, p = w2.heap.size := ⟨_, rfl⟩
  obtain ⟨gm, hgm⟩ : ∃ gm, gm = W5.heap.size := ⟨_, rfl⟩
  rw [← hp, ← hgm] at hRu
  have x0 : w6.cell? ⟨p, 0, none⟩ = some (.int .i64 G.a) := by rw [hp]; exact (regBlock _ hS6.reg).1
  rw [← hp, ← hgm]
  clear hp hgm hS6 hKs m6 hu6 u45 hPc hr4 h4 u4 hl3 hz3 HG3 u3 hbs' HSt HB hbf hby
  go_wp2_with fail
  refine Calls.mono hRu.out ?_
  rintro e w7 ⟨rfl, hS7⟩
  have HS7 : Hid _ := hS7
  clear hS7 hRu x0
  have HRe : Hid _ := bun_regs HS7.out HIq.out
  obtain ⟨T, hT⟩ : ∃ T, T = toRg (clY (rgF G) (50000) G.ime 4 K 6).1 := ⟨_, rfl⟩
  rw [← hT] at HRe
  obtain ⟨Bq, hBq⟩ : ∃ B, B = (G.b + 1) % 256 := ⟨_, rfl⟩
  obtain ⟨Aq, hAq⟩ : ∃ A, A = (G.a + 1) % 256 := ⟨_, rfl⟩
  have HT : Hid (T.sp = 50000 ∧ T.pc = 40004 ∧ T.a = Aq ∧ T.b = Bq) := by
    rw [hT, hAq, hBq]
    exact ⟨rfl, rfl, rfl, rfl⟩
  clear hT
  have wB : IntKind.i64.wrap (G.b + 1) = G.b + 1 := wj _ (by omega) (by omega)
  have tB : (G.b + 1).tmod 256 = Bq := by rw [hBq]; exact Int.tmod_eq_emod_of_nonneg (by omega)
  have bq0 : 0 ≤ Bq := by omega
  have bq1 : Bq ≤ 255 := by omega
  have wBq : IntKind.i64.wrap Bq = Bq := wj _ (by omega) (by omega)
  have eB : (G.b + 1) % 256 = Bq := hBq.symm
  have eA : (G.a + 1) % 256 = Aq := hAq.symm
  try rw [eA]
  clear hBq hAq
  go_wp2_with (first
    | (go_at_call 19; refine Calls.mono (HRe.out) ?_; rintro e w9 ⟨rfl, hS9, hu9⟩
       have HS9 : Hid _ := hS9
       have HN9 : Hid (∀ o, (w9.alloc o).heap[w9.heap.size]? = some o) := heap_alloc_new w9
       have HX9 : Hid _ := rgNew w9 T
       clear hS9 hu9)
    | (refine wpList_store_rowTo rfl 23 _ _ rfl rfl w9.heap.size T.cells rfl rfl 23 #[.int .i64 0, .int .i64 0, .int .i64 0, .int .i64 0, .int .i64 0, .int .i64 0, .int .i64 0, .int .i64 0, .int .i64 0, .int .i64 0, .bool false, .int .i64 0] (HN9.out _) (by kernel_rfl) rfl (rgOne T) ?_
       generalize hW10 : World.setRow _ _ _ = W10
       obtain ⟨hg10, hu10⟩ := HX9.out W10 _ hW10
       have HS10 : Hid _ := HS9.out.ups hu10
       obtain ⟨t0, t1, t2, t3, t4, t5, t6, t7, t8, t9, t10, t11⟩ := regBlock T hg10
       obtain ⟨e8, e9, e0, e2⟩ := HT.out
       rw [e0] at t0
       rw [e2] at t2
       rw [e8] at t8
       rw [e9] at t9
       obtain ⟨x0, x1, x2, x3, x4, x5, x6, x7, x8, x9, x10, x11⟩ := regBlock _ HS10.out.reg
       clear hW10 hu10 hg10 HX9 HN9 HS9 e0 e2 e8 e9 t1 t3 t4 t5 t6 t7 t10 t11 x0 x1 x3 x4 x5 x6 x7 x9 x10 x11 HT))
  go_ret
  exact ⟨rfl, HS10.out.up.trans (by first | exact Up.drewN W10 _ | exact (Up.refl W10).drew | exact Up.refl W10)⟩
set_option maxRecDepth 100000 in
set_option maxHeartbeats 1000000 in
theorem calls_am (g : Rg) (G : Rg) (cond rs : Int) (C K : Nat) (hc : C = 4) (hK : K < 8) (HO : Hid G.Ok) (HS0 : Hid (G.state = 0)) (hsp : 39990 < G.sp) (hsq : G.sp < 40040)
    (HB : Hid (∀ W, Calls Tryz.prog 14 #[.agg #[.int .i64 g.a, .int .i64 g.f, .int .i64 g.b, .int .i64 g.c, .int .i64 g.d, .int .i64 g.e, .int .i64 g.h, .int .i64 g.l, .int .i64 g.sp, .int .i64 g.pc, .bool g.ime, .int .i64 g.state]] W fun e w' => e = .returned (.agg G.cells) ∧ Up W w'))
    (HI1 : Hid (I64 cond)) (HI2 : Hid (I64 rs)) (HCe : Hid (pickI cond 5 = (C : Int))) (HKe : Hid (pickI rs 8 = (K : Int)))
    (w : World) (HLB : Hid (LaidB w)) :
    Calls Tryz.prog 8 #[.agg g.cells, .int .i64 cond, .int .i64 rs] w fun e w' => e = .returned (.bool true) ∧ Up w w' := by
  subst hc
  have s1 := HO.out.sp.1
  have s2 := HO.out.sp.2
  have a1 := HO.out.a.1
  have a2 := HO.out.a.2
  have b1 := HO.out.b.1
  have b2 := HO.out.b.2
  have hOk : ClOk (50000) := ⟨by omega, by omega, by omega⟩
  have hKi : (K : Int) < 8 := by omega
  have sf0 : decide (G.sp < 1024) = false := by simp; omega
  have sf1 : decide (39990 < G.sp) = true := by simp; omega
  have sf2 : decide (G.sp < 40040) = true := by simp; omega




  have o2 : ({ G with sp := 50000, pc := 40000 } : Rg).Ok := { HO.out with pc := (show (0 : Int) ≤ 40000 ∧ (40000 : Int) ≤ 65535 by decide), sp := (show 0 ≤ 50000 ∧ 50000 ≤ 65535 by omega) }
  have HSt : Hid (∀ W, Calls Tryz.prog 16 #[.agg #[.int .i64 G.a, .int .i64 G.f, .int .i64 G.b, .int .i64 G.c, .int .i64 G.d, .int .i64 G.e, .int .i64 G.h, .int .i64 G.l, .int .i64 (50000), .int .i64 (40000), .bool G.ime, .int .i64 G.state]] W fun e w' => ∃ b, e = .returned (.pointer (some ⟨b, 0, none⟩)) ∧ W.heap.size ≤ b ∧ Cp w' b (bd (rgF G) (50000) 40000 G.ime) ∧ Up W w') := fun W => started_ok ({ G with sp := 50000, pc := 40000 } : Rg) o2 HS0.out W
  have HIv : Hid (bd (rgF G) (50000) 40000 G.ime).Inv := bd_inv ({ G with sp := 50000, pc := 40000 } : Rg) o2 HS0.out
  have HIn : Hid _ := fun i hi => clY_ins hOk 4 K (by decide) hK (Or.inl rfl) i hi (r := rgF G) (ime := G.ime)
  have hop : caOp 4 = 205 := by rfl
  clear o2
  rw [show g.cells = #[.int .i64 g.a, .int .i64 g.f, .int .i64 g.b, .int .i64 g.c, .int .i64 g.d, .int .i64 g.e, .int .i64 g.h, .int .i64 g.l, .int .i64 g.sp, .int .i64 g.pc, .bool g.ime, .int .i64 g.state] from rfl]
  go_enter Tryz.func8, Tryz.ntmps8
  go_wp2_with (first
    | (go_at_call 14; refine (HB.out _).mono ?_; rintro e w2 ⟨rfl, hu2⟩
       have u2 : Up w w2 := ((Up.refl w).alloc _).trans hu2
       have HN2 : Hid (∀ o, (w2.alloc o).heap[w2.heap.size]? = some o) := heap_alloc_new w2
       have HX2 : Hid _ := rgNew w2 G
       clear hu2)
    | (refine wpList_store_rowTo rfl 23 _ _ rfl rfl w2.heap.size G.cells rfl rfl 23 #[.int .i64 0, .int .i64 0, .int .i64 0, .int .i64 0, .int .i64 0, .int .i64 0, .int .i64 0, .int .i64 0, .int .i64 0, .int .i64 0, .bool false, .int .i64 0] (HN2.out _) (by kernel_rfl) rfl (rgOne G) ?_
       generalize hW3 : World.setRow _ _ _ = W3
       obtain ⟨hg3, hu3⟩ := HX2.out W3 _ hW3
       have u3 := u2.trans hu3
       have hl3 : w2.heap.size < W3.heap.size := (Array.getElem?_eq_some_iff.1 hg3).1
       obtain ⟨r0, r1, r2, r3, r4, r5, r6, r7, r8, r9, r10, r11⟩ := regBlock G hg3
       have HG3 : Hid (RgAt W3 w2.heap.size G) := hg3
       have hz3 := u2.size
       have fz8 : W3.frozen? ⟨w2.heap.size, 8, none⟩ = false := by simp [World.frozen?, hg3]
       have fz9 : W3.frozen? ⟨w2.heap.size, 9, none⟩ = false := by simp [World.frozen?, hg3]
       clear hW3 hu3 hg3 u2 HX2 HN2
       go_wp2_with fail)
    | (go_at_call 15; refine (pick_any _ _ _ (by first | exact HI1.out | exact HI2.out) (by decide) (by decide)).mono ?_; (first | rw [HCe.out] | rw [HKe.out]); rintro e w' ⟨rfl, rfl⟩)
    
    | (go_at_call 16; refine (HSt.out _).mono ?_; rintro e w4 ⟨b, rfl, hbs, h4, hu4⟩
       have hbs' : W3.heap.size ≤ b := by simp at hbs; omega
       have u4 : Up w w4 := ((u3.setCell (p := ⟨w2.heap.size, 9, none⟩) hz3 _).setCell (p := ⟨w2.heap.size, 8, none⟩) hz3 _).trans hu4
       have hr4 : RgAt w4 w2.heap.size ({ G with sp := 50000, pc := 40000 } : Rg) := ((HG3.out.set (H := { G with pc := 40000 }) 9 _ rfl).set (H := { G with sp := 50000, pc := 40000 }) 8 _ rfl).up hu4
       clear hbs hu4 r0 r1 r2 r3 r4 r5 r6 r7 r8 r9 r10 r11 fz9 fz8))
  generalize hW5 : World.alloc (World.alloc (World.alloc (World.alloc w4 _) _) _) _ = W5
  have hby := cl_byt 4 K (by omega) hK
  have hPc : Pcs W5 (w4.heap.size + 1 + 1 + 1) [⟨40000, [caOp 4, 0, 2, 199 + 8 * (K : Int)]⟩, ⟨512, [60, 201]⟩, ⟨8 * (K : Int), [4, 201]⟩] := by
    have hb1 := hby.1
    rw [hop] at hb1
    rw [← hW5, hop]
    exact pcs3 w4 40000 512 (8 * (K : Int)) _ _ _ (by unfold I64; decide) (by unfold I64; decide) (by unfold I64; omega) hb1 hby.2.1 hby.2.2 (by simp) (by simp) (by simp)
  have u45 : Up w4 W5 := by rw [← hW5]; exact ((((Up.refl w4).alloc _).alloc _).alloc _).alloc _
  clear hW5
  refine (mem_three (w4.heap.size + 1 + 1 + 1) 40000 _ 512 _ (8 * (K : Int)) _ W5 hPc).mono ?_
  rintro e w6 ⟨rfl, m6, hu6⟩
  obtain ⟨hS6, hKs⟩ := bun_mk u4 HLB.out h4 (by have := u3.size; omega) hr4.lt hr4 (by omega) u45 hu6 m6
  have hbf : Byt (clF 4 K) := mem3_byt 40000 _ 512 _ (8 * (K : Int)) _ hby.1 hby.2.1 hby.2.2
  have hRu : Hid _ := bun_many 6 (by decide) (clY (rgF G) (50000) G.ime 4 K) clYk HIn.out clYk7 hS6 hKs HIv.out hbf
  have HIq : Hid _ := (runs_inv (clY (rgF G) (50000) G.ime 4 K) clYk 6 HIn.out HIv.out hbf).1
  obtain ⟨p, hp⟩ : ∃ p, p = w2.heap.size := ⟨_, rfl⟩
  obtain ⟨gm, hgm⟩ : ∃ gm, gm = W5.heap.size := ⟨_, rfl⟩
  rw [← hp, ← hgm] at hRu
  have x0 : w6.cell? ⟨p, 0, none⟩ = some (.int .i64 G.a) := by rw [hp]; exact (regBlock _ hS6.reg).1
  rw [← hp, ← hgm]
  clear hp hgm hS6 hKs m6 hu6 u45 hPc hr4 h4 u4 hl3 hz3 HG3 u3 hbs' HSt HB hbf hby
  go_wp2_with fail
  refine Calls.mono hRu.out ?_
  rintro e w7 ⟨rfl, hS7⟩
  have HS7 : Hid _ := hS7
  clear hS7 hRu x0
  have HRe : Hid _ := bun_regs HS7.out HIq.out
  obtain ⟨T, hT⟩ : ∃ T, T = toRg (clY (rgF G) (50000) G.ime 4 K 6).1 := ⟨_, rfl⟩
  rw [← hT] at HRe
  obtain ⟨Bq, hBq⟩ : ∃ B, B = (G.b + 1) % 256 := ⟨_, rfl⟩
  obtain ⟨Aq, hAq⟩ : ∃ A, A = (G.a + 1) % 256 := ⟨_, rfl⟩
  have HT : Hid (T.sp = 50000 ∧ T.pc = 40004 ∧ T.a = Aq ∧ T.b = Bq) := by
    rw [hT, hAq, hBq]
    exact ⟨rfl, rfl, rfl, rfl⟩
  clear hT
  have wB : IntKind.i64.wrap (G.b + 1) = G.b + 1 := wj _ (by omega) (by omega)
  have tB : (G.b + 1).tmod 256 = Bq := by rw [hBq]; exact Int.tmod_eq_emod_of_nonneg (by omega)
  have bq0 : 0 ≤ Bq := by omega
  have bq1 : Bq ≤ 255 := by omega
  have wBq : IntKind.i64.wrap Bq = Bq := wj _ (by omega) (by omega)
  have eB : (G.b + 1) % 256 = Bq := hBq.symm
  have eA : (G.a + 1) % 256 = Aq := hAq.symm
  try rw [eA]
  clear hBq hAq
  go_wp2_with (first
    | (go_at_call 19; refine Calls.mono (HRe.out) ?_; rintro e w9 ⟨rfl, hS9, hu9⟩
       have HS9 : Hid _ := hS9
       have HN9 : Hid (∀ o, (w9.alloc o).heap[w9.heap.size]? = some o) := heap_alloc_new w9
       have HX9 : Hid _ := rgNew w9 T
       clear hS9 hu9)
    | (refine wpList_store_rowTo rfl 23 _ _ rfl rfl w9.heap.size T.cells rfl rfl 23 #[.int .i64 0, .int .i64 0, .int .i64 0, .int .i64 0, .int .i64 0, .int .i64 0, .int .i64 0, .int .i64 0, .int .i64 0, .int .i64 0, .bool false, .int .i64 0] (HN9.out _) (by kernel_rfl) rfl (rgOne T) ?_
       generalize hW10 : World.setRow _ _ _ = W10
       obtain ⟨hg10, hu10⟩ := HX9.out W10 _ hW10
       have HS10 : Hid _ := HS9.out.ups hu10
       obtain ⟨t0, t1, t2, t3, t4, t5, t6, t7, t8, t9, t10, t11⟩ := regBlock T hg10
       obtain ⟨e8, e9, e0, e2⟩ := HT.out
       rw [e0] at t0
       rw [e2] at t2
       rw [e8] at t8
       rw [e9] at t9
       obtain ⟨x0, x1, x2, x3, x4, x5, x6, x7, x8, x9, x10, x11⟩ := regBlock _ HS10.out.reg
       clear hW10 hu10 hg10 HX9 HN9 HS9 e0 e2 e8 e9 t1 t3 t4 t5 t6 t7 t10 t11 x0 x1 x3 x4 x5 x6 x7 x9 x10 x11 HT))
  go_ret
  exact ⟨rfl, HS10.out.up.trans (by first | exact Up.drewN W10 _ | exact (Up.refl W10).drew | exact Up.refl W10)⟩
set_option maxRecDepth 100000 in
set_option maxHeartbeats 1000000 in
theorem calls_au (g : Rg) (G : Rg) (cond rs : Int) (C K : Nat) (hc : C = 4) (hK : K < 8) (HO : Hid G.Ok) (HS0 : Hid (G.state = 0)) (hsp : 1024 ≤ G.sp) (hsq : G.sp ≤ 39990)
    (HB : Hid (∀ W, Calls Tryz.prog 14 #[.agg #[.int .i64 g.a, .int .i64 g.f, .int .i64 g.b, .int .i64 g.c, .int .i64 g.d, .int .i64 g.e, .int .i64 g.h, .int .i64 g.l, .int .i64 g.sp, .int .i64 g.pc, .bool g.ime, .int .i64 g.state]] W fun e w' => e = .returned (.agg G.cells) ∧ Up W w'))
    (HI1 : Hid (I64 cond)) (HI2 : Hid (I64 rs)) (HCe : Hid (pickI cond 5 = (C : Int))) (HKe : Hid (pickI rs 8 = (K : Int)))
    (w : World) (HLB : Hid (LaidB w)) :
    Calls Tryz.prog 8 #[.agg g.cells, .int .i64 cond, .int .i64 rs] w fun e w' => e = .returned (.bool true) ∧ Up w w' := by
  subst hc
  have s1 := HO.out.sp.1
  have s2 := HO.out.sp.2
  have a1 := HO.out.a.1
  have a2 := HO.out.a.2
  have b1 := HO.out.b.1
  have b2 := HO.out.b.2
  have hOk : ClOk (G.sp) := ⟨by omega, by omega, by omega⟩
  have hKi : (K : Int) < 8 := by omega
  have sf0 : decide (G.sp < 1024) = false := by simp; omega
  have sf1 : decide (39990 < G.sp) = false := by simp; omega




  have o2 : ({ G with sp := G.sp, pc := 40000 } : Rg).Ok := { HO.out with pc := (show (0 : Int) ≤ 40000 ∧ (40000 : Int) ≤ 65535 by decide), sp := (show 0 ≤ G.sp ∧ G.sp ≤ 65535 by omega) }
  have HSt : Hid (∀ W, Calls Tryz.prog 16 #[.agg #[.int .i64 G.a, .int .i64 G.f, .int .i64 G.b, .int .i64 G.c, .int .i64 G.d, .int .i64 G.e, .int .i64 G.h, .int .i64 G.l, .int .i64 (G.sp), .int .i64 (40000), .bool G.ime, .int .i64 G.state]] W fun e w' => ∃ b, e = .returned (.pointer (some ⟨b, 0, none⟩)) ∧ W.heap.size ≤ b ∧ Cp w' b (bd (rgF G) (G.sp) 40000 G.ime) ∧ Up W w') := fun W => started_ok ({ G with sp := G.sp, pc := 40000 } : Rg) o2 HS0.out W
  have HIv : Hid (bd (rgF G) (G.sp) 40000 G.ime).Inv := bd_inv ({ G with sp := G.sp, pc := 40000 } : Rg) o2 HS0.out
  have HIn : Hid _ := fun i hi => clY_ins hOk 4 K (by decide) hK (Or.inl rfl) i hi (r := rgF G) (ime := G.ime)
  have hop : caOp 4 = 205 := by rfl
  clear o2
  rw [show g.cells = #[.int .i64 g.a, .int .i64 g.f, .int .i64 g.b, .int .i64 g.c, .int .i64 g.d, .int .i64 g.e, .int .i64 g.h, .int .i64 g.l, .int .i64 g.sp, .int .i64 g.pc, .bool g.ime, .int .i64 g.state] from rfl]
  go_enter Tryz.func8, Tryz.ntmps8
  go_wp2_with (first
    | (go_at_call 14; refine (HB.out _).mono ?_; rintro e w2 ⟨rfl, hu2⟩
       have u2 : Up w w2 := ((Up.refl w).alloc _).trans hu2
       have HN2 : Hid (∀ o, (w2.alloc o).heap[w2.heap.size]? = some o) := heap_alloc_new w2
       have HX2 : Hid _ := rgNew w2 G
       clear hu2)
    | (refine wpList_store_rowTo rfl 23 _ _ rfl rfl w2.heap.size G.cells rfl rfl 23 #[.int .i64 0, .int .i64 0, .int .i64 0, .int .i64 0, .int .i64 0, .int .i64 0, .int .i64 0, .int .i64 0, .int .i64 0, .int .i64 0, .bool false, .int .i64 0] (HN2.out _) (by kernel_rfl) rfl (rgOne G) ?_
       generalize hW3 : World.setRow _ _ _ = W3
       obtain ⟨hg3, hu3⟩ := HX2.out W3 _ hW3
       have u3 := u2.trans hu3
       have hl3 : w2.heap.size < W3.heap.size := (Array.getElem?_eq_some_iff.1 hg3).1
       obtain ⟨r0, r1, r2, r3, r4, r5, r6, r7, r8, r9, r10, r11⟩ := regBlock G hg3
       have HG3 : Hid (RgAt W3 w2.heap.size G) := hg3
       have hz3 := u2.size
       have fz8 : W3.frozen? ⟨w2.heap.size, 8, none⟩ = false := by simp [World.frozen?, hg3]
       have fz9 : W3.frozen? ⟨w2.heap.size, 9, none⟩ = false := by simp [World.frozen?, hg3]
       clear hW3 hu3 hg3 u2 HX2 HN2
       go_wp2_with fail)
    | (go_at_call 15; refine (pick_any _ _ _ (by first | exact HI1.out | exact HI2.out) (by decide) (by decide)).mono ?_; (first | rw [HCe.out] | rw [HKe.out]); rintro e w' ⟨rfl, rfl⟩)
    
    | (go_at_call 16; refine (HSt.out _).mono ?_; rintro e w4 ⟨b, rfl, hbs, h4, hu4⟩
       have hbs' : W3.heap.size ≤ b := by simp at hbs; omega
       have u4 : Up w w4 := (u3.setCell (p := ⟨w2.heap.size, 9, none⟩) hz3 _).trans hu4
       have hr4 : RgAt w4 w2.heap.size ({ G with sp := G.sp, pc := 40000 } : Rg) := (HG3.out.set (H := { G with pc := 40000 }) 9 _ rfl).up hu4
       clear hbs hu4 r0 r1 r2 r3 r4 r5 r6 r7 r8 r9 r10 r11 fz9 fz8))
  generalize hW5 : World.alloc (World.alloc (World.alloc (World.alloc w4 _) _) _) _ = W5
  have hby := cl_byt 4 K (by omega) hK
  have hPc : Pcs W5 (w4.heap.size + 1 + 1 + 1) [⟨40000, [caOp 4, 0, 2, 199 + 8 * (K : Int)]⟩, ⟨512, [60, 201]⟩, ⟨8 * (K : Int), [4, 201]⟩] := by
    have hb1 := hby.1
    rw [hop] at hb1
    rw [← hW5, hop]
    exact pcs3 w4 40000 512 (8 * (K : Int)) _ _ _ (by unfold I64; decide) (by unfold I64; decide) (by unfold I64; omega) hb1 hby.2.1 hby.2.2 (by simp) (by simp) (by simp)
  have u45 : Up w4 W5 := by rw [← hW5]; exact ((((Up.refl w4).alloc _).alloc _).alloc _).alloc _
  clear hW5
  refine (mem_three (w4.heap.size + 1 + 1 + 1) 40000 _ 512 _ (8 * (K : Int)) _ W5 hPc).mono ?_
  rintro e w6 ⟨rfl, m6, hu6⟩
  obtain ⟨hS6, hKs⟩ := bun_mk u4 HLB.out h4 (by have := u3.size; omega) hr4.lt hr4 (by omega) u45 hu6 m6
  have hbf : Byt (clF 4 K) := mem3_byt 40000 _ 512 _ (8 * (K : Int)) _ hby.1 hby.2.1 hby.2.2
  have hRu : Hid _ := bun_many 6 (by decide) (clY (rgF G) (G.sp) G.ime 4 K) clYk HIn.out clYk7 hS6 hKs HIv.out hbf
  have HIq : Hid _ := (runs_inv (clY (rgF G) (G.sp) G.ime 4 K) clYk 6 HIn.out HIv.out hbf).1
  obtain ⟨p, hp⟩ : ∃ p, p = w2.heap.size := ⟨_, rfl⟩
  obtain ⟨gm, hgm⟩ : ∃ gm, gm = W5.heap.size := ⟨_, rfl⟩
  rw [← hp, ← hgm] at hRu
  have x0 : w6.cell? ⟨p, 0, none⟩ = some (.int .i64 G.a) := by rw [hp]; exact (regBlock _ hS6.reg).1
  rw [← hp, ← hgm]
  clear hp hgm hS6 hKs m6 hu6 u45 hPc hr4 h4 u4 hl3 hz3 HG3 u3 hbs' HSt HB hbf hby
  go_wp2_with fail
  refine Calls.mono hRu.out ?_
  rintro e w7 ⟨rfl, hS7⟩
  have HS7 : Hid _ := hS7
  clear hS7 hRu x0
  have HRe : Hid _ := bun_regs HS7.out HIq.out
  obtain ⟨T, hT⟩ : ∃ T, T = toRg (clY (rgF G) (G.sp) G.ime 4 K 6).1 := ⟨_, rfl⟩
  rw [← hT] at HRe
  obtain ⟨Bq, hBq⟩ : ∃ B, B = (G.b + 1) % 256 := ⟨_, rfl⟩
  obtain ⟨Aq, hAq⟩ : ∃ A, A = (G.a + 1) % 256 := ⟨_, rfl⟩
  have HT : Hid (T.sp = G.sp ∧ T.pc = 40004 ∧ T.a = Aq ∧ T.b = Bq) := by
    rw [hT, hAq, hBq]
    exact ⟨rfl, rfl, rfl, rfl⟩
  clear hT
  have wB : IntKind.i64.wrap (G.b + 1) = G.b + 1 := wj _ (by omega) (by omega)
  have tB : (G.b + 1).tmod 256 = Bq := by rw [hBq]; exact Int.tmod_eq_emod_of_nonneg (by omega)
  have bq0 : 0 ≤ Bq := by omega
  have bq1 : Bq ≤ 255 := by omega
  have wBq : IntKind.i64.wrap Bq = Bq := wj _ (by omega) (by omega)
  have eB : (G.b + 1) % 256 = Bq := hBq.symm
  have eA : (G.a + 1) % 256 = Aq := hAq.symm
  try rw [eA]
  clear hBq hAq
  go_wp2_with (first
    | (go_at_call 19; refine Calls.mono (HRe.out) ?_; rintro e w9 ⟨rfl, hS9, hu9⟩
       have HS9 : Hid _ := hS9
       have HN9 : Hid (∀ o, (w9.alloc o).heap[w9.heap.size]? = some o) := heap_alloc_new w9
       have HX9 : Hid _ := rgNew w9 T
       clear hS9 hu9)
    | (refine wpList_store_rowTo rfl 23 _ _ rfl rfl w9.heap.size T.cells rfl rfl 23 #[.int .i64 0, .int .i64 0, .int .i64 0, .int .i64 0, .int .i64 0, .int .i64 0, .int .i64 0, .int .i64 0, .int .i64 0, .int .i64 0, .bool false, .int .i64 0] (HN9.out _) (by kernel_rfl) rfl (rgOne T) ?_
       generalize hW10 : World.setRow _ _ _ = W10
       obtain ⟨hg10, hu10⟩ := HX9.out W10 _ hW10
       have HS10 : Hid _ := HS9.out.ups hu10
       obtain ⟨t0, t1, t2, t3, t4, t5, t6, t7, t8, t9, t10, t11⟩ := regBlock T hg10
       obtain ⟨e8, e9, e0, e2⟩ := HT.out
       rw [e0] at t0
       rw [e2] at t2
       rw [e8] at t8
       rw [e9] at t9
       obtain ⟨x0, x1, x2, x3, x4, x5, x6, x7, x8, x9, x10, x11⟩ := regBlock _ HS10.out.reg
       clear hW10 hu10 hg10 HX9 HN9 HS9 e0 e2 e8 e9 t1 t3 t4 t5 t6 t7 t10 t11 x0 x1 x3 x4 x5 x6 x7 x9 x10 x11 HT))
  go_ret
  exact ⟨rfl, HS10.out.up.trans (by first | exact Up.drewN W10 _ | exact (Up.refl W10).drew | exact Up.refl W10)⟩
set_option maxRecDepth 100000 in
set_option maxHeartbeats 1000000 in
theorem calls_av (g : Rg) (G : Rg) (cond rs : Int) (C K : Nat) (hc : C = 4) (hK : K < 8) (HO : Hid G.Ok) (HS0 : Hid (G.state = 0)) (hsp : 40040 ≤ G.sp)
    (HB : Hid (∀ W, Calls Tryz.prog 14 #[.agg #[.int .i64 g.a, .int .i64 g.f, .int .i64 g.b, .int .i64 g.c, .int .i64 g.d, .int .i64 g.e, .int .i64 g.h, .int .i64 g.l, .int .i64 g.sp, .int .i64 g.pc, .bool g.ime, .int .i64 g.state]] W fun e w' => e = .returned (.agg G.cells) ∧ Up W w'))
    (HI1 : Hid (I64 cond)) (HI2 : Hid (I64 rs)) (HCe : Hid (pickI cond 5 = (C : Int))) (HKe : Hid (pickI rs 8 = (K : Int)))
    (w : World) (HLB : Hid (LaidB w)) :
    Calls Tryz.prog 8 #[.agg g.cells, .int .i64 cond, .int .i64 rs] w fun e w' => e = .returned (.bool true) ∧ Up w w' := by
  subst hc
  have s1 := HO.out.sp.1
  have s2 := HO.out.sp.2
  have a1 := HO.out.a.1
  have a2 := HO.out.a.2
  have b1 := HO.out.b.1
  have b2 := HO.out.b.2
  have hOk : ClOk (G.sp) := ⟨by omega, by omega, by omega⟩
  have hKi : (K : Int) < 8 := by omega
  have sf0 : decide (G.sp < 1024) = false := by simp; omega
  have sf1 : decide (39990 < G.sp) = true := by simp; omega
  have sf2 : decide (G.sp < 40040) = false := by simp; omega




  have o2 : ({ G with sp := G.sp, pc := 40000 } : Rg).Ok := { HO.out with pc := (show (0 : Int) ≤ 40000 ∧ (40000 : Int) ≤ 65535 by decide), sp := (show 0 ≤ G.sp ∧ G.sp ≤ 65535 by omega) }
  have HSt : Hid (∀ W, Calls Tryz.prog 16 #[.agg #[.int .i64 G.a, .int .i64 G.f, .int .i64 G.b, .int .i64 G.c, .int .i64 G.d, .int .i64 G.e, .int .i64 G.h, .int .i64 G.l, .int .i64 (G.sp), .int .i64 (40000), .bool G.ime, .int .i64 G.state]] W fun e w' => ∃ b, e = .returned (.pointer (some ⟨b, 0, none⟩)) ∧ W.heap.size ≤ b ∧ Cp w' b (bd (rgF G) (G.sp) 40000 G.ime) ∧ Up W w') := fun W => started_ok ({ G with sp := G.sp, pc := 40000 } : Rg) o2 HS0.out W
  have HIv : Hid (bd (rgF G) (G.sp) 40000 G.ime).Inv := bd_inv ({ G with sp := G.sp, pc := 40000 } : Rg) o2 HS0.out
  have HIn : Hid _ := fun i hi => clY_ins hOk 4 K (by decide) hK (Or.inl rfl) i hi (r := rgF G) (ime := G.ime)
  have hop : caOp 4 = 205 := by rfl
  clear o2
  rw [show g.cells = #[.int .i64 g.a, .int .i64 g.f, .int .i64 g.b, .int .i64 g.c, .int .i64 g.d, .int .i64 g.e, .int .i64 g.h, .int .i64 g.l, .int .i64 g.sp, .int .i64 g.pc, .bool g.ime, .int .i64 g.state] from rfl]
  go_enter Tryz.func8, Tryz.ntmps8
  go_wp2_with (first
    | (go_at_call 14; refine (HB.out _).mono ?_; rintro e w2 ⟨rfl, hu2⟩
       have u2 : Up w w2 := ((Up.refl w).alloc _).trans hu2
       have HN2 : Hid (∀ o, (w2.alloc o).heap[w2.heap.size]? = some o) := heap_alloc_new w2
       have HX2 : Hid _ := rgNew w2 G
       clear hu2)
    | (refine wpList_store_rowTo rfl 23 _ _ rfl rfl w2.heap.size G.cells rfl rfl 23 #[.int .i64 0, .int .i64 0, .int .i64 0, .int .i64 0, .int .i64 0, .int .i64 0, .int .i64 0, .int .i64 0, .int .i64 0, .int .i64 0, .bool false, .int .i64 0] (HN2.out _) (by kernel_rfl) rfl (rgOne G) ?_
       generalize hW3 : World.setRow _ _ _ = W3
       obtain ⟨hg3, hu3⟩ := HX2.out W3 _ hW3
       have u3 := u2.trans hu3
       have hl3 : w2.heap.size < W3.heap.size := (Array.getElem?_eq_some_iff.1 hg3).1
       obtain ⟨r0, r1, r2, r3, r4, r5, r6, r7, r8, r9, r10, r11⟩ := regBlock G hg3
       have HG3 : Hid (RgAt W3 w2.heap.size G) := hg3
       have hz3 := u2.size
       have fz8 : W3.frozen? ⟨w2.heap.size, 8, none⟩ = false := by simp [World.frozen?, hg3]
       have fz9 : W3.frozen? ⟨w2.heap.size, 9, none⟩ = false := by simp [World.frozen?, hg3]
       clear hW3 hu3 hg3 u2 HX2 HN2
       go_wp2_with fail)
    | (go_at_call 15; refine (pick_any _ _ _ (by first | exact HI1.out | exact HI2.out) (by decide) (by decide)).mono ?_; (first | rw [HCe.out] | rw [HKe.out]); rintro e w' ⟨rfl, rfl⟩)
    
    | (go_at_call 16; refine (HSt.out _).mono ?_; rintro e w4 ⟨b, rfl, hbs, h4, hu4⟩
       have hbs' : W3.heap.size ≤ b := by simp at hbs; omega
       have u4 : Up w w4 := (u3.setCell (p := ⟨w2.heap.size, 9, none⟩) hz3 _).trans hu4
       have hr4 : RgAt w4 w2.heap.size ({ G with sp := G.sp, pc := 40000 } : Rg) := (HG3.out.set (H := { G with pc := 40000 }) 9 _ rfl).up hu4
       clear hbs hu4 r0 r1 r2 r3 r4 r5 r6 r7 r8 r9 r10 r11 fz9 fz8))
  generalize hW5 : World.alloc (World.alloc (World.alloc (World.alloc w4 _) _) _) _ = W5
  have hby := cl_byt 4 K (by omega) hK
  have hPc : Pcs W5 (w4.heap.size + 1 + 1 + 1) [⟨40000, [caOp 4, 0, 2, 199 + 8 * (K : Int)]⟩, ⟨512, [60, 201]⟩, ⟨8 * (K : Int), [4, 201]⟩] := by
    have hb1 := hby.1
    rw [hop] at hb1
    rw [← hW5, hop]
    exact pcs3 w4 40000 512 (8 * (K : Int)) _ _ _ (by unfold I64; decide) (by unfold I64; decide) (by unfold I64; omega) hb1 hby.2.1 hby.2.2 (by simp) (by simp) (by simp)
  have u45 : Up w4 W5 := by rw [← hW5]; exact ((((Up.refl w4).alloc _).alloc _).alloc _).alloc _
  clear hW5
  refine (mem_three (w4.heap.size + 1 + 1 + 1) 40000 _ 512 _ (8 * (K : Int)) _ W5 hPc).mono ?_
  rintro e w6 ⟨rfl, m6, hu6⟩
  obtain ⟨hS6, hKs⟩ := bun_mk u4 HLB.out h4 (by have := u3.size; omega) hr4.lt hr4 (by omega) u45 hu6 m6
  have hbf : Byt (clF 4 K) := mem3_byt 40000 _ 512 _ (8 * (K : Int)) _ hby.1 hby.2.1 hby.2.2
  have hRu : Hid _ := bun_many 6 (by decide) (clY (rgF G) (G.sp) G.ime 4 K) clYk HIn.out clYk7 hS6 hKs HIv.out hbf
  have HIq : Hid _ := (runs_inv (clY (rgF G) (G.sp) G.ime 4 K) clYk 6 HIn.out HIv.out hbf).1
  obtain ⟨p, hp⟩ : ∃ p, p = w2.heap.size := ⟨_, rfl⟩
  obtain ⟨gm, hgm⟩ : ∃ gm, gm = W5.heap.size := ⟨_, rfl⟩
  rw [← hp, ← hgm] at hRu
  have x0 : w6.cell? ⟨p, 0, none⟩ = some (.int .i64 G.a) := by rw [hp]; exact (regBlock _ hS6.reg).1
  rw [← hp, ← hgm]
  clear hp hgm hS6 hKs m6 hu6 u45 hPc hr4 h4 u4 hl3 hz3 HG3 u3 hbs' HSt HB hbf hby
  go_wp2_with fail
  refine Calls.mono hRu.out ?_
  rintro e w7 ⟨rfl, hS7⟩
  have HS7 : Hid _ := hS7
  clear hS7 hRu x0
  have HRe : Hid _ := bun_regs HS7.out HIq.out
  obtain ⟨T, hT⟩ : ∃ T, T = toRg (clY (rgF G) (G.sp) G.ime 4 K 6).1 := ⟨_, rfl⟩
  rw [← hT] at HRe
  obtain ⟨Bq, hBq⟩ : ∃ B, B = (G.b + 1) % 256 := ⟨_, rfl⟩
  obtain ⟨Aq, hAq⟩ : ∃ A, A = (G.a + 1) % 256 := ⟨_, rfl⟩
  have HT : Hid (T.sp = G.sp ∧ T.pc = 40004 ∧ T.a = Aq ∧ T.b = Bq) := by
    rw [hT, hAq, hBq]
    exact ⟨rfl, rfl, rfl, rfl⟩
  clear hT
  have wB : IntKind.i64.wrap (G.b + 1) = G.b + 1 := wj _ (by omega) (by omega)
  have tB : (G.b + 1).tmod 256 = Bq := by rw [hBq]; exact Int.tmod_eq_emod_of_nonneg (by omega)
  have bq0 : 0 ≤ Bq := by omega
  have bq1 : Bq ≤ 255 := by omega
  have wBq : IntKind.i64.wrap Bq = Bq := wj _ (by omega) (by omega)
  have eB : (G.b + 1) % 256 = Bq := hBq.symm
  have eA : (G.a + 1) % 256 = Aq := hAq.symm
  try rw [eA]
  clear hBq hAq
  go_wp2_with (first
    | (go_at_call 19; refine Calls.mono (HRe.out) ?_; rintro e w9 ⟨rfl, hS9, hu9⟩
       have HS9 : Hid _ := hS9
       have HN9 : Hid (∀ o, (w9.alloc o).heap[w9.heap.size]? = some o) := heap_alloc_new w9
       have HX9 : Hid _ := rgNew w9 T
       clear hS9 hu9)
    | (refine wpList_store_rowTo rfl 23 _ _ rfl rfl w9.heap.size T.cells rfl rfl 23 #[.int .i64 0, .int .i64 0, .int .i64 0, .int .i64 0, .int .i64 0, .int .i64 0, .int .i64 0, .int .i64 0, .int .i64 0, .int .i64 0, .bool false, .int .i64 0] (HN9.out _) (by kernel_rfl) rfl (rgOne T) ?_
       generalize hW10 : World.setRow _ _ _ = W10
       obtain ⟨hg10, hu10⟩ := HX9.out W10 _ hW10
       have HS10 : Hid _ := HS9.out.ups hu10
       obtain ⟨t0, t1, t2, t3, t4, t5, t6, t7, t8, t9, t10, t11⟩ := regBlock T hg10
       obtain ⟨e8, e9, e0, e2⟩ := HT.out
       rw [e0] at t0
       rw [e2] at t2
       rw [e8] at t8
       rw [e9] at t9
       obtain ⟨x0, x1, x2, x3, x4, x5, x6, x7, x8, x9, x10, x11⟩ := regBlock _ HS10.out.reg
       clear hW10 hu10 hg10 HX9 HN9 HS9 e0 e2 e8 e9 t1 t3 t4 t5 t6 t7 t10 t11 x0 x1 x3 x4 x5 x6 x7 x9 x10 x11 HT))
  go_ret
  exact ⟨rfl, HS10.out.up.trans (by first | exact Up.drewN W10 _ | exact (Up.refl W10).drew | exact Up.refl W10)⟩
set_option maxRecDepth 100000 in
set_option maxHeartbeats 1000000 in
theorem calls_yl (g : Rg) (G : Rg) (cond rs : Int) (C K : Nat) (hc : C < 4) (hK : K < 8) (HO : Hid G.Ok) (HS0 : Hid (G.state = 0)) (hsp : G.sp < 1024) (hh : holdsC C G.f = true)
    (HB : Hid (∀ W, Calls Tryz.prog 14 #[.agg #[.int .i64 g.a, .int .i64 g.f, .int .i64 g.b, .int .i64 g.c, .int .i64 g.d, .int .i64 g.e, .int .i64 g.h, .int .i64 g.l, .int .i64 g.sp, .int .i64 g.pc, .bool g.ime, .int .i64 g.state]] W fun e w' => e = .returned (.agg G.cells) ∧ Up W w'))
    (HI1 : Hid (I64 cond)) (HI2 : Hid (I64 rs)) (HCe : Hid (pickI cond 5 = (C : Int))) (HKe : Hid (pickI rs 8 = (K : Int)))
    (w : World) (HLB : Hid (LaidB w)) :
    Calls Tryz.prog 8 #[.agg g.cells, .int .i64 cond, .int .i64 rs] w fun e w' => e = .returned (.bool true) ∧ Up w w' := by

  have s1 := HO.out.sp.1
  have s2 := HO.out.sp.2
  have a1 := HO.out.a.1
  have a2 := HO.out.a.2
  have b1 := HO.out.b.1
  have b2 := HO.out.b.2
  have hOk : ClOk (50000) := ⟨by omega, by omega, by omega⟩
  have hKi : (K : Int) < 8 := by omega
  have hCi : (C : Int) < 4 := by omega
  have cf0 : decide ((C : Int) < 4) = true := by simp; omega
  have cf1 : ((C : Int) == 4) = false := by simp; omega
  have HHo : Hid (∀ W, Calls Tryz.prog 22 #[.int .i64 G.f, .int .i64 C] W fun e w' => e = .returned (.bool true) ∧ w' = W) := fun W => by rw [← hh]; exact lholds_any C hc G.f HO.out.f.1 HO.out.f.2 W
  have o2 : ({ G with sp := 50000, pc := 40000 } : Rg).Ok := { HO.out with pc := (show (0 : Int) ≤ 40000 ∧ (40000 : Int) ≤ 65535 by decide), sp := (show 0 ≤ 50000 ∧ 50000 ≤ 65535 by omega) }
  have HSt : Hid (∀ W, Calls Tryz.prog 16 #[.agg #[.int .i64 G.a, .int .i64 G.f, .int .i64 G.b, .int .i64 G.c, .int .i64 G.d, .int .i64 G.e, .int .i64 G.h, .int .i64 G.l, .int .i64 (50000), .int .i64 (40000), .bool G.ime, .int .i64 G.state]] W fun e w' => ∃ b, e = .returned (.pointer (some ⟨b, 0, none⟩)) ∧ W.heap.size ≤ b ∧ Cp w' b (bd (rgF G) (50000) 40000 G.ime) ∧ Up W w') := fun W => started_ok ({ G with sp := 50000, pc := 40000 } : Rg) o2 HS0.out W
  have HIv : Hid (bd (rgF G) (50000) 40000 G.ime).Inv := bd_inv ({ G with sp := 50000, pc := 40000 } : Rg) o2 HS0.out
  have HIn : Hid _ := fun i hi => clY_ins hOk C K (by omega) hK (Or.inr hh) i hi (r := rgF G) (ime := G.ime)
  have hop : caOp C = 196 + 8 * (C : Int) := by unfold caOp; rw [if_pos hc]
  clear o2 hh
  rw [show g.cells = #[.int .i64 g.a, .int .i64 g.f, .int .i64 g.b, .int .i64 g.c, .int .i64 g.d, .int .i64 g.e, .int .i64 g.h, .int .i64 g.l, .int .i64 g.sp, .int .i64 g.pc, .bool g.ime, .int .i64 g.state] from rfl]
  go_enter Tryz.func8, Tryz.ntmps8
  go_wp2_with (first
    | (go_at_call 14; refine (HB.out _).mono ?_; rintro e w2 ⟨rfl, hu2⟩
       have u2 : Up w w2 := ((Up.refl w).alloc _).trans hu2
       have HN2 : Hid (∀ o, (w2.alloc o).heap[w2.heap.size]? = some o) := heap_alloc_new w2
       have HX2 : Hid _ := rgNew w2 G
       clear hu2)
    | (refine wpList_store_rowTo rfl 23 _ _ rfl rfl w2.heap.size G.cells rfl rfl 23 #[.int .i64 0, .int .i64 0, .int .i64 0, .int .i64 0, .int .i64 0, .int .i64 0, .int .i64 0, .int .i64 0, .int .i64 0, .int .i64 0, .bool false, .int .i64 0] (HN2.out _) (by kernel_rfl) rfl (rgOne G) ?_
       generalize hW3 : World.setRow _ _ _ = W3
       obtain ⟨hg3, hu3⟩ := HX2.out W3 _ hW3
       have u3 := u2.trans hu3
       have hl3 : w2.heap.size < W3.heap.size := (Array.getElem?_eq_some_iff.1 hg3).1
       obtain ⟨r0, r1, r2, r3, r4, r5, r6, r7, r8, r9, r10, r11⟩ := regBlock G hg3
       have HG3 : Hid (RgAt W3 w2.heap.size G) := hg3
       have hz3 := u2.size
       have fz8 : W3.frozen? ⟨w2.heap.size, 8, none⟩ = false := by simp [World.frozen?, hg3]
       have fz9 : W3.frozen? ⟨w2.heap.size, 9, none⟩ = false := by simp [World.frozen?, hg3]
       clear hW3 hu3 hg3 u2 HX2 HN2
       go_wp2_with fail)
    | (go_at_call 15; refine (pick_any _ _ _ (by first | exact HI1.out | exact HI2.out) (by decide) (by decide)).mono ?_; (first | rw [HCe.out] | rw [HKe.out]); rintro e w' ⟨rfl, rfl⟩)
    | (go_at_call 22; refine (HHo.out _).mono ?_; rintro e w' ⟨rfl, rfl⟩)
    | (go_at_call 16; refine (HSt.out _).mono ?_; rintro e w4 ⟨b, rfl, hbs, h4, hu4⟩
       have hbs' : W3.heap.size ≤ b := by simp at hbs; omega
       have u4 : Up w w4 := ((u3.setCell (p := ⟨w2.heap.size, 9, none⟩) hz3 _).setCell (p := ⟨w2.heap.size, 8, none⟩) hz3 _).trans hu4
       have hr4 : RgAt w4 w2.heap.size ({ G with sp := 50000, pc := 40000 } : Rg) := ((HG3.out.set (H := { G with pc := 40000 }) 9 _ rfl).set (H := { G with sp := 50000, pc := 40000 }) 8 _ rfl).up hu4
       clear hbs hu4 r0 r1 r2 r3 r4 r5 r6 r7 r8 r9 r10 r11 fz9 fz8))
  generalize hW5 : World.alloc (World.alloc (World.alloc (World.alloc w4 _) _) _) _ = W5
  have hby := cl_byt C K (by omega) hK
  have hPc : Pcs W5 (w4.heap.size + 1 + 1 + 1) [⟨40000, [caOp C, 0, 2, 199 + 8 * (K : Int)]⟩, ⟨512, [60, 201]⟩, ⟨8 * (K : Int), [4, 201]⟩] := by
    have hb1 := hby.1
    rw [hop] at hb1
    rw [← hW5, hop]
    exact pcs3 w4 40000 512 (8 * (K : Int)) _ _ _ (by unfold I64; decide) (by unfold I64; decide) (by unfold I64; omega) hb1 hby.2.1 hby.2.2 (by simp) (by simp) (by simp)
  have u45 : Up w4 W5 := by rw [← hW5]; exact ((((Up.refl w4).alloc _).alloc _).alloc _).alloc _
  clear hW5
  refine (mem_three (w4.heap.size + 1 + 1 + 1) 40000 _ 512 _ (8 * (K : Int)) _ W5 hPc).mono ?_
  rintro e w6 ⟨rfl, m6, hu6⟩
  obtain ⟨hS6, hKs⟩ := bun_mk u4 HLB.out h4 (by have := u3.size; omega) hr4.lt hr4 (by omega) u45 hu6 m6
  have hbf : Byt (clF C K) := mem3_byt 40000 _ 512 _ (8 * (K : Int)) _ hby.1 hby.2.1 hby.2.2
  have hRu : Hid _ := bun_many 6 (by decide) (clY (rgF G) (50000) G.ime C K) clYk HIn.out clYk7 hS6 hKs HIv.out hbf
  have HIq : Hid _ := (runs_inv (clY (rgF G) (50000) G.ime C K) clYk 6 HIn.out HIv.out hbf).1
  obtain ⟨p, hp⟩ : ∃ p, p = w2.heap.size := ⟨_, rfl⟩
  obtain ⟨gm, hgm⟩ : ∃ gm, gm = W5.heap.size := ⟨_, rfl⟩
  rw [← hp, ← hgm] at hRu
  have x0 : w6.cell? ⟨p, 0, none⟩ = some (.int .i64 G.a) := by rw [hp]; exact (regBlock _ hS6.reg).1
  rw [← hp, ← hgm]
  clear hp hgm hS6 hKs m6 hu6 u45 hPc hr4 h4 u4 hl3 hz3 HG3 u3 hbs' HSt HB hbf hby
  go_wp2_with fail
  refine Calls.mono hRu.out ?_
  rintro e w7 ⟨rfl, hS7⟩
  have HS7 : Hid _ := hS7
  clear hS7 hRu x0
  have HRe : Hid _ := bun_regs HS7.out HIq.out
  obtain ⟨T, hT⟩ : ∃ T, T = toRg (clY (rgF G) (50000) G.ime C K 6).1 := ⟨_, rfl⟩
  rw [← hT] at HRe
  obtain ⟨Bq, hBq⟩ : ∃ B, B = (G.b + 1) % 256 := ⟨_, rfl⟩
  obtain ⟨Aq, hAq⟩ : ∃ A, A = (G.a + 1) % 256 := ⟨_, rfl⟩
  have HT : Hid (T.sp = 50000 ∧ T.pc = 40004 ∧ T.a = Aq ∧ T.b = Bq) := by
    rw [hT, hAq, hBq]
    exact ⟨rfl, rfl, rfl, rfl⟩
  clear hT
  have wB : IntKind.i64.wrap (G.b + 1) = G.b + 1 := wj _ (by omega) (by omega)
  have tB : (G.b + 1).tmod 256 = Bq := by rw [hBq]; exact Int.tmod_eq_emod_of_nonneg (by omega)
  have bq0 : 0 ≤ Bq := by omega
  have bq1 : Bq ≤ 255 := by omega
  have wBq : IntKind.i64.wrap Bq = Bq := wj _ (by omega) (by omega)
  have eB : (G.b + 1) % 256 = Bq := hBq.symm
  have eA : (G.a + 1) % 256 = Aq := hAq.symm
  try rw [eA]
  clear hBq hAq
  go_wp2_with (first
    | (go_at_call 19; refine Calls.mono (HRe.out) ?_; rintro e w9 ⟨rfl, hS9, hu9⟩
       have HS9 : Hid _ := hS9
       have HN9 : Hid (∀ o, (w9.alloc o).heap[w9.heap.size]? = some o) := heap_alloc_new w9
       have HX9 : Hid _ := rgNew w9 T
       clear hS9 hu9)
    | (refine wpList_store_rowTo rfl 23 _ _ rfl rfl w9.heap.size T.cells rfl rfl 23 #[.int .i64 0, .int .i64 0, .int .i64 0, .int .i64 0, .int .i64 0, .int .i64 0, .int .i64 0, .int .i64 0, .int .i64 0, .int .i64 0, .bool false, .int .i64 0] (HN9.out _) (by kernel_rfl) rfl (rgOne T) ?_
       generalize hW10 : World.setRow _ _ _ = W10
       obtain ⟨hg10, hu10⟩ := HX9.out W10 _ hW10
       have HS10 : Hid _ := HS9.out.ups hu10
       obtain ⟨t0, t1, t2, t3, t4, t5, t6, t7, t8, t9, t10, t11⟩ := regBlock T hg10
       obtain ⟨e8, e9, e0, e2⟩ := HT.out
       rw [e0] at t0
       rw [e2] at t2
       rw [e8] at t8
       rw [e9] at t9
       obtain ⟨x0, x1, x2, x3, x4, x5, x6, x7, x8, x9, x10, x11⟩ := regBlock _ HS10.out.reg
       clear hW10 hu10 hg10 HX9 HN9 HS9 e0 e2 e8 e9 t1 t3 t4 t5 t6 t7 t10 t11 x0 x1 x3 x4 x5 x6 x7 x9 x10 x11 HT))
  go_ret
  exact ⟨rfl, HS10.out.up.trans (by first | exact Up.drewN W10 _ | exact (Up.refl W10).drew | exact Up.refl W10)⟩
set_option maxRecDepth 100000 in
set_option maxHeartbeats 1000000 in
theorem calls_ym (g : Rg) (G : Rg) (cond rs : Int) (C K : Nat) (hc : C < 4) (hK : K < 8) (HO : Hid G.Ok) (HS0 : Hid (G.state = 0)) (hsp : 39990 < G.sp) (hsq : G.sp < 40040) (hh : holdsC C G.f = true)
    (HB : Hid (∀ W, Calls Tryz.prog 14 #[.agg #[.int .i64 g.a, .int .i64 g.f, .int .i64 g.b, .int .i64 g.c, .int .i64 g.d, .int .i64 g.e, .int .i64 g.h, .int .i64 g.l, .int .i64 g.sp, .int .i64 g.pc, .bool g.ime, .int .i64 g.state]] W fun e w' => e = .returned (.agg G.cells) ∧ Up W w'))
    (HI1 : Hid (I64 cond)) (HI2 : Hid (I64 rs)) (HCe : Hid (pickI cond 5 = (C : Int))) (HKe : Hid (pickI rs 8 = (K : Int)))
    (w : World) (HLB : Hid (LaidB w)) :
    Calls Tryz.prog 8 #[.agg g.cells, .int .i64 cond, .int .i64 rs] w fun e w' => e = .returned (.bool true) ∧ Up w w' := by

  have s1 := HO.out.sp.1
  have s2 := HO.out.sp.2
  have a1 := HO.out.a.1
  have a2 := HO.out.a.2
  have b1 := HO.out.b.1
  have b2 := HO.out.b.2
  have hOk : ClOk (50000) := ⟨by omega, by omega, by omega⟩
  have hKi : (K : Int) < 8 := by omega
  have sf0 : decide (G.sp < 1024) = false := by simp; omega
  have sf1 : decide (39990 < G.sp) = true := by simp; omega
  have sf2 : decide (G.sp < 40040) = true := by simp; omega
  have hCi : (C : Int) < 4 := by omega
  have cf0 : decide ((C : Int) < 4) = true := by simp; omega
  have cf1 : ((C : Int) == 4) = false := by simp; omega
  have HHo : Hid (∀ W, Calls Tryz.prog 22 #[.int .i64 G.f, .int .i64 C] W fun e w' => e = .returned (.bool true) ∧ w' = W) := fun W => by rw [← hh]; exact lholds_any C hc G.f HO.out.f.1 HO.out.f.2 W
  have o2 : ({ G with sp := 50000, pc := 40000 } : Rg).Ok := { HO.out with pc := (show (0 : Int) ≤ 40000 ∧ (40000 : Int) ≤ 65535 by decide), sp := (show 0 ≤ 50000 ∧ 50000 ≤ 65535 by omega) }
  have HSt : Hid (∀ W, Calls Tryz.prog 16 #[.agg #[.int .i64 G.a, .int .i64 G.f, .int .i64 G.b, .int .i64 G.c, .int .i64 G.d, .int .i64 G.e, .int .i64 G.h, .int .i64 G.l, .int .i64 (50000), .int .i64 (40000), .bool G.ime, .int .i64 G.state]] W fun e w' => ∃ b, e = .returned (.pointer (some ⟨b, 0, none⟩)) ∧ W.heap.size ≤ b ∧ Cp w' b (bd (rgF G) (50000) 40000 G.ime) ∧ Up W w') := fun W => started_ok ({ G with sp := 50000, pc := 40000 } : Rg) o2 HS0.out W
  have HIv : Hid (bd (rgF G) (50000) 40000 G.ime).Inv := bd_inv ({ G with sp := 50000, pc := 40000 } : Rg) o2 HS0.out
  have HIn : Hid _ := fun i hi => clY_ins hOk C K (by omega) hK (Or.inr hh) i hi (r := rgF G) (ime := G.ime)
  have hop : caOp C = 196 + 8 * (C : Int) := by unfold caOp; rw [if_pos hc]
  clear o2 hh
  rw [show g.cells = #[.int .i64 g.a, .int .i64 g.f, .int .i64 g.b, .int .i64 g.c, .int .i64 g.d, .int .i64 g.e, .int .i64 g.h, .int .i64 g.l, .int .i64 g.sp, .int .i64 g.pc, .bool g.ime, .int .i64 g.state] from rfl]
  go_enter Tryz.func8, Tryz.ntmps8
  go_wp2_with (first
    | (go_at_call 14; refine (HB.out _).mono ?_; rintro e w2 ⟨rfl, hu2⟩
       have u2 : Up w w2 := ((Up.refl w).alloc _).trans hu2
       have HN2 : Hid (∀ o, (w2.alloc o).heap[w2.heap.size]? = some o) := heap_alloc_new w2
       have HX2 : Hid _ := rgNew w2 G
       clear hu2)
    | (refine wpList_store_rowTo rfl 23 _ _ rfl rfl w2.heap.size G.cells rfl rfl 23 #[.int .i64 0, .int .i64 0, .int .i64 0, .int .i64 0, .int .i64 0, .int .i64 0, .int .i64 0, .int .i64 0, .int .i64 0, .int .i64 0, .bool false, .int .i64 0] (HN2.out _) (by kernel_rfl) rfl (rgOne G) ?_
       generalize hW3 : World.setRow _ _ _ = W3
       obtain ⟨hg3, hu3⟩ := HX2.out W3 _ hW3
       have u3 := u2.trans hu3
       have hl3 : w2.heap.size < W3.heap.size := (Array.getElem?_eq_some_iff.1 hg3).1
       obtain ⟨r0, r1, r2, r3, r4, r5, r6, r7, r8, r9, r10, r11⟩ := regBlock G hg3
       have HG3 : Hid (RgAt W3 w2.heap.size G) := hg3
       have hz3 := u2.size
       have fz8 : W3.frozen? ⟨w2.heap.size, 8, none⟩ = false := by simp [World.frozen?, hg3]
       have fz9 : W3.frozen? ⟨w2.heap.size, 9, none⟩ = false := by simp [World.frozen?, hg3]
       clear hW3 hu3 hg3 u2 HX2 HN2
       go_wp2_with fail)
    | (go_at_call 15; refine (pick_any _ _ _ (by first | exact HI1.out | exact HI2.out) (by decide) (by decide)).mono ?_; (first | rw [HCe.out] | rw [HKe.out]); rintro e w' ⟨rfl, rfl⟩)
    | (go_at_call 22; refine (HHo.out _).mono ?_; rintro e w' ⟨rfl, rfl⟩)
    | (go_at_call 16; refine (HSt.out _).mono ?_; rintro e w4 ⟨b, rfl, hbs, h4, hu4⟩
       have hbs' : W3.heap.size ≤ b := by simp at hbs; omega
       have u4 : Up w w4 := ((u3.setCell (p := ⟨w2.heap.size, 9, none⟩) hz3 _).setCell (p := ⟨w2.heap.size, 8, none⟩) hz3 _).trans hu4
       have hr4 : RgAt w4 w2.heap.size ({ G with sp := 50000, pc := 40000 } : Rg) := ((HG3.out.set (H := { G with pc := 40000 }) 9 _ rfl).set (H := { G with sp := 50000, pc := 40000 }) 8 _ rfl).up hu4
       clear hbs hu4 r0 r1 r2 r3 r4 r5 r6 r7 r8 r9 r10 r11 fz9 fz8))
  generalize hW5 : World.alloc (World.alloc (World.alloc (World.alloc w4 _) _) _) _ = W5
  have hby := cl_byt C K (by omega) hK
  have hPc : Pcs W5 (w4.heap.size + 1 + 1 + 1) [⟨40000, [caOp C, 0, 2, 199 + 8 * (K : Int)]⟩, ⟨512, [60, 201]⟩, ⟨8 * (K : Int), [4, 201]⟩] := by
    have hb1 := hby.1
    rw [hop] at hb1
    rw [← hW5, hop]
    exact pcs3 w4 40000 512 (8 * (K : Int)) _ _ _ (by unfold I64; decide) (by unfold I64; decide) (by unfold I64; omega) hb1 hby.2.1 hby.2.2 (by simp) (by simp) (by simp)
  have u45 : Up w4 W5 := by rw [← hW5]; exact ((((Up.refl w4).alloc _).alloc _).alloc _).alloc _
  clear hW5
  refine (mem_three (w4.heap.size + 1 + 1 + 1) 40000 _ 512 _ (8 * (K : Int)) _ W5 hPc).mono ?_
  rintro e w6 ⟨rfl, m6, hu6⟩
  obtain ⟨hS6, hKs⟩ := bun_mk u4 HLB.out h4 (by have := u3.size; omega) hr4.lt hr4 (by omega) u45 hu6 m6
  have hbf : Byt (clF C K) := mem3_byt 40000 _ 512 _ (8 * (K : Int)) _ hby.1 hby.2.1 hby.2.2
  have hRu : Hid _ := bun_many 6 (by decide) (clY (rgF G) (50000) G.ime C K) clYk HIn.out clYk7 hS6 hKs HIv.out hbf
  have HIq : Hid _ := (runs_inv (clY (rgF G) (50000) G.ime C K) clYk 6 HIn.out HIv.out hbf).1
  obtain ⟨p, hp⟩ : ∃ p, p = w2.heap.size := ⟨_, rfl⟩
  obtain ⟨gm, hgm⟩ : ∃ gm, gm = W5.heap.size := ⟨_, rfl⟩
  rw [← hp, ← hgm] at hRu
  have x0 : w6.cell? ⟨p, 0, none⟩ = some (.int .i64 G.a) := by rw [hp]; exact (regBlock _ hS6.reg).1
  rw [← hp, ← hgm]
  clear hp hgm hS6 hKs m6 hu6 u45 hPc hr4 h4 u4 hl3 hz3 HG3 u3 hbs' HSt HB hbf hby
  go_wp2_with fail
  refine Calls.mono hRu.out ?_
  rintro e w7 ⟨rfl, hS7⟩
  have HS7 : Hid _ := hS7
  clear hS7 hRu x0
  have HRe : Hid _ := bun_regs HS7.out HIq.out
  obtain ⟨T, hT⟩ : ∃ T, T = toRg (clY (rgF G) (50000) G.ime C K 6).1 := ⟨_, rfl⟩
  rw [← hT] at HRe
  obtain ⟨Bq, hBq⟩ : ∃ B, B = (G.b + 1) % 256 := ⟨_, rfl⟩
  obtain ⟨Aq, hAq⟩ : ∃ A, A = (G.a + 1) % 256 := ⟨_, rfl⟩
  have HT : Hid (T.sp = 50000 ∧ T.pc = 40004 ∧ T.a = Aq ∧ T.b = Bq) := by
    rw [hT, hAq, hBq]
    exact ⟨rfl, rfl, rfl, rfl⟩
  clear hT
  have wB : IntKind.i64.wrap (G.b + 1) = G.b + 1 := wj _ (by omega) (by omega)
  have tB : (G.b + 1).tmod 256 = Bq := by rw [hBq]; exact Int.tmod_eq_emod_of_nonneg (by omega)
  have bq0 : 0 ≤ Bq := by omega
  have bq1 : Bq ≤ 255 := by omega
  have wBq : IntKind.i64.wrap Bq = Bq := wj _ (by omega) (by omega)
  have eB : (G.b + 1) % 256 = Bq := hBq.symm
  have eA : (G.a + 1) % 256 = Aq := hAq.symm
  try rw [eA]
  clear hBq hAq
  go_wp2_with (first
    | (go_at_call 19; refine Calls.mono (HRe.out) ?_; rintro e w9 ⟨rfl, hS9, hu9⟩
       have HS9 : Hid _ := hS9
       have HN9 : Hid (∀ o, (w9.alloc o).heap[w9.heap.size]? = some o) := heap_alloc_new w9
       have HX9 : Hid _ := rgNew w9 T
       clear hS9 hu9)
    | (refine wpList_store_rowTo rfl 23 _ _ rfl rfl w9.heap.size T.cells rfl rfl 23 #[.int .i64 0, .int .i64 0, .int .i64 0, .int .i64 0, .int .i64 0, .int .i64 0, .int .i64 0, .int .i64 0, .int .i64 0, .int .i64 0, .bool false, .int .i64 0] (HN9.out _) (by kernel_rfl) rfl (rgOne T) ?_
       generalize hW10 : World.setRow _ _ _ = W10
       obtain ⟨hg10, hu10⟩ := HX9.out W10 _ hW10
       have HS10 : Hid _ := HS9.out.ups hu10
       obtain ⟨t0, t1, t2, t3, t4, t5, t6, t7, t8, t9, t10, t11⟩ := regBlock T hg10
       obtain ⟨e8, e9, e0, e2⟩ := HT.out
       rw [e0] at t0
       rw [e2] at t2
       rw [e8] at t8
       rw [e9] at t9
       obtain ⟨x0, x1, x2, x3, x4, x5, x6, x7, x8, x9, x10, x11⟩ := regBlock _ HS10.out.reg
       clear hW10 hu10 hg10 HX9 HN9 HS9 e0 e2 e8 e9 t1 t3 t4 t5 t6 t7 t10 t11 x0 x1 x3 x4 x5 x6 x7 x9 x10 x11 HT))
  go_ret
  exact ⟨rfl, HS10.out.up.trans (by first | exact Up.drewN W10 _ | exact (Up.refl W10).drew | exact Up.refl W10)⟩
set_option maxRecDepth 100000 in
set_option maxHeartbeats 1000000 in
theorem calls_yu (g : Rg) (G : Rg) (cond rs : Int) (C K : Nat) (hc : C < 4) (hK : K < 8) (HO : Hid G.Ok) (HS0 : Hid (G.state = 0)) (hsp : 1024 ≤ G.sp) (hsq : G.sp ≤ 39990) (hh : holdsC C G.f = true)
    (HB : Hid (∀ W, Calls Tryz.prog 14 #[.agg #[.int .i64 g.a, .int .i64 g.f, .int .i64 g.b, .int .i64 g.c, .int .i64 g.d, .int .i64 g.e, .int .i64 g.h, .int .i64 g.l, .int .i64 g.sp, .int .i64 g.pc, .bool g.ime, .int .i64 g.state]] W fun e w' => e = .returned (.agg G.cells) ∧ Up W w'))
    (HI1 : Hid (I64 cond)) (HI2 : Hid (I64 rs)) (HCe : Hid (pickI cond 5 = (C : Int))) (HKe : Hid (pickI rs 8 = (K : Int)))
    (w : World) (HLB : Hid (LaidB w)) :
    Calls Tryz.prog 8 #[.agg g.cells, .int .i64 cond, .int .i64 rs] w fun e w' => e = .returned (.bool true) ∧ Up w w' := by

  have s1 := HO.out.sp.1
  have s2 := HO.out.sp.2
  have a1 := HO.out.a.1
  have a2 := HO.out.a.2
  have b1 := HO.out.b.1
  have b2 := HO.out.b.2
  have hOk : ClOk (G.sp) := ⟨by omega, by omega, by omega⟩
  have hKi : (K : Int) < 8 := by omega
  have sf0 : decide (G.sp < 1024) = false := by simp; omega
  have sf1 : decide (39990 < G.sp) = false := by simp; omega
  have hCi : (C : Int) < 4 := by omega
  have cf0 : decide ((C : Int) < 4) = true := by simp; omega
  have cf1 : ((C : Int) == 4) = false := by simp; omega
  have HHo : Hid (∀ W, Calls Tryz.prog 22 #[.int .i64 G.f, .int .i64 C] W fun e w' => e = .returned (.bool true) ∧ w' = W) := fun W => by rw [← hh]; exact lholds_any C hc G.f HO.out.f.1 HO.out.f.2 W
  have o2 : ({ G with sp := G.sp, pc := 40000 } : Rg).Ok := { HO.out with pc := (show (0 : Int) ≤ 40000 ∧ (40000 : Int) ≤ 65535 by decide), sp := (show 0 ≤ G.sp ∧ G.sp ≤ 65535 by omega) }
  have HSt : Hid (∀ W, Calls Tryz.prog 16 #[.agg #[.int .i64 G.a, .int .i64 G.f, .int .i64 G.b, .int .i64 G.c, .int .i64 G.d, .int .i64 G.e, .int .i64 G.h, .int .i64 G.l, .int .i64 (G.sp), .int .i64 (40000), .bool G.ime, .int .i64 G.state]] W fun e w' => ∃ b, e = .returned (.pointer (some ⟨b, 0, none⟩)) ∧ W.heap.size ≤ b ∧ Cp w' b (bd (rgF G) (G.sp) 40000 G.ime) ∧ Up W w') := fun W => started_ok ({ G with sp := G.sp, pc := 40000 } : Rg) o2 HS0.out W
  have HIv : Hid (bd (rgF G) (G.sp) 40000 G.ime).Inv := bd_inv ({ G with sp := G.sp, pc := 40000 } : Rg) o2 HS0.out
  have HIn : Hid _ := fun i hi => clY_ins hOk C K (by omega) hK (Or.inr hh) i hi (r := rgF G) (ime := G.ime)
  have hop : caOp C = 196 + 8 * (C : Int) := by unfold caOp; rw [if_pos hc]
  clear o2 hh
  rw [show g.cells = #[.int .i64 g.a, .int .i64 g.f, .int .i64 g.b, .int .i64 g.c, .int .i64 g.d, .int .i64 g.e, .int .i64 g.h, .int .i64 g.l, .int .i64 g.sp, .int .i64 g.pc, .bool g.ime, .int .i64 g.state] from rfl]
  go_enter Tryz.func8, Tryz.ntmps8
  go_wp2_with (first
    | (go_at_call 14; refine (HB.out _).mono ?_; rintro e w2 ⟨rfl, hu2⟩
       have u2 : Up w w2 := ((Up.refl w).alloc _).trans hu2
       have HN2 : Hid (∀ o, (w2.alloc o).heap[w2.heap.size]? = some o) := heap_alloc_new w2
       have HX2 : Hid _ := rgNew w2 G
       clear hu2)
    | (refine wpList_store_rowTo rfl 23 _ _ rfl rfl w2.heap.size G.cells rfl rfl 23 #[.int .i64 0, .int .i64 0, .int .i64 0, .int .i64 0, .int .i64 0, .int .i64 0, .int .i64 0, .int .i64 0, .int .i64 0, .int .i64 0, .bool false, .int .i64 0] (HN2.out _) (by kernel_rfl) rfl (rgOne G) ?_
       generalize hW3 : World.setRow _ _ _ = W3
       obtain ⟨hg3, hu3⟩ := HX2.out W3 _ hW3
       have u3 := u2.trans hu3
       have hl3 : w2.heap.size < W3.heap.size := (Array.getElem?_eq_some_iff.1 hg3).1
       obtain ⟨r0, r1, r2, r3, r4, r5, r6, r7, r8, r9, r10, r11⟩ := regBlock G hg3
       have HG3 : Hid (RgAt W3 w2.heap.size G) := hg3
       have hz3 := u2.size
       have fz8 : W3.frozen? ⟨w2.heap.size, 8, none⟩ = false := by simp [World.frozen?, hg3]
       have fz9 : W3.frozen? ⟨w2.heap.size, 9, none⟩ = false := by simp [World.frozen?, hg3]
       clear hW3 hu3 hg3 u2 HX2 HN2
       go_wp2_with fail)
    | (go_at_call 15; refine (pick_any _ _ _ (by first | exact HI1.out | exact HI2.out) (by decide) (by decide)).mono ?_; (first | rw [HCe.out] | rw [HKe.out]); rintro e w' ⟨rfl, rfl⟩)
    | (go_at_call 22; refine (HHo.out _).mono ?_; rintro e w' ⟨rfl, rfl⟩)
    | (go_at_call 16; refine (HSt.out _).mono ?_; rintro e w4 ⟨b, rfl, hbs, h4, hu4⟩
       have hbs' : W3.heap.size ≤ b := by simp at hbs; omega
       have u4 : Up w w4 := (u3.setCell (p := ⟨w2.heap.size, 9, none⟩) hz3 _).trans hu4
       have hr4 : RgAt w4 w2.heap.size ({ G with sp := G.sp, pc := 40000 } : Rg) := (HG3.out.set (H := { G with pc := 40000 }) 9 _ rfl).up hu4
       clear hbs hu4 r0 r1 r2 r3 r4 r5 r6 r7 r8 r9 r10 r11 fz9 fz8))
  generalize hW5 : World.alloc (World.alloc (World.alloc (World.alloc w4 _) _) _) _ = W5
  have hby := cl_byt C K (by omega) hK
  have hPc : Pcs W5 (w4.heap.size + 1 + 1 + 1) [⟨40000, [caOp C, 0, 2, 199 + 8 * (K : Int)]⟩, ⟨512, [60, 201]⟩, ⟨8 * (K : Int), [4, 201]⟩] := by
    have hb1 := hby.1
    rw [hop] at hb1
    rw [← hW5, hop]
    exact pcs3 w4 40000 512 (8 * (K : Int)) _ _ _ (by unfold I64; decide) (by unfold I64; decide) (by unfold I64; omega) hb1 hby.2.1 hby.2.2 (by simp) (by simp) (by simp)
  have u45 : Up w4 W5 := by rw [← hW5]; exact ((((Up.refl w4).alloc _).alloc _).alloc _).alloc _
  clear hW5
  refine (mem_three (w4.heap.size + 1 + 1 + 1) 40000 _ 512 _ (8 * (K : Int)) _ W5 hPc).mono ?_
  rintro e w6 ⟨rfl, m6, hu6⟩
  obtain ⟨hS6, hKs⟩ := bun_mk u4 HLB.out h4 (by have := u3.size; omega) hr4.lt hr4 (by omega) u45 hu6 m6
  have hbf : Byt (clF C K) := mem3_byt 40000 _ 512 _ (8 * (K : Int)) _ hby.1 hby.2.1 hby.2.2
  have hRu : Hid _ := bun_many 6 (by decide) (clY (rgF G) (G.sp) G.ime C K) clYk HIn.out clYk7 hS6 hKs HIv.out hbf
  have HIq : Hid _ := (runs_inv (clY (rgF G) (G.sp) G.ime C K) clYk 6 HIn.out HIv.out hbf).1
  obtain ⟨p, hp⟩ : ∃ p, p = w2.heap.size := ⟨_, rfl⟩
  obtain ⟨gm, hgm⟩ : ∃ gm, gm = W5.heap.size := ⟨_, rfl⟩
  rw [← hp, ← hgm] at hRu
  have x0 : w6.cell? ⟨p, 0, none⟩ = some (.int .i64 G.a) := by rw [hp]; exact (regBlock _ hS6.reg).1
  rw [← hp, ← hgm]
  clear hp hgm hS6 hKs m6 hu6 u45 hPc hr4 h4 u4 hl3 hz3 HG3 u3 hbs' HSt HB hbf hby
  go_wp2_with fail
  refine Calls.mono hRu.out ?_
  rintro e w7 ⟨rfl, hS7⟩
  have HS7 : Hid _ := hS7
  clear hS7 hRu x0
  have HRe : Hid _ := bun_regs HS7.out HIq.out
  obtain ⟨T, hT⟩ : ∃ T, T = toRg (clY (rgF G) (G.sp) G.ime C K 6).1 := ⟨_, rfl⟩
  rw [← hT] at HRe
  obtain ⟨Bq, hBq⟩ : ∃ B, B = (G.b + 1) % 256 := ⟨_, rfl⟩
  obtain ⟨Aq, hAq⟩ : ∃ A, A = (G.a + 1) % 256 := ⟨_, rfl⟩
  have HT : Hid (T.sp = G.sp ∧ T.pc = 40004 ∧ T.a = Aq ∧ T.b = Bq) := by
    rw [hT, hAq, hBq]
    exact ⟨rfl, rfl, rfl, rfl⟩
  clear hT
  have wB : IntKind.i64.wrap (G.b + 1) = G.b + 1 := wj _ (by omega) (by omega)
  have tB : (G.b + 1).tmod 256 = Bq := by rw [hBq]; exact Int.tmod_eq_emod_of_nonneg (by omega)
  have bq0 : 0 ≤ Bq := by omega
  have bq1 : Bq ≤ 255 := by omega
  have wBq : IntKind.i64.wrap Bq = Bq := wj _ (by omega) (by omega)
  have eB : (G.b + 1) % 256 = Bq := hBq.symm
  have eA : (G.a + 1) % 256 = Aq := hAq.symm
  try rw [eA]
  clear hBq hAq
  go_wp2_with (first
    | (go_at_call 19; refine Calls.mono (HRe.out) ?_; rintro e w9 ⟨rfl, hS9, hu9⟩
       have HS9 : Hid _ := hS9
       have HN9 : Hid (∀ o, (w9.alloc o).heap[w9.heap.size]? = some o) := heap_alloc_new w9
       have HX9 : Hid _ := rgNew w9 T
       clear hS9 hu9)
    | (refine wpList_store_rowTo rfl 23 _ _ rfl rfl w9.heap.size T.cells rfl rfl 23 #[.int .i64 0, .int .i64 0, .int .i64 0, .int .i64 0, .int .i64 0, .int .i64 0, .int .i64 0, .int .i64 0, .int .i64 0, .int .i64 0, .bool false, .int .i64 0] (HN9.out _) (by kernel_rfl) rfl (rgOne T) ?_
       generalize hW10 : World.setRow _ _ _ = W10
       obtain ⟨hg10, hu10⟩ := HX9.out W10 _ hW10
       have HS10 : Hid _ := HS9.out.ups hu10
       obtain ⟨t0, t1, t2, t3, t4, t5, t6, t7, t8, t9, t10, t11⟩ := regBlock T hg10
       obtain ⟨e8, e9, e0, e2⟩ := HT.out
       rw [e0] at t0
       rw [e2] at t2
       rw [e8] at t8
       rw [e9] at t9
       obtain ⟨x0, x1, x2, x3, x4, x5, x6, x7, x8, x9, x10, x11⟩ := regBlock _ HS10.out.reg
       clear hW10 hu10 hg10 HX9 HN9 HS9 e0 e2 e8 e9 t1 t3 t4 t5 t6 t7 t10 t11 x0 x1 x3 x4 x5 x6 x7 x9 x10 x11 HT))
  go_ret
  exact ⟨rfl, HS10.out.up.trans (by first | exact Up.drewN W10 _ | exact (Up.refl W10).drew | exact Up.refl W10)⟩
set_option maxRecDepth 100000 in
set_option maxHeartbeats 1000000 in
theorem calls_yv (g : Rg) (G : Rg) (cond rs : Int) (C K : Nat) (hc : C < 4) (hK : K < 8) (HO : Hid G.Ok) (HS0 : Hid (G.state = 0)) (hsp : 40040 ≤ G.sp) (hh : holdsC C G.f = true)
    (HB : Hid (∀ W, Calls Tryz.prog 14 #[.agg #[.int .i64 g.a, .int .i64 g.f, .int .i64 g.b, .int .i64 g.c, .int .i64 g.d, .int .i64 g.e, .int .i64 g.h, .int .i64 g.l, .int .i64 g.sp, .int .i64 g.pc, .bool g.ime, .int .i64 g.state]] W fun e w' => e = .returned (.agg G.cells) ∧ Up W w'))
    (HI1 : Hid (I64 cond)) (HI2 : Hid (I64 rs)) (HCe : Hid (pickI cond 5 = (C : Int))) (HKe : Hid (pickI rs 8 = (K : Int)))
    (w : World) (HLB : Hid (LaidB w)) :
    Calls Tryz.prog 8 #[.agg g.cells, .int .i64 cond, .int .i64 rs] w fun e w' => e = .returned (.bool true) ∧ Up w w' := by

  have s1 := HO.out.sp.1
  have s2 := HO.out.sp.2
  have a1 := HO.out.a.1
  have a2 := HO.out.a.2
  have b1 := HO.out.b.1
  have b2 := HO.out.b.2
  have hOk : ClOk (G.sp) := ⟨by omega, by omega, by omega⟩
  have hKi : (K : Int) < 8 := by omega
  have sf0 : decide (G.sp < 1024) = false := by simp; omega
  have sf1 : decide (39990 < G.sp) = true := by simp; omega
  have sf2 : decide (G.sp < 40040) = false := by simp; omega
  have hCi : (C : Int) < 4 := by omega
  have cf0 : decide ((C : Int) < 4) = true := by simp; omega
  have cf1 : ((C : Int) == 4) = false := by simp; omega
  have HHo : Hid (∀ W, Calls Tryz.prog 22 #[.int .i64 G.f, .int .i64 C] W fun e w' => e = .returned (.bool true) ∧ w' = W) := fun W => by rw [← hh]; exact lholds_any C hc G.f HO.out.f.1 HO.out.f.2 W
  have o2 : ({ G with sp := G.sp, pc := 40000 } : Rg).Ok := { HO.out with pc := (show (0 : Int) ≤ 40000 ∧ (40000 : Int) ≤ 65535 by decide), sp := (show 0 ≤ G.sp ∧ G.sp ≤ 65535 by omega) }
  have HSt : Hid (∀ W, Calls Tryz.prog 16 #[.agg #[.int .i64 G.a, .int .i64 G.f, .int .i64 G.b, .int .i64 G.c, .int .i64 G.d, .int .i64 G.e, .int .i64 G.h, .int .i64 G.l, .int .i64 (G.sp), .int .i64 (40000), .bool G.ime, .int .i64 G.state]] W fun e w' => ∃ b, e = .returned (.pointer (some ⟨b, 0, none⟩)) ∧ W.heap.size ≤ b ∧ Cp w' b (bd (rgF G) (G.sp) 40000 G.ime) ∧ Up W w') := fun W => started_ok ({ G with sp := G.sp, pc := 40000 } : Rg) o2 HS0.out W
  have HIv : Hid (bd (rgF G) (G.sp) 40000 G.ime).Inv := bd_inv ({ G with sp := G.sp, pc := 40000 } : Rg) o2 HS0.out
  have HIn : Hid _ := fun i hi => clY_ins hOk C K (by omega) hK (Or.inr hh) i hi (r := rgF G) (ime := G.ime)
  have hop : caOp C = 196 + 8 * (C : Int) := by unfold caOp; rw [if_pos hc]
  clear o2 hh
  rw [show g.cells = #[.int .i64 g.a, .int .i64 g.f, .int .i64 g.b, .int .i64 g.c, .int .i64 g.d, .int .i64 g.e, .int .i64 g.h, .int .i64 g.l, .int .i64 g.sp, .int .i64 g.pc, .bool g.ime, .int .i64 g.state] from rfl]
  go_enter Tryz.func8, Tryz.ntmps8
  go_wp2_with (first
    | (go_at_call 14; refine (HB.out _).mono ?_; rintro e w2 ⟨rfl, hu2⟩
       have u2 : Up w w2 := ((Up.refl w).alloc _).trans hu2
       have HN2 : Hid (∀ o, (w2.alloc o).heap[w2.heap.size]? = some o) := heap_alloc_new w2
       have HX2 : Hid _ := rgNew w2 G
       clear hu2)
    | (refine wpList_store_rowTo rfl 23 _ _ rfl rfl w2.heap.size G.cells rfl rfl 23 #[.int .i64 0, .int .i64 0, .int .i64 0, .int .i64 0, .int .i64 0, .int .i64 0, .int .i64 0, .int .i64 0, .int .i64 0, .int .i64 0, .bool false, .int .i64 0] (HN2.out _) (by kernel_rfl) rfl (rgOne G) ?_
       generalize hW3 : World.setRow _ _ _ = W3
       obtain ⟨hg3, hu3⟩ := HX2.out W3 _ hW3
       have u3 := u2.trans hu3
       have hl3 : w2.heap.size < W3.heap.size := (Array.getElem?_eq_some_iff.1 hg3).1
       obtain ⟨r0, r1, r2, r3, r4, r5, r6, r7, r8, r9, r10, r11⟩ := regBlock G hg3
       have HG3 : Hid (RgAt W3 w2.heap.size G) := hg3
       have hz3 := u2.size
       have fz8 : W3.frozen? ⟨w2.heap.size, 8, none⟩ = false := by simp [World.frozen?, hg3]
       have fz9 : W3.frozen? ⟨w2.heap.size, 9, none⟩ = false := by simp [World.frozen?, hg3]
       clear hW3 hu3 hg3 u2 HX2 HN2
       go_wp2_with fail)
    | (go_at_call 15; refine (pick_any _ _ _ (by first | exact HI1.out | exact HI2.out) (by decide) (by decide)).mono ?_; (first | rw [HCe.out] | rw [HKe.out]); rintro e w' ⟨rfl, rfl⟩)
    | (go_at_call 22; refine (HHo.out _).mono ?_; rintro e w' ⟨rfl, rfl⟩)
    | (go_at_call 16; refine (HSt.out _).mono ?_; rintro e w4 ⟨b, rfl, hbs, h4, hu4⟩
       have hbs' : W3.heap.size ≤ b := by simp at hbs; omega
       have u4 : Up w w4 := (u3.setCell (p := ⟨w2.heap.size, 9, none⟩) hz3 _).trans hu4
       have hr4 : RgAt w4 w2.heap.size ({ G with sp := G.sp, pc := 40000 } : Rg) := (HG3.out.set (H := { G with pc := 40000 }) 9 _ rfl).up hu4
       clear hbs hu4 r0 r1 r2 r3 r4 r5 r6 r7 r8 r9 r10 r11 fz9 fz8))
  generalize hW5 : World.alloc (World.alloc (World.alloc (World.alloc w4 _) _) _) _ = W5
  have hby := cl_byt C K (by omega) hK
  have hPc : Pcs W5 (w4.heap.size + 1 + 1 + 1) [⟨40000, [caOp C, 0, 2, 199 + 8 * (K : Int)]⟩, ⟨512, [60, 201]⟩, ⟨8 * (K : Int), [4, 201]⟩] := by
    have hb1 := hby.1
    rw [hop] at hb1
    rw [← hW5, hop]
    exact pcs3 w4 40000 512 (8 * (K : Int)) _ _ _ (by unfold I64; decide) (by unfold I64; decide) (by unfold I64; omega) hb1 hby.2.1 hby.2.2 (by simp) (by simp) (by simp)
  have u45 : Up w4 W5 := by rw [← hW5]; exact ((((Up.refl w4).alloc _).alloc _).alloc _).alloc _
  clear hW5
  refine (mem_three (w4.heap.size + 1 + 1 + 1) 40000 _ 512 _ (8 * (K : Int)) _ W5 hPc).mono ?_
  rintro e w6 ⟨rfl, m6, hu6⟩
  obtain ⟨hS6, hKs⟩ := bun_mk u4 HLB.out h4 (by have := u3.size; omega) hr4.lt hr4 (by omega) u45 hu6 m6
  have hbf : Byt (clF C K) := mem3_byt 40000 _ 512 _ (8 * (K : Int)) _ hby.1 hby.2.1 hby.2.2
  have hRu : Hid _ := bun_many 6 (by decide) (clY (rgF G) (G.sp) G.ime C K) clYk HIn.out clYk7 hS6 hKs HIv.out hbf
  have HIq : Hid _ := (runs_inv (clY (rgF G) (G.sp) G.ime C K) clYk 6 HIn.out HIv.out hbf).1
  obtain ⟨p, hp⟩ : ∃ p, p = w2.heap.size := ⟨_, rfl⟩
  obtain ⟨gm, hgm⟩ : ∃ gm, gm = W5.heap.size := ⟨_, rfl⟩
  rw [← hp, ← hgm] at hRu
  have x0 : w6.cell? ⟨p, 0, none⟩ = some (.int .i64 G.a) := by rw [hp]; exact (regBlock _ hS6.reg).1
  rw [← hp, ← hgm]
  clear hp hgm hS6 hKs m6 hu6 u45 hPc hr4 h4 u4 hl3 hz3 HG3 u3 hbs' HSt HB hbf hby
  go_wp2_with fail
  refine Calls.mono hRu.out ?_
  rintro e w7 ⟨rfl, hS7⟩
  have HS7 : Hid _ := hS7
  clear hS7 hRu x0
  have HRe : Hid _ := bun_regs HS7.out HIq.out
  obtain ⟨T, hT⟩ : ∃ T, T = toRg (clY (rgF G) (G.sp) G.ime C K 6).1 := ⟨_, rfl⟩
  rw [← hT] at HRe
  obtain ⟨Bq, hBq⟩ : ∃ B, B = (G.b + 1) % 256 := ⟨_, rfl⟩
  obtain ⟨Aq, hAq⟩ : ∃ A, A = (G.a + 1) % 256 := ⟨_, rfl⟩
  have HT : Hid (T.sp = G.sp ∧ T.pc = 40004 ∧ T.a = Aq ∧ T.b = Bq) := by
    rw [hT, hAq, hBq]
    exact ⟨rfl, rfl, rfl, rfl⟩
  clear hT
  have wB : IntKind.i64.wrap (G.b + 1) = G.b + 1 := wj _ (by omega) (by omega)
  have tB : (G.b + 1).tmod 256 = Bq := by rw [hBq]; exact Int.tmod_eq_emod_of_nonneg (by omega)
  have bq0 : 0 ≤ Bq := by omega
  have bq1 : Bq ≤ 255 := by omega
  have wBq : IntKind.i64.wrap Bq = Bq := wj _ (by omega) (by omega)
  have eB : (G.b + 1) % 256 = Bq := hBq.symm
  have eA : (G.a + 1) % 256 = Aq := hAq.symm
  try rw [eA]
  clear hBq hAq
  go_wp2_with (first
    | (go_at_call 19; refine Calls.mono (HRe.out) ?_; rintro e w9 ⟨rfl, hS9, hu9⟩
       have HS9 : Hid _ := hS9
       have HN9 : Hid (∀ o, (w9.alloc o).heap[w9.heap.size]? = some o) := heap_alloc_new w9
       have HX9 : Hid _ := rgNew w9 T
       clear hS9 hu9)
    | (refine wpList_store_rowTo rfl 23 _ _ rfl rfl w9.heap.size T.cells rfl rfl 23 #[.int .i64 0, .int .i64 0, .int .i64 0, .int .i64 0, .int .i64 0, .int .i64 0, .int .i64 0, .int .i64 0, .int .i64 0, .int .i64 0, .bool false, .int .i64 0] (HN9.out _) (by kernel_rfl) rfl (rgOne T) ?_
       generalize hW10 : World.setRow _ _ _ = W10
       obtain ⟨hg10, hu10⟩ := HX9.out W10 _ hW10
       have HS10 : Hid _ := HS9.out.ups hu10
       obtain ⟨t0, t1, t2, t3, t4, t5, t6, t7, t8, t9, t10, t11⟩ := regBlock T hg10
       obtain ⟨e8, e9, e0, e2⟩ := HT.out
       rw [e0] at t0
       rw [e2] at t2
       rw [e8] at t8
       rw [e9] at t9
       obtain ⟨x0, x1, x2, x3, x4, x5, x6, x7, x8, x9, x10, x11⟩ := regBlock _ HS10.out.reg
       clear hW10 hu10 hg10 HX9 HN9 HS9 e0 e2 e8 e9 t1 t3 t4 t5 t6 t7 t10 t11 x0 x1 x3 x4 x5 x6 x7 x9 x10 x11 HT))
  go_ret
  exact ⟨rfl, HS10.out.up.trans (by first | exact Up.drewN W10 _ | exact (Up.refl W10).drew | exact Up.refl W10)⟩
set_option maxRecDepth 100000 in
set_option maxHeartbeats 1000000 in
theorem calls_nl (g : Rg) (G : Rg) (cond rs : Int) (C K : Nat) (hc : C < 4) (hK : K < 8) (HO : Hid G.Ok) (HS0 : Hid (G.state = 0)) (hsp : G.sp < 1024) (hh : holdsC C G.f = false)
    (HB : Hid (∀ W, Calls Tryz.prog 14 #[.agg #[.int .i64 g.a, .int .i64 g.f, .int .i64 g.b, .int .i64 g.c, .int .i64 g.d, .int .i64 g.e, .int .i64 g.h, .int .i64 g.l, .int .i64 g.sp, .int .i64 g.pc, .bool g.ime, .int .i64 g.state]] W fun e w' => e = .returned (.agg G.cells) ∧ Up W w'))
    (HI1 : Hid (I64 cond)) (HI2 : Hid (I64 rs)) (HCe : Hid (pickI cond 5 = (C : Int))) (HKe : Hid (pickI rs 8 = (K : Int)))
    (w : World) (HLB : Hid (LaidB w)) :
    Calls Tryz.prog 8 #[.agg g.cells, .int .i64 cond, .int .i64 rs] w fun e w' => e = .returned (.bool true) ∧ Up w w' := by

  have s1 := HO.out.sp.1
  have s2 := HO.out.sp.2
  have a1 := HO.out.a.1
  have a2 := HO.out.a.2
  have b1 := HO.out.b.1
  have b2 := HO.out.b.2
  have hOk : ClOk (50000) := ⟨by omega, by omega, by omega⟩
  have hKi : (K : Int) < 8 := by omega
  have hCi : (C : Int) < 4 := by omega
  have cf0 : decide ((C : Int) < 4) = true := by simp; omega
  have cf1 : ((C : Int) == 4) = false := by simp; omega
  have HHo : Hid (∀ W, Calls Tryz.prog 22 #[.int .i64 G.f, .int .i64 C] W fun e w' => e = .returned (.bool false) ∧ w' = W) := fun W => by rw [← hh]; exact lholds_any C hc G.f HO.out.f.1 HO.out.f.2 W
  have o2 : ({ G with sp := 50000, pc := 40000 } : Rg).Ok := { HO.out with pc := (show (0 : Int) ≤ 40000 ∧ (40000 : Int) ≤ 65535 by decide), sp := (show 0 ≤ 50000 ∧ 50000 ≤ 65535 by omega) }
  have HSt : Hid (∀ W, Calls Tryz.prog 16 #[.agg #[.int .i64 G.a, .int .i64 G.f, .int .i64 G.b, .int .i64 G.c, .int .i64 G.d, .int .i64 G.e, .int .i64 G.h, .int .i64 G.l, .int .i64 (50000), .int .i64 (40000), .bool G.ime, .int .i64 G.state]] W fun e w' => ∃ b, e = .returned (.pointer (some ⟨b, 0, none⟩)) ∧ W.heap.size ≤ b ∧ Cp w' b (bd (rgF G) (50000) 40000 G.ime) ∧ Up W w') := fun W => started_ok ({ G with sp := 50000, pc := 40000 } : Rg) o2 HS0.out W
  have HIv : Hid (bd (rgF G) (50000) 40000 G.ime).Inv := bd_inv ({ G with sp := 50000, pc := 40000 } : Rg) o2 HS0.out
  have HIn : Hid _ := fun i hi => clN_ins hOk C K hc hK hh i hi (r := rgF G) (ime := G.ime)
  have hop : caOp C = 196 + 8 * (C : Int) := by unfold caOp; rw [if_pos hc]
  clear o2 hh
  rw [show g.cells = #[.int .i64 g.a, .int .i64 g.f, .int .i64 g.b, .int .i64 g.c, .int .i64 g.d, .int .i64 g.e, .int .i64 g.h, .int .i64 g.l, .int .i64 g.sp, .int .i64 g.pc, .bool g.ime, .int .i64 g.state] from rfl]
  go_enter Tryz.func8, Tryz.ntmps8
  go_wp2_with (first
    | (go_at_call 14; refine (HB.out _).mono ?_; rintro e w2 ⟨rfl, hu2⟩
       have u2 : Up w w2 := ((Up.refl w).alloc _).trans hu2
       have HN2 : Hid (∀ o, (w2.alloc o).heap[w2.heap.size]? = some o) := heap_alloc_new w2
       have HX2 : Hid _ := rgNew w2 G
       clear hu2)
    | (refine wpList_store_rowTo rfl 23 _ _ rfl rfl w2.heap.size G.cells rfl rfl 23 #[.int .i64 0, .int .i64 0, .int .i64 0, .int .i64 0, .int .i64 0, .int .i64 0, .int .i64 0, .int .i64 0, .int .i64 0, .int .i64 0, .bool false, .int .i64 0] (HN2.out _) (by kernel_rfl) rfl (rgOne G) ?_
       generalize hW3 : World.setRow _ _ _ = W3
       obtain ⟨hg3, hu3⟩ := HX2.out W3 _ hW3
       have u3 := u2.trans hu3
       have hl3 : w2.heap.size < W3.heap.size := (Array.getElem?_eq_some_iff.1 hg3).1
       obtain ⟨r0, r1, r2, r3, r4, r5, r6, r7, r8, r9, r10, r11⟩ := regBlock G hg3
       have HG3 : Hid (RgAt W3 w2.heap.size G) := hg3
       have hz3 := u2.size
       have fz8 : W3.frozen? ⟨w2.heap.size, 8, none⟩ = false := by simp [World.frozen?, hg3]
       have fz9 : W3.frozen? ⟨w2.heap.size, 9, none⟩ = false := by simp [World.frozen?, hg3]
       clear hW3 hu3 hg3 u2 HX2 HN2
       go_wp2_with fail)
    | (go_at_call 15; refine (pick_any _ _ _ (by first | exact HI1.out | exact HI2.out) (by decide) (by decide)).mono ?_; (first | rw [HCe.out] | rw [HKe.out]); rintro e w' ⟨rfl, rfl⟩)
    | (go_at_call 22; refine (HHo.out _).mono ?_; rintro e w' ⟨rfl, rfl⟩)
    | (go_at_call 16; refine (HSt.out _).mono ?_; rintro e w4 ⟨b, rfl, hbs, h4, hu4⟩
       have hbs' : W3.heap.size ≤ b := by simp at hbs; omega
       have u4 : Up w w4 := ((u3.setCell (p := ⟨w2.heap.size, 9, none⟩) hz3 _).setCell (p := ⟨w2.heap.size, 8, none⟩) hz3 _).trans hu4
       have hr4 : RgAt w4 w2.heap.size ({ G with sp := 50000, pc := 40000 } : Rg) := ((HG3.out.set (H := { G with pc := 40000 }) 9 _ rfl).set (H := { G with sp := 50000, pc := 40000 }) 8 _ rfl).up hu4
       clear hbs hu4 r0 r1 r2 r3 r4 r5 r6 r7 r8 r9 r10 r11 fz9 fz8))
  generalize hW5 : World.alloc (World.alloc (World.alloc (World.alloc w4 _) _) _) _ = W5
  have hby := cl_byt C K (by omega) hK
  have hPc : Pcs W5 (w4.heap.size + 1 + 1 + 1) [⟨40000, [caOp C, 0, 2, 199 + 8 * (K : Int)]⟩, ⟨512, [60, 201]⟩, ⟨8 * (K : Int), [4, 201]⟩] := by
    have hb1 := hby.1
    rw [hop] at hb1
    rw [← hW5, hop]
    exact pcs3 w4 40000 512 (8 * (K : Int)) _ _ _ (by unfold I64; decide) (by unfold I64; decide) (by unfold I64; omega) hb1 hby.2.1 hby.2.2 (by simp) (by simp) (by simp)
  have u45 : Up w4 W5 := by rw [← hW5]; exact ((((Up.refl w4).alloc _).alloc _).alloc _).alloc _
  clear hW5
  refine (mem_three (w4.heap.size + 1 + 1 + 1) 40000 _ 512 _ (8 * (K : Int)) _ W5 hPc).mono ?_
  rintro e w6 ⟨rfl, m6, hu6⟩
  obtain ⟨hS6, hKs⟩ := bun_mk u4 HLB.out h4 (by have := u3.size; omega) hr4.lt hr4 (by omega) u45 hu6 m6
  have hbf : Byt (clF C K) := mem3_byt 40000 _ 512 _ (8 * (K : Int)) _ hby.1 hby.2.1 hby.2.2
  have hRu : Hid _ := bun_many 4 (by decide) (clN (rgF G) (50000) G.ime C K) clNk HIn.out clNk7 hS6 hKs HIv.out hbf
  have HIq : Hid _ := (runs_inv (clN (rgF G) (50000) G.ime C K) clNk 4 HIn.out HIv.out hbf).1
  obtain ⟨p, hp⟩ : ∃ p, p = w2.heap.size := ⟨_, rfl⟩
  obtain ⟨gm, hgm⟩ : ∃ gm, gm = W5.heap.size := ⟨_, rfl⟩
  rw [← hp, ← hgm] at hRu
  have x0 : w6.cell? ⟨p, 0, none⟩ = some (.int .i64 G.a) := by rw [hp]; exact (regBlock _ hS6.reg).1
  rw [← hp, ← hgm]
  clear hp hgm hS6 hKs m6 hu6 u45 hPc hr4 h4 u4 hl3 hz3 HG3 u3 hbs' HSt HB hbf hby
  go_wp2_with fail
  refine Calls.mono hRu.out ?_
  rintro e w7 ⟨rfl, hS7⟩
  have HS7 : Hid _ := hS7
  clear hS7 hRu x0
  have HRe : Hid _ := bun_regs HS7.out HIq.out
  obtain ⟨T, hT⟩ : ∃ T, T = toRg (clN (rgF G) (50000) G.ime C K 4).1 := ⟨_, rfl⟩
  rw [← hT] at HRe
  obtain ⟨Bq, hBq⟩ : ∃ B, B = (G.b + 1) % 256 := ⟨_, rfl⟩
  obtain ⟨Aq, hAq⟩ : ∃ A, A = G.a := ⟨_, rfl⟩
  have HT : Hid (T.sp = 50000 ∧ T.pc = 40004 ∧ T.a = Aq ∧ T.b = Bq) := by
    rw [hT, hAq, hBq]
    exact ⟨rfl, rfl, rfl, rfl⟩
  clear hT
  have wB : IntKind.i64.wrap (G.b + 1) = G.b + 1 := wj _ (by omega) (by omega)
  have tB : (G.b + 1).tmod 256 = Bq := by rw [hBq]; exact Int.tmod_eq_emod_of_nonneg (by omega)
  have bq0 : 0 ≤ Bq := by omega
  have bq1 : Bq ≤ 255 := by omega
  have wBq : IntKind.i64.wrap Bq = Bq := wj _ (by omega) (by omega)
  have eB : (G.b + 1) % 256 = Bq := hBq.symm
  have eA : G.a = Aq := hAq.symm
  try rw [eA]
  clear hBq hAq
  go_wp2_with (first
    | (go_at_call 19; refine Calls.mono (HRe.out) ?_; rintro e w9 ⟨rfl, hS9, hu9⟩
       have HS9 : Hid _ := hS9
       have HN9 : Hid (∀ o, (w9.alloc o).heap[w9.heap.size]? = some o) := heap_alloc_new w9
       have HX9 : Hid _ := rgNew w9 T
       clear hS9 hu9)
    | (refine wpList_store_rowTo rfl 23 _ _ rfl rfl w9.heap.size T.cells rfl rfl 23 #[.int .i64 0, .int .i64 0, .int .i64 0, .int .i64 0, .int .i64 0, .int .i64 0, .int .i64 0, .int .i64 0, .int .i64 0, .int .i64 0, .bool false, .int .i64 0] (HN9.out _) (by kernel_rfl) rfl (rgOne T) ?_
       generalize hW10 : World.setRow _ _ _ = W10
       obtain ⟨hg10, hu10⟩ := HX9.out W10 _ hW10
       have HS10 : Hid _ := HS9.out.ups hu10
       obtain ⟨t0, t1, t2, t3, t4, t5, t6, t7, t8, t9, t10, t11⟩ := regBlock T hg10
       obtain ⟨e8, e9, e0, e2⟩ := HT.out
       rw [e0] at t0
       rw [e2] at t2
       rw [e8] at t8
       rw [e9] at t9
       obtain ⟨x0, x1, x2, x3, x4, x5, x6, x7, x8, x9, x10, x11⟩ := regBlock _ HS10.out.reg
       clear hW10 hu10 hg10 HX9 HN9 HS9 e0 e2 e8 e9 t1 t3 t4 t5 t6 t7 t10 t11 x0 x1 x3 x4 x5 x6 x7 x9 x10 x11 HT))
  go_ret
  exact ⟨rfl, HS10.out.up.trans (by first | exact Up.drewN W10 _ | exact (Up.refl W10).drew | exact Up.refl W10)⟩
set_option maxRecDepth 100000 in
set_option maxHeartbeats 1000000 in
theorem calls_nm (g : Rg) (G : Rg) (cond rs : Int) (C K : Nat) (hc : C < 4) (hK : K < 8) (HO : Hid G.Ok) (HS0 : Hid (G.state = 0)) (hsp : 39990 < G.sp) (hsq : G.sp < 40040) (hh : holdsC C G.f = false)
    (HB : Hid (∀ W, Calls Tryz.prog 14 #[.agg #[.int .i64 g.a, .int .i64 g.f, .int .i64 g.b, .int .i64 g.c, .int .i64 g.d, .int .i64 g.e, .int .i64 g.h, .int .i64 g.l, .int .i64 g.sp, .int .i64 g.pc, .bool g.ime, .int .i64 g.state]] W fun e w' => e = .returned (.agg G.cells) ∧ Up W w'))
    (HI1 : Hid (I64 cond)) (HI2 : Hid (I64 rs)) (HCe : Hid (pickI cond 5 = (C : Int))) (HKe : Hid (pickI rs 8 = (K : Int)))
    (w : World) (HLB : Hid (LaidB w)) :
    Calls Tryz.prog 8 #[.agg g.cells, .int .i64 cond, .int .i64 rs] w fun e w' => e = .returned (.bool true) ∧ Up w w' := by

  have s1 := HO.out.sp.1
  have s2 := HO.out.sp.2
  have a1 := HO.out.a.1
  have a2 := HO.out.a.2
  have b1 := HO.out.b.1
  have b2 := HO.out.b.2
  have hOk : ClOk (50000) := ⟨by omega, by omega, by omega⟩
  have hKi : (K : Int) < 8 := by omega
  have sf0 : decide (G.sp < 1024) = false := by simp; omega
  have sf1 : decide (39990 < G.sp) = true := by simp; omega
  have sf2 : decide (G.sp < 40040) = true := by simp; omega
  have hCi : (C : Int) < 4 := by omega
  have cf0 : decide ((C : Int) < 4) = true := by simp; omega
  have cf1 : ((C : Int) == 4) = false := by simp; omega
  have HHo : Hid (∀ W, Calls Tryz.prog 22 #[.int .i64 G.f, .int .i64 C] W fun e w' => e = .returned (.bool false) ∧ w' = W) := fun W => by rw [← hh]; exact lholds_any C hc G.f HO.out.f.1 HO.out.f.2 W
  have o2 : ({ G with sp := 50000, pc := 40000 } : Rg).Ok := { HO.out with pc := (show (0 : Int) ≤ 40000 ∧ (40000 : Int) ≤ 65535 by decide), sp := (show 0 ≤ 50000 ∧ 50000 ≤ 65535 by omega) }
  have HSt : Hid (∀ W, Calls Tryz.prog 16 #[.agg #[.int .i64 G.a, .int .i64 G.f, .int .i64 G.b, .int .i64 G.c, .int .i64 G.d, .int .i64 G.e, .int .i64 G.h, .int .i64 G.l, .int .i64 (50000), .int .i64 (40000), .bool G.ime, .int .i64 G.state]] W fun e w' => ∃ b, e = .returned (.pointer (some ⟨b, 0, none⟩)) ∧ W.heap.size ≤ b ∧ Cp w' b (bd (rgF G) (50000) 40000 G.ime) ∧ Up W w') := fun W => started_ok ({ G with sp := 50000, pc := 40000 } : Rg) o2 HS0.out W
  have HIv : Hid (bd (rgF G) (50000) 40000 G.ime).Inv := bd_inv ({ G with sp := 50000, pc := 40000 } : Rg) o2 HS0.out
  have HIn : Hid _ := fun i hi => clN_ins hOk C K hc hK hh i hi (r := rgF G) (ime := G.ime)
  have hop : caOp C = 196 + 8 * (C : Int) := by unfold caOp; rw [if_pos hc]
  clear o2 hh
  rw [show g.cells = #[.int .i64 g.a, .int .i64 g.f, .int .i64 g.b, .int .i64 g.c, .int .i64 g.d, .int .i64 g.e, .int .i64 g.h, .int .i64 g.l, .int .i64 g.sp, .int .i64 g.pc, .bool g.ime, .int .i64 g.state] from rfl]
  go_enter Tryz.func8, Tryz.ntmps8
  go_wp2_with (first
    | (go_at_call 14; refine (HB.out _).mono ?_; rintro e w2 ⟨rfl, hu2⟩
       have u2 : Up w w2 := ((Up.refl w).alloc _).trans hu2
       have HN2 : Hid (∀ o, (w2.alloc o).heap[w2.heap.size]? = some o) := heap_alloc_new w2
       have HX2 : Hid _ := rgNew w2 G
       clear hu2)
    | (refine wpList_store_rowTo rfl 23 _ _ rfl rfl w2.heap.size G.cells rfl rfl 23 #[.int .i64 0, .int .i64 0, .int .i64 0, .int .i64 0, .int .i64 0, .int .i64 0, .int .i64 0, .int .i64 0, .int .i64 0, .int .i64 0, .bool false, .int .i64 0] (HN2.out _) (by kernel_rfl) rfl (rgOne G) ?_
       generalize hW3 : World.setRow _ _ _ = W3
       obtain ⟨hg3, hu3⟩ := HX2.out W3 _ hW3
       have u3 := u2.trans hu3
       have hl3 : w2.heap.size < W3.heap.size := (Array.getElem?_eq_some_iff.1 hg3).1
       obtain ⟨r0, r1, r2, r3, r4, r5, r6, r7, r8, r9, r10, r11⟩ := regBlock G hg3
       have HG3 : Hid (RgAt W3 w2.heap.size G) := hg3
       have hz3 := u2.size
       have fz8 : W3.frozen? ⟨w2.heap.size, 8, none⟩ = false := by simp [World.frozen?, hg3]
       have fz9 : W3.frozen? ⟨w2.heap.size, 9, none⟩ = false := by simp [World.frozen?, hg3]
       clear hW3 hu3 hg3 u2 HX2 HN2
       go_wp2_with fail)
    | (go_at_call 15; refine (pick_any _ _ _ (by first | exact HI1.out | exact HI2.out) (by decide) (by decide)).mono ?_; (first | rw [HCe.out] | rw [HKe.out]); rintro e w' ⟨rfl, rfl⟩)
    | (go_at_call 22; refine (HHo.out _).mono ?_; rintro e w' ⟨rfl, rfl⟩)
    | (go_at_call 16; refine (HSt.out _).mono ?_; rintro e w4 ⟨b, rfl, hbs, h4, hu4⟩
       have hbs' : W3.heap.size ≤ b := by simp at hbs; omega
       have u4 : Up w w4 := ((u3.setCell (p := ⟨w2.heap.size, 9, none⟩) hz3 _).setCell (p := ⟨w2.heap.size, 8, none⟩) hz3 _).trans hu4
       have hr4 : RgAt w4 w2.heap.size ({ G with sp := 50000, pc := 40000 } : Rg) := ((HG3.out.set (H := { G with pc := 40000 }) 9 _ rfl).set (H := { G with sp := 50000, pc := 40000 }) 8 _ rfl).up hu4
       clear hbs hu4 r0 r1 r2 r3 r4 r5 r6 r7 r8 r9 r10 r11 fz9 fz8))
  generalize hW5 : World.alloc (World.alloc (World.alloc (World.alloc w4 _) _) _) _ = W5
  have hby := cl_byt C K (by omega) hK
  have hPc : Pcs W5 (w4.heap.size + 1 + 1 + 1) [⟨40000, [caOp C, 0, 2, 199 + 8 * (K : Int)]⟩, ⟨512, [60, 201]⟩, ⟨8 * (K : Int), [4, 201]⟩] := by
    have hb1 := hby.1
    rw [hop] at hb1
    rw [← hW5, hop]
    exact pcs3 w4 40000 512 (8 * (K : Int)) _ _ _ (by unfold I64; decide) (by unfold I64; decide) (by unfold I64; omega) hb1 hby.2.1 hby.2.2 (by simp) (by simp) (by simp)
  have u45 : Up w4 W5 := by rw [← hW5]; exact ((((Up.refl w4).alloc _).alloc _).alloc _).alloc _
  clear hW5
  refine (mem_three (w4.heap.size + 1 + 1 + 1) 40000 _ 512 _ (8 * (K : Int)) _ W5 hPc).mono ?_
  rintro e w6 ⟨rfl, m6, hu6⟩
  obtain ⟨hS6, hKs⟩ := bun_mk u4 HLB.out h4 (by have := u3.size; omega) hr4.lt hr4 (by omega) u45 hu6 m6
  have hbf : Byt (clF C K) := mem3_byt 40000 _ 512 _ (8 * (K : Int)) _ hby.1 hby.2.1 hby.2.2
  have hRu : Hid _ := bun_many 4 (by decide) (clN (rgF G) (50000) G.ime C K) clNk HIn.out clNk7 hS6 hKs HIv.out hbf
  have HIq : Hid _ := (runs_inv (clN (rgF G) (50000) G.ime C K) clNk 4 HIn.out HIv.out hbf).1
  obtain ⟨p, hp⟩ : ∃ p, p = w2.heap.size := ⟨_, rfl⟩
  obtain ⟨gm, hgm⟩ : ∃ gm, gm = W5.heap.size := ⟨_, rfl⟩
  rw [← hp, ← hgm] at hRu
  have x0 : w6.cell? ⟨p, 0, none⟩ = some (.int .i64 G.a) := by rw [hp]; exact (regBlock _ hS6.reg).1
  rw [← hp, ← hgm]
  clear hp hgm hS6 hKs m6 hu6 u45 hPc hr4 h4 u4 hl3 hz3 HG3 u3 hbs' HSt HB hbf hby
  go_wp2_with fail
  refine Calls.mono hRu.out ?_
  rintro e w7 ⟨rfl, hS7⟩
  have HS7 : Hid _ := hS7
  clear hS7 hRu x0
  have HRe : Hid _ := bun_regs HS7.out HIq.out
  obtain ⟨T, hT⟩ : ∃ T, T = toRg (clN (rgF G) (50000) G.ime C K 4).1 := ⟨_, rfl⟩
  rw [← hT] at HRe
  obtain ⟨Bq, hBq⟩ : ∃ B, B = (G.b + 1) % 256 := ⟨_, rfl⟩
  obtain ⟨Aq, hAq⟩ : ∃ A, A = G.a := ⟨_, rfl⟩
  have HT : Hid (T.sp = 50000 ∧ T.pc = 40004 ∧ T.a = Aq ∧ T.b = Bq) := by
    rw [hT, hAq, hBq]
    exact ⟨rfl, rfl, rfl, rfl⟩
  clear hT
  have wB : IntKind.i64.wrap (G.b + 1) = G.b + 1 := wj _ (by omega) (by omega)
  have tB : (G.b + 1).tmod 256 = Bq := by rw [hBq]; exact Int.tmod_eq_emod_of_nonneg (by omega)
  have bq0 : 0 ≤ Bq := by omega
  have bq1 : Bq ≤ 255 := by omega
  have wBq : IntKind.i64.wrap Bq = Bq := wj _ (by omega) (by omega)
  have eB : (G.b + 1) % 256 = Bq := hBq.symm
  have eA : G.a = Aq := hAq.symm
  try rw [eA]
  clear hBq hAq
  go_wp2_with (first
    | (go_at_call 19; refine Calls.mono (HRe.out) ?_; rintro e w9 ⟨rfl, hS9, hu9⟩
       have HS9 : Hid _ := hS9
       have HN9 : Hid (∀ o, (w9.alloc o).heap[w9.heap.size]? = some o) := heap_alloc_new w9
       have HX9 : Hid _ := rgNew w9 T
       clear hS9 hu9)
    | (refine wpList_store_rowTo rfl 23 _ _ rfl rfl w9.heap.size T.cells rfl rfl 23 #[.int .i64 0, .int .i64 0, .int .i64 0, .int .i64 0, .int .i64 0, .int .i64 0, .int .i64 0, .int .i64 0, .int .i64 0, .int .i64 0, .bool false, .int .i64 0] (HN9.out _) (by kernel_rfl) rfl (rgOne T) ?_
       generalize hW10 : World.setRow _ _ _ = W10
       obtain ⟨hg10, hu10⟩ := HX9.out W10 _ hW10
       have HS10 : Hid _ := HS9.out.ups hu10
       obtain ⟨t0, t1, t2, t3, t4, t5, t6, t7, t8, t9, t10, t11⟩ := regBlock T hg10
       obtain ⟨e8, e9, e0, e2⟩ := HT.out
       rw [e0] at t0
       rw [e2] at t2
       rw [e8] at t8
       rw [e9] at t9
       obtain ⟨x0, x1, x2, x3, x4, x5, x6, x7, x8, x9, x10, x11⟩ := regBlock _ HS10.out.reg
       clear hW10 hu10 hg10 HX9 HN9 HS9 e0 e2 e8 e9 t1 t3 t4 t5 t6 t7 t10 t11 x0 x1 x3 x4 x5 x6 x7 x9 x10 x11 HT))
  go_ret
  exact ⟨rfl, HS10.out.up.trans (by first | exact Up.drewN W10 _ | exact (Up.refl W10).drew | exact Up.refl W10)⟩
set_option maxRecDepth 100000 in
set_option maxHeartbeats 1000000 in
theorem calls_nu (g : Rg) (G : Rg) (cond rs : Int) (C K : Nat) (hc : C < 4) (hK : K < 8) (HO : Hid G.Ok) (HS0 : Hid (G.state = 0)) (hsp : 1024 ≤ G.sp) (hsq : G.sp ≤ 39990) (hh : holdsC C G.f = false)
    (HB : Hid (∀ W, Calls Tryz.prog 14 #[.agg #[.int .i64 g.a, .int .i64 g.f, .int .i64 g.b, .int .i64 g.c, .int .i64 g.d, .int .i64 g.e, .int .i64 g.h, .int .i64 g.l, .int .i64 g.sp, .int .i64 g.pc, .bool g.ime, .int .i64 g.state]] W fun e w' => e = .returned (.agg G.cells) ∧ Up W w'))
    (HI1 : Hid (I64 cond)) (HI2 : Hid (I64 rs)) (HCe : Hid (pickI cond 5 = (C : Int))) (HKe : Hid (pickI rs 8 = (K : Int)))
    (w : World) (HLB : Hid (LaidB w)) :
    Calls Tryz.prog 8 #[.agg g.cells, .int .i64 cond, .int .i64 rs] w fun e w' => e = .returned (.bool true) ∧ Up w w' := by

  have s1 := HO.out.sp.1
  have s2 := HO.out.sp.2
  have a1 := HO.out.a.1
  have a2 := HO.out.a.2
  have b1 := HO.out.b.1
  have b2 := HO.out.b.2
  have hOk : ClOk (G.sp) := ⟨by omega, by omega, by omega⟩
  have hKi : (K : Int) < 8 := by omega
  have sf0 : decide (G.sp < 1024) = false := by simp; omega
  have sf1 : decide (39990 < G.sp) = false := by simp; omega
  have hCi : (C : Int) < 4 := by omega
  have cf0 : decide ((C : Int) < 4) = true := by simp; omega
  have cf1 : ((C : Int) == 4) = false := by simp; omega
  have HHo : Hid (∀ W, Calls Tryz.prog 22 #[.int .i64 G.f, .int .i64 C] W fun e w' => e = .returned (.bool false) ∧ w' = W) := fun W => by rw [← hh]; exact lholds_any C hc G.f HO.out.f.1 HO.out.f.2 W
  have o2 : ({ G with sp := G.sp, pc := 40000 } : Rg).Ok := { HO.out with pc := (show (0 : Int) ≤ 40000 ∧ (40000 : Int) ≤ 65535 by decide), sp := (show 0 ≤ G.sp ∧ G.sp ≤ 65535 by omega) }
  have HSt : Hid (∀ W, Calls Tryz.prog 16 #[.agg #[.int .i64 G.a, .int .i64 G.f, .int .i64 G.b, .int .i64 G.c, .int .i64 G.d, .int .i64 G.e, .int .i64 G.h, .int .i64 G.l, .int .i64 (G.sp), .int .i64 (40000), .bool G.ime, .int .i64 G.state]] W fun e w' => ∃ b, e = .returned (.pointer (some ⟨b, 0, none⟩)) ∧ W.heap.size ≤ b ∧ Cp w' b (bd (rgF G) (G.sp) 40000 G.ime) ∧ Up W w') := fun W => started_ok ({ G with sp := G.sp, pc := 40000 } : Rg) o2 HS0.out W
  have HIv : Hid (bd (rgF G) (G.sp) 40000 G.ime).Inv := bd_inv ({ G with sp := G.sp, pc := 40000 } : Rg) o2 HS0.out
  have HIn : Hid _ := fun i hi => clN_ins hOk C K hc hK hh i hi (r := rgF G) (ime := G.ime)
  have hop : caOp C = 196 + 8 * (C : Int) := by unfold caOp; rw [if_pos hc]
  clear o2 hh
  rw [show g.cells = #[.int .i64 g.a, .int .i64 g.f, .int .i64 g.b, .int .i64 g.c, .int .i64 g.d, .int .i64 g.e, .int .i64 g.h, .int .i64 g.l, .int .i64 g.sp, .int .i64 g.pc, .bool g.ime, .int .i64 g.state] from rfl]
  go_enter Tryz.func8, Tryz.ntmps8
  go_wp2_with (first
    | (go_at_call 14; refine (HB.out _).mono ?_; rintro e w2 ⟨rfl, hu2⟩
       have u2 : Up w w2 := ((Up.refl w).alloc _).trans hu2
       have HN2 : Hid (∀ o, (w2.alloc o).heap[w2.heap.size]? = some o) := heap_alloc_new w2
       have HX2 : Hid _ := rgNew w2 G
       clear hu2)
    | (refine wpList_store_rowTo rfl 23 _ _ rfl rfl w2.heap.size G.cells rfl rfl 23 #[.int .i64 0, .int .i64 0, .int .i64 0, .int .i64 0, .int .i64 0, .int .i64 0, .int .i64 0, .int .i64 0, .int .i64 0, .int .i64 0, .bool false, .int .i64 0] (HN2.out _) (by kernel_rfl) rfl (rgOne G) ?_
       generalize hW3 : World.setRow _ _ _ = W3
       obtain ⟨hg3, hu3⟩ := HX2.out W3 _ hW3
       have u3 := u2.trans hu3
       have hl3 : w2.heap.size < W3.heap.size := (Array.getElem?_eq_some_iff.1 hg3).1
       obtain ⟨r0, r1, r2, r3, r4, r5, r6, r7, r8, r9, r10, r11⟩ := regBlock G hg3
       have HG3 : Hid (RgAt W3 w2.heap.size G) := hg3
       have hz3 := u2.size
       have fz8 : W3.frozen? ⟨w2.heap.size, 8, none⟩ = false := by simp [World.frozen?, hg3]
       have fz9 : W3.frozen? ⟨w2.heap.size, 9, none⟩ = false := by simp [World.frozen?, hg3]
       clear hW3 hu3 hg3 u2 HX2 HN2
       go_wp2_with fail)
    | (go_at_call 15; refine (pick_any _ _ _ (by first | exact HI1.out | exact HI2.out) (by decide) (by decide)).mono ?_; (first | rw [HCe.out] | rw [HKe.out]); rintro e w' ⟨rfl, rfl⟩)
    | (go_at_call 22; refine (HHo.out _).mono ?_; rintro e w' ⟨rfl, rfl⟩)
    | (go_at_call 16; refine (HSt.out _).mono ?_; rintro e w4 ⟨b, rfl, hbs, h4, hu4⟩
       have hbs' : W3.heap.size ≤ b := by simp at hbs; omega
       have u4 : Up w w4 := (u3.setCell (p := ⟨w2.heap.size, 9, none⟩) hz3 _).trans hu4
       have hr4 : RgAt w4 w2.heap.size ({ G with sp := G.sp, pc := 40000 } : Rg) := (HG3.out.set (H := { G with pc := 40000 }) 9 _ rfl).up hu4
       clear hbs hu4 r0 r1 r2 r3 r4 r5 r6 r7 r8 r9 r10 r11 fz9 fz8))
  generalize hW5 : World.alloc (World.alloc (World.alloc (World.alloc w4 _) _) _) _ = W5
  have hby := cl_byt C K (by omega) hK
  have hPc : Pcs W5 (w4.heap.size + 1 + 1 + 1) [⟨40000, [caOp C, 0, 2, 199 + 8 * (K : Int)]⟩, ⟨512, [60, 201]⟩, ⟨8 * (K : Int), [4, 201]⟩] := by
    have hb1 := hby.1
    rw [hop] at hb1
    rw [← hW5, hop]
    exact pcs3 w4 40000 512 (8 * (K : Int)) _ _ _ (by unfold I64; decide) (by unfold I64; decide) (by unfold I64; omega) hb1 hby.2.1 hby.2.2 (by simp) (by simp) (by simp)
  have u45 : Up w4 W5 := by rw [← hW5]; exact ((((Up.refl w4).alloc _).alloc _).alloc _).alloc _
  clear hW5
  refine (mem_three (w4.heap.size + 1 + 1 + 1) 40000 _ 512 _ (8 * (K : Int)) _ W5 hPc).mono ?_
  rintro e w6 ⟨rfl, m6, hu6⟩
  obtain ⟨hS6, hKs⟩ := bun_mk u4 HLB.out h4 (by have := u3.size; omega) hr4.lt hr4 (by omega) u45 hu6 m6
  have hbf : Byt (clF C K) := mem3_byt 40000 _ 512 _ (8 * (K : Int)) _ hby.1 hby.2.1 hby.2.2
  have hRu : Hid _ := bun_many 4 (by decide) (clN (rgF G) (G.sp) G.ime C K) clNk HIn.out clNk7 hS6 hKs HIv.out hbf
  have HIq : Hid _ := (runs_inv (clN (rgF G) (G.sp) G.ime C K) clNk 4 HIn.out HIv.out hbf).1
  obtain ⟨p, hp⟩ : ∃ p, p = w2.heap.size := ⟨_, rfl⟩
  obtain ⟨gm, hgm⟩ : ∃ gm, gm = W5.heap.size := ⟨_, rfl⟩
  rw [← hp, ← hgm] at hRu
  have x0 : w6.cell? ⟨p, 0, none⟩ = some (.int .i64 G.a) := by rw [hp]; exact (regBlock _ hS6.reg).1
  rw [← hp, ← hgm]
  clear hp hgm hS6 hKs m6 hu6 u45 hPc hr4 h4 u4 hl3 hz3 HG3 u3 hbs' HSt HB hbf hby
  go_wp2_with fail
  refine Calls.mono hRu.out ?_
  rintro e w7 ⟨rfl, hS7⟩
  have HS7 : Hid _ := hS7
  clear hS7 hRu x0
  have HRe : Hid _ := bun_regs HS7.out HIq.out
  obtain ⟨T, hT⟩ : ∃ T, T = toRg (clN (rgF G) (G.sp) G.ime C K 4).1 := ⟨_, rfl⟩
  rw [← hT] at HRe
  obtain ⟨Bq, hBq⟩ : ∃ B, B = (G.b + 1) % 256 := ⟨_, rfl⟩
  obtain ⟨Aq, hAq⟩ : ∃ A, A = G.a := ⟨_, rfl⟩
  have HT : Hid (T.sp = G.sp ∧ T.pc = 40004 ∧ T.a = Aq ∧ T.b = Bq) := by
    rw [hT, hAq, hBq]
    exact ⟨rfl, rfl, rfl, rfl⟩
  clear hT
  have wB : IntKind.i64.wrap (G.b + 1) = G.b + 1 := wj _ (by omega) (by omega)
  have tB : (G.b + 1).tmod 256 = Bq := by rw [hBq]; exact Int.tmod_eq_emod_of_nonneg (by omega)
  have bq0 : 0 ≤ Bq := by omega
  have bq1 : Bq ≤ 255 := by omega
  have wBq : IntKind.i64.wrap Bq = Bq := wj _ (by omega) (by omega)
  have eB : (G.b + 1) % 256 = Bq := hBq.symm
  have eA : G.a = Aq := hAq.symm
  try rw [eA]
  clear hBq hAq
  go_wp2_with (first
    | (go_at_call 19; refine Calls.mono (HRe.out) ?_; rintro e w9 ⟨rfl, hS9, hu9⟩
       have HS9 : Hid _ := hS9
       have HN9 : Hid (∀ o, (w9.alloc o).heap[w9.heap.size]? = some o) := heap_alloc_new w9
       have HX9 : Hid _ := rgNew w9 T
       clear hS9 hu9)
    | (refine wpList_store_rowTo rfl 23 _ _ rfl rfl w9.heap.size T.cells rfl rfl 23 #[.int .i64 0, .int .i64 0, .int .i64 0, .int .i64 0, .int .i64 0, .int .i64 0, .int .i64 0, .int .i64 0, .int .i64 0, .int .i64 0, .bool false, .int .i64 0] (HN9.out _) (by kernel_rfl) rfl (rgOne T) ?_
       generalize hW10 : World.setRow _ _ _ = W10
       obtain ⟨hg10, hu10⟩ := HX9.out W10 _ hW10
       have HS10 : Hid _ := HS9.out.ups hu10
       obtain ⟨t0, t1, t2, t3, t4, t5, t6, t7, t8, t9, t10, t11⟩ := regBlock T hg10
       obtain ⟨e8, e9, e0, e2⟩ := HT.out
       rw [e0] at t0
       rw [e2] at t2
       rw [e8] at t8
       rw [e9] at t9
       obtain ⟨x0, x1, x2, x3, x4, x5, x6, x7, x8, x9, x10, x11⟩ := regBlock _ HS10.out.reg
       clear hW10 hu10 hg10 HX9 HN9 HS9 e0 e2 e8 e9 t1 t3 t4 t5 t6 t7 t10 t11 x0 x1 x3 x4 x5 x6 x7 x9 x10 x11 HT))
  go_ret
  exact ⟨rfl, HS10.out.up.trans (by first | exact Up.drewN W10 _ | exact (Up.refl W10).drew | exact Up.refl W10)⟩
set_option maxRecDepth 100000 in
set_option maxHeartbeats 1000000 in
theorem calls_nv (g : Rg) (G : Rg) (cond rs : Int) (C K : Nat) (hc : C < 4) (hK : K < 8) (HO : Hid G.Ok) (HS0 : Hid (G.state = 0)) (hsp : 40040 ≤ G.sp) (hh : holdsC C G.f = false)
    (HB : Hid (∀ W, Calls Tryz.prog 14 #[.agg #[.int .i64 g.a, .int .i64 g.f, .int .i64 g.b, .int .i64 g.c, .int .i64 g.d, .int .i64 g.e, .int .i64 g.h, .int .i64 g.l, .int .i64 g.sp, .int .i64 g.pc, .bool g.ime, .int .i64 g.state]] W fun e w' => e = .returned (.agg G.cells) ∧ Up W w'))
    (HI1 : Hid (I64 cond)) (HI2 : Hid (I64 rs)) (HCe : Hid (pickI cond 5 = (C : Int))) (HKe : Hid (pickI rs 8 = (K : Int)))
    (w : World) (HLB : Hid (LaidB w)) :
    Calls Tryz.prog 8 #[.agg g.cells, .int .i64 cond, .int .i64 rs] w fun e w' => e = .returned (.bool true) ∧ Up w w' := by

  have s1 := HO.out.sp.1
  have s2 := HO.out.sp.2
  have a1 := HO.out.a.1
  have a2 := HO.out.a.2
  have b1 := HO.out.b.1
  have b2 := HO.out.b.2
  have hOk : ClOk (G.sp) := ⟨by omega, by omega, by omega⟩
  have hKi : (K : Int) < 8 := by omega
  have sf0 : decide (G.sp < 1024) = false := by simp; omega
  have sf1 : decide (39990 < G.sp) = true := by simp; omega
  have sf2 : decide (G.sp < 40040) = false := by simp; omega
  have hCi : (C : Int) < 4 := by omega
  have cf0 : decide ((C : Int) < 4) = true := by simp; omega
  have cf1 : ((C : Int) == 4) = false := by simp; omega
  have HHo : Hid (∀ W, Calls Tryz.prog 22 #[.int .i64 G.f, .int .i64 C] W fun e w' => e = .returned (.bool false) ∧ w' = W) := fun W => by rw [← hh]; exact lholds_any C hc G.f HO.out.f.1 HO.out.f.2 W
  have o2 : ({ G with sp := G.sp, pc := 40000 } : Rg).Ok := { HO.out with pc := (show (0 : Int) ≤ 40000 ∧ (40000 : Int) ≤ 65535 by decide), sp := (show 0 ≤ G.sp ∧ G.sp ≤ 65535 by omega) }
  have HSt : Hid (∀ W, Calls Tryz.prog 16 #[.agg #[.int .i64 G.a, .int .i64 G.f, .int .i64 G.b, .int .i64 G.c, .int .i64 G.d, .int .i64 G.e, .int .i64 G.h, .int .i64 G.l, .int .i64 (G.sp), .int .i64 (40000), .bool G.ime, .int .i64 G.state]] W fun e w' => ∃ b, e = .returned (.pointer (some ⟨b, 0, none⟩)) ∧ W.heap.size ≤ b ∧ Cp w' b (bd (rgF G) (G.sp) 40000 G.ime) ∧ Up W w') := fun W => started_ok ({ G with sp := G.sp, pc := 40000 } : Rg) o2 HS0.out W
  have HIv : Hid (bd (rgF G) (G.sp) 40000 G.ime).Inv := bd_inv ({ G with sp := G.sp, pc := 40000 } : Rg) o2 HS0.out
  have HIn : Hid _ := fun i hi => clN_ins hOk C K hc hK hh i hi (r := rgF G) (ime := G.ime)
  have hop : caOp C = 196 + 8 * (C : Int) := by unfold caOp; rw [if_pos hc]
  clear o2 hh
  rw [show g.cells = #[.int .i64 g.a, .int .i64 g.f, .int .i64 g.b, .int .i64 g.c, .int .i64 g.d, .int .i64 g.e, .int .i64 g.h, .int .i64 g.l, .int .i64 g.sp, .int .i64 g.pc, .bool g.ime, .int .i64 g.state] from rfl]
  go_enter Tryz.func8, Tryz.ntmps8
  go_wp2_with (first
    | (go_at_call 14; refine (HB.out _).mono ?_; rintro e w2 ⟨rfl, hu2⟩
       have u2 : Up w w2 := ((Up.refl w).alloc _).trans hu2
       have HN2 : Hid (∀ o, (w2.alloc o).heap[w2.heap.size]? = some o) := heap_alloc_new w2
       have HX2 : Hid _ := rgNew w2 G
       clear hu2)
    | (refine wpList_store_rowTo rfl 23 _ _ rfl rfl w2.heap.size G.cells rfl rfl 23 #[.int .i64 0, .int .i64 0, .int .i64 0, .int .i64 0, .int .i64 0, .int .i64 0, .int .i64 0, .int .i64 0, .int .i64 0, .int .i64 0, .bool false, .int .i64 0] (HN2.out _) (by kernel_rfl) rfl (rgOne G) ?_
       generalize hW3 : World.setRow _ _ _ = W3
       obtain ⟨hg3, hu3⟩ := HX2.out W3 _ hW3
       have u3 := u2.trans hu3
       have hl3 : w2.heap.size < W3.heap.size := (Array.getElem?_eq_some_iff.1 hg3).1
       obtain ⟨r0, r1, r2, r3, r4, r5, r6, r7, r8, r9, r10, r11⟩ := regBlock G hg3
       have HG3 : Hid (RgAt W3 w2.heap.size G) := hg3
       have hz3 := u2.size
       have fz8 : W3.frozen? ⟨w2.heap.size, 8, none⟩ = false := by simp [World.frozen?, hg3]
       have fz9 : W3.frozen? ⟨w2.heap.size, 9, none⟩ = false := by simp [World.frozen?, hg3]
       clear hW3 hu3 hg3 u2 HX2 HN2
       go_wp2_with fail)
    | (go_at_call 15; refine (pick_any _ _ _ (by first | exact HI1.out | exact HI2.out) (by decide) (by decide)).mono ?_; (first | rw [HCe.out] | rw [HKe.out]); rintro e w' ⟨rfl, rfl⟩)
    | (go_at_call 22; refine (HHo.out _).mono ?_; rintro e w' ⟨rfl, rfl⟩)
    | (go_at_call 16; refine (HSt.out _).mono ?_; rintro e w4 ⟨b, rfl, hbs, h4, hu4⟩
       have hbs' : W3.heap.size ≤ b := by simp at hbs; omega
       have u4 : Up w w4 := (u3.setCell (p := ⟨w2.heap.size, 9, none⟩) hz3 _).trans hu4
       have hr4 : RgAt w4 w2.heap.size ({ G with sp := G.sp, pc := 40000 } : Rg) := (HG3.out.set (H := { G with pc := 40000 }) 9 _ rfl).up hu4
       clear hbs hu4 r0 r1 r2 r3 r4 r5 r6 r7 r8 r9 r10 r11 fz9 fz8))
  generalize hW5 : World.alloc (World.alloc (World.alloc (World.alloc w4 _) _) _) _ = W5
  have hby := cl_byt C K (by omega) hK
  have hPc : Pcs W5 (w4.heap.size + 1 + 1 + 1) [⟨40000, [caOp C, 0, 2, 199 + 8 * (K : Int)]⟩, ⟨512, [60, 201]⟩, ⟨8 * (K : Int), [4, 201]⟩] := by
    have hb1 := hby.1
    rw [hop] at hb1
    rw [← hW5, hop]
    exact pcs3 w4 40000 512 (8 * (K : Int)) _ _ _ (by unfold I64; decide) (by unfold I64; decide) (by unfold I64; omega) hb1 hby.2.1 hby.2.2 (by simp) (by simp) (by simp)
  have u45 : Up w4 W5 := by rw [← hW5]; exact ((((Up.refl w4).alloc _).alloc _).alloc _).alloc _
  clear hW5
  refine (mem_three (w4.heap.size + 1 + 1 + 1) 40000 _ 512 _ (8 * (K : Int)) _ W5 hPc).mono ?_
  rintro e w6 ⟨rfl, m6, hu6⟩
  obtain ⟨hS6, hKs⟩ := bun_mk u4 HLB.out h4 (by have := u3.size; omega) hr4.lt hr4 (by omega) u45 hu6 m6
  have hbf : Byt (clF C K) := mem3_byt 40000 _ 512 _ (8 * (K : Int)) _ hby.1 hby.2.1 hby.2.2
  have hRu : Hid _ := bun_many 4 (by decide) (clN (rgF G) (G.sp) G.ime C K) clNk HIn.out clNk7 hS6 hKs HIv.out hbf
  have HIq : Hid _ := (runs_inv (clN (rgF G) (G.sp) G.ime C K) clNk 4 HIn.out HIv.out hbf).1
  obtain ⟨p, hp⟩ : ∃ p, p = w2.heap.size := ⟨_, rfl⟩
  obtain ⟨gm, hgm⟩ : ∃ gm, gm = W5.heap.size := ⟨_, rfl⟩
  rw [← hp, ← hgm] at hRu
  have x0 : w6.cell? ⟨p, 0, none⟩ = some (.int .i64 G.a) := by rw [hp]; exact (regBlock _ hS6.reg).1
  rw [← hp, ← hgm]
  clear hp hgm hS6 hKs m6 hu6 u45 hPc hr4 h4 u4 hl3 hz3 HG3 u3 hbs' HSt HB hbf hby
  go_wp2_with fail
  refine Calls.mono hRu.out ?_
  rintro e w7 ⟨rfl, hS7⟩
  have HS7 : Hid _ := hS7
  clear hS7 hRu x0
  have HRe : Hid _ := bun_regs HS7.out HIq.out
  obtain ⟨T, hT⟩ : ∃ T, T = toRg (clN (rgF G) (G.sp) G.ime C K 4).1 := ⟨_, rfl⟩
  rw [← hT] at HRe
  obtain ⟨Bq, hBq⟩ : ∃ B, B = (G.b + 1) % 256 := ⟨_, rfl⟩
  obtain ⟨Aq, hAq⟩ : ∃ A, A = G.a := ⟨_, rfl⟩
  have HT : Hid (T.sp = G.sp ∧ T.pc = 40004 ∧ T.a = Aq ∧ T.b = Bq) := by
    rw [hT, hAq, hBq]
    exact ⟨rfl, rfl, rfl, rfl⟩
  clear hT
  have wB : IntKind.i64.wrap (G.b + 1) = G.b + 1 := wj _ (by omega) (by omega)
  have tB : (G.b + 1).tmod 256 = Bq := by rw [hBq]; exact Int.tmod_eq_emod_of_nonneg (by omega)
  have bq0 : 0 ≤ Bq := by omega
  have bq1 : Bq ≤ 255 := by omega
  have wBq : IntKind.i64.wrap Bq = Bq := wj _ (by omega) (by omega)
  have eB : (G.b + 1) % 256 = Bq := hBq.symm
  have eA : G.a = Aq := hAq.symm
  try rw [eA]
  clear hBq hAq
  go_wp2_with (first
    | (go_at_call 19; refine Calls.mono (HRe.out) ?_; rintro e w9 ⟨rfl, hS9, hu9⟩
       have HS9 : Hid _ := hS9
       have HN9 : Hid (∀ o, (w9.alloc o).heap[w9.heap.size]? = some o) := heap_alloc_new w9
       have HX9 : Hid _ := rgNew w9 T
       clear hS9 hu9)
    | (refine wpList_store_rowTo rfl 23 _ _ rfl rfl w9.heap.size T.cells rfl rfl 23 #[.int .i64 0, .int .i64 0, .int .i64 0, .int .i64 0, .int .i64 0, .int .i64 0, .int .i64 0, .int .i64 0, .int .i64 0, .int .i64 0, .bool false, .int .i64 0] (HN9.out _) (by kernel_rfl) rfl (rgOne T) ?_
       generalize hW10 : World.setRow _ _ _ = W10
       obtain ⟨hg10, hu10⟩ := HX9.out W10 _ hW10
       have HS10 : Hid _ := HS9.out.ups hu10
       obtain ⟨t0, t1, t2, t3, t4, t5, t6, t7, t8, t9, t10, t11⟩ := regBlock T hg10
       obtain ⟨e8, e9, e0, e2⟩ := HT.out
       rw [e0] at t0
       rw [e2] at t2
       rw [e8] at t8
       rw [e9] at t9
       obtain ⟨x0, x1, x2, x3, x4, x5, x6, x7, x8, x9, x10, x11⟩ := regBlock _ HS10.out.reg
       clear hW10 hu10 hg10 HX9 HN9 HS9 e0 e2 e8 e9 t1 t3 t4 t5 t6 t7 t10 t11 x0 x1 x3 x4 x5 x6 x7 x9 x10 x11 HT))
  go_ret
  exact ⟨rfl, HS10.out.up.trans (by first | exact Up.drewN W10 _ | exact (Up.refl W10).drew | exact Up.refl W10)⟩
theorem calls_walk (g : Rg) (i : g.In) (cond rs : Int) (h1 : I64 cond) (h2 : I64 rs) (w : World) (hB : LaidB w) :
    Calls Tryz.prog 8 #[.agg g.cells, .int .i64 cond, .int .i64 rs] w fun e w' => e = .returned (.bool true) ∧ Up w w' := by
  obtain ⟨C, hC⟩ : ∃ C : Nat, pickI cond 5 = (C : Int) := ⟨(pickI cond 5).toNat, by have := pickI_lo cond 5 (by decide); omega⟩
  obtain ⟨K, hKe⟩ : ∃ K : Nat, pickI rs 8 = (K : Int) := ⟨(pickI rs 8).toNat, by have := pickI_lo rs 8 (by decide); omega⟩
  have hC5 : C < 5 := by have := pickI_hi cond 5 (by decide); omega
  have hK : K < 8 := by have := pickI_hi rs 8 (by decide); omega
  have HB : Hid (∀ W, Calls Tryz.prog 14 #[.agg #[.int .i64 g.a, .int .i64 g.f, .int .i64 g.b, .int .i64 g.c, .int .i64 g.d, .int .i64 g.e, .int .i64 g.h, .int .i64 g.l, .int .i64 g.sp, .int .i64 g.pc, .bool g.ime, .int .i64 g.state]] W fun e w' => e = .returned (.agg (bnd g).cells) ∧ Up W w') := fun W => bounded_any g i W
  have o := bnd_ok g
  have hs : (bnd g).state = 0 := rfl
  generalize bnd g = G at HB o hs
  by_cases c4 : C = 4
  · by_cases s1 : G.sp < 1024
    · exact calls_al g G cond rs C K c4 hK o hs s1 HB h1 h2 hC hKe w hB
    · by_cases s2 : G.sp ≤ 39990
      · exact calls_au g G cond rs C K c4 hK o hs (by omega) s2 HB h1 h2 hC hKe w hB
      · by_cases s3 : G.sp < 40040
        · exact calls_am g G cond rs C K c4 hK o hs (by omega) s3 HB h1 h2 hC hKe w hB
        · exact calls_av g G cond rs C K c4 hK o hs (by omega) HB h1 h2 hC hKe w hB
  · have hc : C < 4 := by omega
    cases hh : holdsC C G.f
    · by_cases s1 : G.sp < 1024
      · exact calls_nl g G cond rs C K hc hK o hs s1 hh HB h1 h2 hC hKe w hB
      · by_cases s2 : G.sp ≤ 39990
        · exact calls_nu g G cond rs C K hc hK o hs (by omega) s2 hh HB h1 h2 hC hKe w hB
        · by_cases s3 : G.sp < 40040
          · exact calls_nm g G cond rs C K hc hK o hs (by omega) s3 hh HB h1 h2 hC hKe w hB
          · exact calls_nv g G cond rs C K hc hK o hs (by omega) hh HB h1 h2 hC hKe w hB
    · by_cases s1 : G.sp < 1024
      · exact calls_yl g G cond rs C K hc hK o hs s1 hh HB h1 h2 hC hKe w hB
      · by_cases s2 : G.sp ≤ 39990
        · exact calls_yu g G cond rs C K hc hK o hs (by omega) s2 hh HB h1 h2 hC hKe w hB
        · by_cases s3 : G.sp < 40040
          · exact calls_ym g G cond rs C K hc hK o hs (by omega) s3 hh HB h1 h2 hC hKe w hB
          · exact calls_yv g G cond rs C K hc hK o hs (by omega) hh HB h1 h2 hC hKe w hB
end Go.Proofs.YtbfjihcnnefehaaGreatDoor
