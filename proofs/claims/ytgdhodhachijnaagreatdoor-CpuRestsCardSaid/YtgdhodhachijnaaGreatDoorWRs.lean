/- CpuRests: the walk. -/
import Derived.Test.YtgdhodhachijnaaGreatDoorLq
namespace Go.Proofs.YtgdhodhachijnaaGreatDoor
open Go.RowKit
set_option linter.unusedVariables false
theorem rsVal (k : Nat) (h : k < 13) : ([Value.int IntKind.u8 118, Value.int IntKind.u8 16, Value.int IntKind.u8 211, Value.int IntKind.u8 219, Value.int IntKind.u8 221, Value.int IntKind.u8 227, Value.int IntKind.u8 228, Value.int IntKind.u8 235, Value.int IntKind.u8 236, Value.int IntKind.u8 237, Value.int IntKind.u8 244, Value.int IntKind.u8 252, Value.int IntKind.u8 253])[k] = Value.int .u8 (rsOp k) := by
  have : k = 0 ∨ k = 1 ∨ k = 2 ∨ k = 3 ∨ k = 4 ∨ k = 5 ∨ k = 6 ∨ k = 7 ∨ k = 8 ∨ k = 9 ∨ k = 10 ∨ k = 11 ∨ k = 12 := by omega
  rcases this with rfl | rfl | rfl | rfl | rfl | rfl | rfl | rfl | rfl | rfl | rfl | rfl | rfl <;> rfl
theorem rsOp_b (k : Nat) : 0 ≤ rsOp k ∧ rsOp k ≤ 255 := by
  unfold rsOp
  exact getD_b _ (by decide) k
theorem rs_byt (k : Nat) : ∀ x ∈ [rsOp k, 0, 60], 0 ≤ x ∧ x ≤ 255 := by
  intro x hx
  have := rsOp_b k
  simp only [List.mem_cons, List.not_mem_nil, or_false] at hx
  rcases hx with rfl | rfl | rfl <;> omega
theorem rs_run (K : Nat) (hK : K < 13) (r : Nat → Int) (sp : Int) (ime : Bool) : Ins (bd r sp 512 ime, mem1 512 [rsOp K, 0, 60]) (rsCy K) (rst r sp (rsPc K 512) ime (rsSt K), mem1 512 [rsOp K, 0, 60]) :=
  rs_ins K hK (lay_at (fun _ => 0) 512 [rsOp K, 0, 60] 3 (by decide) 0 (by decide)) (lay_at (fun _ => 0) 512 [rsOp K, 0, 60] 3 (by decide) 1 (by decide))
theorem rs_case (K : Nat) : (K = 0 ∧ rsSt K = 1 ∧ rsPc K 512 = 513) ∨ (K = 1 ∧ rsSt K = 2 ∧ rsPc K 512 = 514) ∨ (2 ≤ K ∧ rsSt K = 3 ∧ rsPc K 512 = 513) := by
  by_cases h0 : K = 0
  · subst h0; exact Or.inl ⟨rfl, rfl, rfl⟩
  · by_cases h1 : K = 1
    · subst h1; exact Or.inr (Or.inl ⟨rfl, rfl, rfl⟩)
    · refine Or.inr (Or.inr ⟨by omega, ?_, ?_⟩)
      · unfold rsSt; rw [if_neg h0, if_neg h1]
      · unfold rsPc; rw [if_neg h1]; rfl
theorem rs_want {w : World} {b gm p : Nat} {G' : Rg} {r : Nat → Int} {sp pc : Int} {f : Nat → Int} (K : Nat) (k : Bks w b gm p) (v : (rst r sp pc false (rsSt K)).Inv) (W : World) (h : Bun w b gm p G' (rst r sp pc false (rsSt K)) f W) :
    Calls Tryz.prog 20 #[.pointer (some ⟨b, 0, none⟩)] W fun e w' => e = .returned (.agg #[.int .i64 0, .int .i64 0, .int .i64 0]) ∧ Bun w b gm p G' (rst r sp pc false (rsSt K)) f w' ∧ Up W w' := by
  have := bun_want h k v
  rw [rs_next] at this
  exact this
theorem rs_cycle {w : World} {b gm p : Nat} {G' : Rg} {r : Nat → Int} {sp pc : Int} {f : Nat → Int} (K : Nat) (k : Bks w b gm p) (v : (rst r sp pc false (rsSt K)).Inv) (hf : Byt f) (l : Int) (hl : I64 l) (hk : 1 < K ∨ l % 32 = 0) (W : World) (h : Bun w b gm p G' (rst r sp pc false (rsSt K)) f W) :
    Calls Tryz.prog 21 #[.pointer (some ⟨b, 0, none⟩), .slice (some ⟨gm, 0, none⟩) 65536 65536, .int .i64 l] W fun e w' => e = .returned (.int .i64 0) ∧ Bun w b gm p G' (rst r sp pc false (rsSt K)) f w' := by
  have := bun_cycle l h k v hf hl
  rw [show (rst r sp pc false (rsSt K)).rdV f = 0 by unfold St.rdV; rw [rs_next]; rfl, show (rst r sp pc false (rsSt K)).wrM f = f by unfold St.wrM; rw [rs_next]; rfl, rs_idle K l hk] at this
  exact this
theorem rs_wakes {w : World} {b gm p : Nat} {G' : Rg} {r : Nat → Int} {sp pc : Int} {f : Nat → Int} (K : Nat) (k : Bks w b gm p) (v : (rst r sp pc false (rsSt K)).Inv) (hf : Byt f) (l : Int) (hl : I64 l) (hk : K < 2) (h0 : l % 32 ≠ 0) (W : World) (h : Bun w b gm p G' (rst r sp pc false (rsSt K)) f W) :
    Calls Tryz.prog 21 #[.pointer (some ⟨b, 0, none⟩), .slice (some ⟨gm, 0, none⟩) 65536 65536, .int .i64 l] W fun e w' => e = .returned (.int .i64 0) ∧ Bun w b gm p G' (bd r sp pc false) f w' ∧ (bd r sp pc false).Inv := by
  have hi := tick_inv _ v 0 l
  have := bun_cycle l h k v hf hl
  rw [show (rst r sp pc false (rsSt K)).rdV f = 0 by unfold St.rdV; rw [rs_next]; rfl, show (rst r sp pc false (rsSt K)).wrM f = f by unfold St.wrM; rw [rs_next]; rfl, rs_wake K hk l h0] at this
  rw [rs_wake K hk l h0] at hi
  exact this.mono fun e w' ⟨he, hb⟩ => ⟨he, hb, hi⟩
theorem bd_want {w : World} {b gm p : Nat} {G' : Rg} {r : Nat → Int} {sp pc : Int} {ime : Bool} {f : Nat → Int} (k : Bks w b gm p) (v : (bd r sp pc ime).Inv) (W : World) (h : Bun w b gm p G' (bd r sp pc ime) f W) :
    Calls Tryz.prog 20 #[.pointer (some ⟨b, 0, none⟩)] W fun e w' => e = .returned (.agg #[.int .i64 1, .int .i64 pc, .int .i64 0]) ∧ Bun w b gm p G' (bd r sp pc ime) f w' ∧ Up W w' := by
  have := bun_want h k v
  rw [show (bd r sp pc ime).next = 2 by kernel_rfl] at this
  rw [show wantsK 2 = 1 by kernel_rfl, show (bd r sp pc ime).at 2 = pc by kernel_rfl, show (bd r sp pc ime).data 2 = 0 by kernel_rfl] at this
  exact this
theorem shl5 (n : Nat) (h : n < 5) : I64 (wrap64 (2 ^ n)) ∧ (wrap64 (2 ^ n)) % 32 ≠ 0 := by
  have : n = 0 ∨ n = 1 ∨ n = 2 ∨ n = 3 ∨ n = 4 := by omega
  rcases this with rfl | rfl | rfl | rfl | rfl <;> (unfold I64; decide +kernel)
set_option maxRecDepth 100000 in
set_option maxHeartbeats 1000000 in
theorem rests_walk (g : Rg) (i : g.In) (wh idl ln : Int) (hwh : I64 wh) (hid : I64 idl) (hln : I64 ln) (w : World) (hB : LaidB w) :
    Calls Tryz.prog 7 #[.agg g.cells, .int .i64 wh, .int .i64 idl, .int .i64 ln] w fun e w' => e = .returned (.bool true) ∧ Up w w' := by
  have HB : Hid (∀ W, Calls Tryz.prog 14 #[.agg #[.int .i64 g.a, .int .i64 g.f, .int .i64 g.b, .int .i64 g.c, .int .i64 g.d, .int .i64 g.e, .int .i64 g.h, .int .i64 g.l, .int .i64 g.sp, .int .i64 g.pc, .bool g.ime, .int .i64 g.state]] W fun e w' => e = .returned (.agg (bnd g).cells) ∧ Up W w') := fun W => bounded_any g i W
  have o := bnd_ok g
  have hst : (bnd g).state = 0 := rfl
  obtain ⟨K, hK⟩ : ∃ K : Nat, (K : Int) = pickI wh 13 := ⟨(pickI wh 13).toNat, by have := pickI_lo wh 13 (by decide); omega⟩
  have hK13 : K < 13 := by have := pickI_hi wh 13 (by decide); omega
  have HP1 : Hid (∀ W, Calls Tryz.prog 15 #[.int .i64 wh, .int .i64 13] W fun e w' => e = .returned (.int .i64 K) ∧ w' = W) := fun W => by rw [hK]; exact pick_any wh 13 W hwh (by decide) (by decide)
  generalize hGG : bnd g = G at HB o hst
  have HS0 : Hid (G.state = 0) := hst
  clear hst
  obtain ⟨n40, hn40⟩ : ∃ n : Nat, (n : Int) = pickI idl 40 := ⟨(pickI idl 40).toNat, by have := pickI_lo idl 40 (by decide); omega⟩
  have hn40b : n40 < 40 := by have := pickI_hi idl 40 (by decide); omega
  have HP2 : Hid (∀ W, Calls Tryz.prog 15 #[.int .i64 idl, .int .i64 40] W fun e w' => e = .returned (.int .i64 n40) ∧ w' = W) := fun W => by rw [hn40]; exact pick_any idl 40 W hid (by decide) (by decide)
  obtain ⟨n5, hn5⟩ : ∃ n : Nat, (n : Int) = pickI ln 5 := ⟨(pickI ln 5).toNat, by have := pickI_lo ln 5 (by decide); omega⟩
  have hn5b : n5 < 5 := by have := pickI_hi ln 5 (by decide); omega
  have HP3 : Hid (∀ W, Calls Tryz.prog 15 #[.int .i64 ln, .int .i64 5] W fun e w' => e = .returned (.int .i64 n5) ∧ w' = W) := fun W => by rw [hn5]; exact pick_any ln 5 W hln (by decide) (by decide)
  have o512 : ({ G with pc := 512, ime := false } : Rg).Ok := { o with pc := (show (0 : Int) ≤ 512 ∧ (512 : Int) ≤ 65535 by decide) }
  have HSt : Hid (∀ W, Calls Tryz.prog 16 #[.agg #[.int .i64 G.a, .int .i64 G.f, .int .i64 G.b, .int .i64 G.c, .int .i64 G.d, .int .i64 G.e, .int .i64 G.h, .int .i64 G.l, .int .i64 G.sp, .int .i64 512, .bool false, .int .i64 G.state]] W fun e w' => ∃ b, e = .returned (.pointer (some ⟨b, 0, none⟩)) ∧ W.heap.size ≤ b ∧ Cp w' b (bd (rgF G) G.sp 512 false) ∧ Up W w') := fun W => started_ok { G with pc := 512, ime := false } o512 HS0.out W
  have HIv : Hid (bd (rgF G) G.sp 512 false).Inv := bd_inv { G with pc := 512, ime := false } o512 HS0.out
  clear hGG i hwh hid hln o512 hK hn40 hn5
  have HLB : Hid (LaidB w) := hB
  clear hB
  rw [show g.cells = #[.int .i64 g.a, .int .i64 g.f, .int .i64 g.b, .int .i64 g.c, .int .i64 g.d, .int .i64 g.e, .int .i64 g.h, .int .i64 g.l, .int .i64 g.sp, .int .i64 g.pc, .bool g.ime, .int .i64 g.state] from rfl]
  go_enter Tryz.func7, Tryz.ntmps7
  go_wp2_with (first
    | (go_at_call 14; refine (HB.out _).mono ?_; rintro e w2 ⟨rfl, hu2⟩
       have u2 : Up w w2 := ((Up.refl w).alloc _).trans hu2
       have HN2 : Hid (∀ o, (w2.alloc o).heap[w2.heap.size]? = some o) := heap_alloc_new w2
       have HX2 : Hid _ := rgNew w2 G
       clear hu2)
    | (refine wpList_store_rowTo rfl 23 _ _ rfl rfl w2.heap.size G.cells rfl rfl 23 #[.int .i64 0, .int .i64 0, .int .i64 0, .int .i64 0, .int .i64 0, .int .i64 0, .int .i64 0, .int .i64 0, .int .i64 0, .int .i64 0, .bool false, .int .i64 0] (HN2.out _) (by kernel_rfl) rfl (rgOne G) ?_
       generalize hW3 : World.setRow _ _ _ = W3
       obtain ⟨hg3, hu3⟩ := HX2.out W3 _ hW3
       have u3 := u2.trans hu3
       have hl3 : w2.heap.size < W3.heap.size := (Array.getElem?_eq_some_iff.1 hg3).1
       obtain ⟨r0, r1, r2, r3, r4, r5, r6, r7, r8, r9, r10, r11⟩ := regBlock G hg3
       have HG3 : Hid (RgAt W3 w2.heap.size G) := hg3
       have hz3 := u2.size
       have fz9 : W3.frozen? ⟨w2.heap.size, 9, none⟩ = false := by simp [World.frozen?, hg3]
       have fz10 : W3.frozen? ⟨w2.heap.size, 10, none⟩ = false := by simp [World.frozen?, hg3]
       clear hW3 hu3 hg3 u2 HX2 HN2)
    | (go_at_call 15; refine (HP1.out _).mono ?_; rintro e w' ⟨rfl, rfl⟩)
    | (go_at_call 16; rw [rsVal K hK13]; refine (HSt.out _).mono ?_; rintro e w4 ⟨b, rfl, hbs, h4, hu4⟩
       have hbs' : W3.heap.size ≤ b := by simp at hbs; omega
       have u4 : Up w w4 := (((u3.setCell (p := ⟨w2.heap.size, 9, none⟩) hz3 _).setCell (p := ⟨w2.heap.size, 10, none⟩) hz3 _).alloc _).trans hu4
       have hr4 : RgAt w4 w2.heap.size { G with pc := 512, ime := false } := (((HG3.out.set (H := { G with pc := 512 }) 9 _ rfl).set (H := { G with pc := 512, ime := false }) 10 _ rfl).up ((Up.refl _).alloc _)).up hu4
       clear hbs hu4 r0 r1 r2 r3 r4 r5 r6 r7 r8 r9 r10 r11 fz9 fz10))
  generalize hW5 : World.alloc (World.alloc w4 _) _ = W5
  have hPc : Pcs W5 (w4.heap.size + 1) [⟨512, [rsOp K, 0, 60]⟩] := by rw [← hW5]; exact pcs1 w4 512 [rsOp K, 0, 60] (by unfold I64; decide) (rs_byt K) (by simp)
  have u45 : Up w4 W5 := by rw [← hW5]; exact ((Up.refl w4).alloc _).alloc _
  clear hW5
  refine (mem_one (w4.heap.size + 1) 512 [rsOp K, 0, 60] W5 hPc).mono ?_
  rintro e w6 ⟨rfl, m6, hu6⟩
  obtain ⟨hS6, hKs⟩ := bun_mk u4 HLB.out h4 (by have := u3.size; omega) hr4.lt hr4 (by omega) u45 hu6 m6
  have hRu : Hid _ := bun_runs (rs_run K hK13 (rgF G) G.sp false) hS6 hKs HIv.out (mem1_byt 512 _ (rs_byt K))
  have HIq : Hid _ := ((rs_run K hK13 (rgF G) G.sp false).inv HIv.out (mem1_byt 512 _ (rs_byt K))).1
  have HBy : Hid _ := mem1_byt 512 _ (rs_byt K)
  have HKs : Hid _ := hKs
  obtain ⟨p, hp⟩ : ∃ p, p = w2.heap.size := ⟨_, rfl⟩
  obtain ⟨gm, hgm⟩ : ∃ gm, gm = W5.heap.size := ⟨_, rfl⟩
  rw [← hp, ← hgm] at hRu HKs
  rw [← hp, ← hgm]
  clear hp hgm hS6 hKs m6 hu6 u45 hPc hr4 h4 u4 hl3 hz3 HG3 u3 hbs' HSt HB HP1 o HS0
  go_wp2_with fail
  refine Calls.mono hRu.out ?_
  rintro e w7 ⟨rfl, hS7⟩
  have HS7 : Hid _ := hS7
  clear hS7 hRu
  have HWa : Hid _ := rs_want (G' := { G with pc := 512, ime := false }) (f := mem1 512 [rsOp K, 0, 60]) K HKs.out HIq.out
  have HRe : Hid _ := fun W hW => bun_regs (w := w) (b := b) (gm := gm) (p := p) (W := W) (G := { G with pc := 512, ime := false }) (f := mem1 512 [rsOp K, 0, 60]) hW HIq.out
  have HCy : Hid _ := rs_cycle (G' := { G with pc := 512, ime := false }) (f := mem1 512 [rsOp K, 0, 60]) K HKs.out HIq.out HBy.out
  have HWk : Hid _ := rs_wakes (G' := { G with pc := 512, ime := false }) (f := mem1 512 [rsOp K, 0, 60]) K HKs.out HIq.out HBy.out
  have hz : (toRg (rst (rgF G) G.sp (rsPc K 512) false (rsSt K))) = { G with pc := rsPc K 512, ime := false, state := rsSt K } := rfl
  rw [hz] at HRe
  clear hz
  rcases rs_case K with ⟨hk, e1, e2⟩ | ⟨hk, e1, e2⟩ | ⟨hk, e1, e2⟩
  · subst hk
    rw [e2] at HS7 HWa HCy HWk HRe
    generalize hs : rst (rgF G) G.sp 513 false (rsSt 0) = s at HS7 HWa HCy HWk HRe
    clear hs
    rw [e1] at HRe
    clear e1 e2
    generalize hf : mem1 512 [rsOp 0, 0, 60] = f at HS7 HWa HCy HWk HRe
    clear hf
    obtain ⟨T, hT⟩ : ∃ T : Rg, T = ({ G with pc := 513, ime := false, state := 1 } : Rg) := ⟨_, rfl⟩
    rw [← hT] at HRe
    have t0 : T.a = G.a := by rw [hT]
    have t9 : T.pc = 513 := by rw [hT]
    have t11 : T.state = 1 := by rw [hT]
    clear hT
    have HT : Hid (T.a = G.a ∧ T.pc = 513 ∧ T.state = 1) := ⟨t0, t9, t11⟩
    clear t0 t9 t11
    go_wp2_with (first
      | (go_at_call 15; refine (HP2.out _).mono ?_; rintro e w' ⟨rfl, rfl⟩))
    go_loopw [18] (fun I wr => ∃ j : Nat, j ≤ n40 + 1 ∧ I = .int .i64 ((j : Int) - 1) ∧ Hid (Bun w b gm p { G with pc := 512, ime := false } s f wr)) (fun I _ => (intOf I + 1).toNat)
    case atStart => exact ⟨n40 + 1, by omega, by simp, HS7⟩
    case round =>
      obtain ⟨j, hj, rfl, hS⟩ := hrel
      rcases Nat.eq_zero_or_pos j with rfl | hjp
      · rw [show ((0 : Nat) : Int) - 1 = -1 by omega]
        go_wp2_with (first
          | (go_at_call 15; refine (HP3.out _).mono ?_; rintro e w' ⟨rfl, rfl⟩))
        have hLb := shl5 n5 hn5b
        generalize wrap64 (2 ^ n5) = L at hLb ⊢
        refine (HWk.out L hLb.1 (by decide) hLb.2 _ (by exact hS.out)).mono ?_
        rintro e w12 ⟨rfl, hS12, hI12⟩
        have HS12 : Hid _ := hS12
        have HW2 : Hid _ := bd_want (f := f) HKs.out hI12 w12 hS12
        have HR2 : Hid _ := fun W hW => bun_regs (w := w) (b := b) (gm := gm) (p := p) (W := W) (G := { G with pc := 512, ime := false }) (f := f) hW hI12
        obtain ⟨T2, hT2⟩ : ∃ T2 : Rg, T2 = toRg (bd (rgF G) G.sp 513 false) := ⟨_, rfl⟩
        rw [← hT2] at HR2
        have HT2 : Hid (T2.state = 0) := by rw [hT2]; rfl
        clear hT2 hS12
        go_wp2_with (first
          | (go_at_call 20; refine Calls.mono HW2.out ?_; rintro e w8 ⟨rfl, hS8, hu8⟩
             have HS8 : Hid _ := hS8
             clear hS8 hu8)
          | (go_at_call 19; refine (HR2.out _ (by exact HS8.out.ups ((Up.refl w8).alloc _))).mono ?_; rintro e w9 ⟨rfl, hS9, hu9⟩
             have HS9 : Hid _ := hS9
             have y0 : w9.cell? ⟨w8.heap.size, 0, none⟩ = some (.int .i64 1) := (hu9.cell (by simp)).trans (by simp)
             have y1 : w9.cell? ⟨w8.heap.size, 1, none⟩ = some (.int .i64 513) := (hu9.cell (by simp)).trans (by simp)
             have y2 : w9.cell? ⟨w8.heap.size, 2, none⟩ = some (.int .i64 0) := (hu9.cell (by simp)).trans (by simp)
             have hl9 : w8.heap.size < w9.heap.size := by have := hu9.size; simp at this; omega
             have HN9 : Hid (∀ o, (w9.alloc o).heap[w9.heap.size]? = some o) := heap_alloc_new w9
             have HX9 : Hid _ := rgNew w9 T2
             clear hS9 hu9)
          | (refine wpList_store_rowTo rfl 23 _ _ rfl rfl w9.heap.size T2.cells rfl rfl 23 #[.int .i64 0, .int .i64 0, .int .i64 0, .int .i64 0, .int .i64 0, .int .i64 0, .int .i64 0, .int .i64 0, .int .i64 0, .int .i64 0, .bool false, .int .i64 0] (HN9.out _) (by kernel_rfl) rfl (rgOne T2) ?_
             generalize hW10 : World.setRow _ _ _ = W10
             obtain ⟨hg10, hu10⟩ := HX9.out W10 _ hW10
             have HS10 : Hid _ := HS9.out.ups hu10
             have z0 := (hu10.cell hl9).trans y0
             have z1 := (hu10.cell hl9).trans y1
             have z2 := (hu10.cell hl9).trans y2
             have t11 : W10.cell? ⟨w9.heap.size, 11, none⟩ = some (.int .i64 0) := by rw [← HT2.out]; exact (regBlock T2 hg10).2.2.2.2.2.2.2.2.2.2.2
             clear hW10 hu10 hg10 y0 y1 y2 HX9 HN9))
        go_ret
        exact ⟨rfl, HS10.out.up.trans (by first | exact Up.drewN W10 _ | exact (Up.refl W10).drew | exact Up.refl W10)⟩
      · obtain ⟨i, rfl⟩ : ∃ i, j = i + 1 := ⟨j - 1, by omega⟩
        rw [show ((i + 1 : Nat) : Int) - 1 = (i : Int) by omega]
        have hi40 : (i : Int) < 40 := by omega
        go_wp2_with (first
          | (go_at_call 20; refine (HWa.out _ (by exact hS.out)).mono ?_; rintro e w8 ⟨rfl, hS8, hu8⟩
             have HS8 : Hid _ := hS8
             clear hS8 hu8)
          | (go_at_call 19; refine (HRe.out _ (by exact HS8.out.ups ((Up.refl w8).alloc _))).mono ?_; rintro e w9 ⟨rfl, hS9, hu9⟩
             have HS9 : Hid _ := hS9
             have y0 : w9.cell? ⟨w8.heap.size, 0, none⟩ = some (.int .i64 0) := (hu9.cell (by simp)).trans (by simp)
             have y1 : w9.cell? ⟨w8.heap.size, 1, none⟩ = some (.int .i64 0) := (hu9.cell (by simp)).trans (by simp)
             have y2 : w9.cell? ⟨w8.heap.size, 2, none⟩ = some (.int .i64 0) := (hu9.cell (by simp)).trans (by simp)
             have hl9 : w8.heap.size < w9.heap.size := by have := hu9.size; simp at this; omega
             have HN9 : Hid (∀ o, (w9.alloc o).heap[w9.heap.size]? = some o) := heap_alloc_new w9
             have HX9 : Hid _ := rgNew w9 T
             clear hS9 hu9)
          | (refine wpList_store_rowTo rfl 23 _ _ rfl rfl w9.heap.size T.cells rfl rfl 23 #[.int .i64 0, .int .i64 0, .int .i64 0, .int .i64 0, .int .i64 0, .int .i64 0, .int .i64 0, .int .i64 0, .int .i64 0, .int .i64 0, .bool false, .int .i64 0] (HN9.out _) (by kernel_rfl) rfl (rgOne T) ?_
             generalize hW10 : World.setRow _ _ _ = W10
             obtain ⟨hg10, hu10⟩ := HX9.out W10 _ hW10
             have HS10 : Hid _ := HS9.out.ups hu10
             have z0 := (hu10.cell hl9).trans y0
             have z1 := (hu10.cell hl9).trans y1
             have z2 := (hu10.cell hl9).trans y2
             have t0 : W10.cell? ⟨w9.heap.size, 0, none⟩ = some (.int .i64 G.a) := by rw [← HT.out.1]; exact (regBlock T hg10).1
             have t9 : W10.cell? ⟨w9.heap.size, 9, none⟩ = some (.int .i64 513) := by rw [← HT.out.2.1]; exact (regBlock T hg10).2.2.2.2.2.2.2.2.2.1
             have t11 : W10.cell? ⟨w9.heap.size, 11, none⟩ = some (.int .i64 1) := by rw [← HT.out.2.2]; exact (regBlock T hg10).2.2.2.2.2.2.2.2.2.2.2
             have ga : W10.cell? ⟨p, 0, none⟩ = some (.int .i64 G.a) := (regBlock _ HS10.out.reg).1
             clear hW10 hu10 hg10 y0 y1 y2 HX9 HN9)
          | (go_at_call 21; refine (HCy.out 0 (by unfold I64; omega) (.inr (by decide)) _ (by first | exact HS10.out | exact HS10.out.ups ((Up.refl W10).drew) | exact HS10.out.ups (Up.drewN W10 _))).mono ?_; rintro e w11 ⟨rfl, hS11⟩
             have HS11 : Hid _ := hS11
             clear hS11))
        go_roundw
        case rel => exact ⟨i, by omega, by simp, HS11⟩
        case measure => simp [intOf]
  · subst hk
    rw [e2] at HS7 HWa HCy HWk HRe
    generalize hs : rst (rgF G) G.sp 514 false (rsSt 1) = s at HS7 HWa HCy HWk HRe
    clear hs
    rw [e1] at HRe
    clear e1 e2
    generalize hf : mem1 512 [rsOp 1, 0, 60] = f at HS7 HWa HCy HWk HRe
    clear hf
    obtain ⟨T, hT⟩ : ∃ T : Rg, T = ({ G with pc := 514, ime := false, state := 2 } : Rg) := ⟨_, rfl⟩
    rw [← hT] at HRe
    have t0 : T.a = G.a := by rw [hT]
    have t9 : T.pc = 514 := by rw [hT]
    have t11 : T.state = 2 := by rw [hT]
    clear hT
    have HT : Hid (T.a = G.a ∧ T.pc = 514 ∧ T.state = 2) := ⟨t0, t9, t11⟩
    clear t0 t9 t11
    go_wp2_with (first
      | (go_at_call 15; refine (HP2.out _).mono ?_; rintro e w' ⟨rfl, rfl⟩))
    go_loopw [18] (fun I wr => ∃ j : Nat, j ≤ n40 + 1 ∧ I = .int .i64 ((j : Int) - 1) ∧ Hid (Bun w b gm p { G with pc := 512, ime := false } s f wr)) (fun I _ => (intOf I + 1).toNat)
    case atStart => exact ⟨n40 + 1, by omega, by simp, HS7⟩
    case round =>
      obtain ⟨j, hj, rfl, hS⟩ := hrel
      rcases Nat.eq_zero_or_pos j with rfl | hjp
      · rw [show ((0 : Nat) : Int) - 1 = -1 by omega]
        go_wp2_with (first
          | (go_at_call 15; refine (HP3.out _).mono ?_; rintro e w' ⟨rfl, rfl⟩))
        have hLb := shl5 n5 hn5b
        generalize wrap64 (2 ^ n5) = L at hLb ⊢
        refine (HWk.out L hLb.1 (by decide) hLb.2 _ (by exact hS.out)).mono ?_
        rintro e w12 ⟨rfl, hS12, hI12⟩
        have HS12 : Hid _ := hS12
        have HW2 : Hid _ := bd_want (f := f) HKs.out hI12 w12 hS12
        have HR2 : Hid _ := fun W hW => bun_regs (w := w) (b := b) (gm := gm) (p := p) (W := W) (G := { G with pc := 512, ime := false }) (f := f) hW hI12
        obtain ⟨T2, hT2⟩ : ∃ T2 : Rg, T2 = toRg (bd (rgF G) G.sp 514 false) := ⟨_, rfl⟩
        rw [← hT2] at HR2
        have HT2 : Hid (T2.state = 0) := by rw [hT2]; rfl
        clear hT2 hS12
        go_wp2_with (first
          | (go_at_call 20; refine Calls.mono HW2.out ?_; rintro e w8 ⟨rfl, hS8, hu8⟩
             have HS8 : Hid _ := hS8
             clear hS8 hu8)
          | (go_at_call 19; refine (HR2.out _ (by exact HS8.out.ups ((Up.refl w8).alloc _))).mono ?_; rintro e w9 ⟨rfl, hS9, hu9⟩
             have HS9 : Hid _ := hS9
             have y0 : w9.cell? ⟨w8.heap.size, 0, none⟩ = some (.int .i64 1) := (hu9.cell (by simp)).trans (by simp)
             have y1 : w9.cell? ⟨w8.heap.size, 1, none⟩ = some (.int .i64 514) := (hu9.cell (by simp)).trans (by simp)
             have y2 : w9.cell? ⟨w8.heap.size, 2, none⟩ = some (.int .i64 0) := (hu9.cell (by simp)).trans (by simp)
             have hl9 : w8.heap.size < w9.heap.size := by have := hu9.size; simp at this; omega
             have HN9 : Hid (∀ o, (w9.alloc o).heap[w9.heap.size]? = some o) := heap_alloc_new w9
             have HX9 : Hid _ := rgNew w9 T2
             clear hS9 hu9)
          | (refine wpList_store_rowTo rfl 23 _ _ rfl rfl w9.heap.size T2.cells rfl rfl 23 #[.int .i64 0, .int .i64 0, .int .i64 0, .int .i64 0, .int .i64 0, .int .i64 0, .int .i64 0, .int .i64 0, .int .i64 0, .int .i64 0, .bool false, .int .i64 0] (HN9.out _) (by kernel_rfl) rfl (rgOne T2) ?_
             generalize hW10 : World.setRow _ _ _ = W10
             obtain ⟨hg10, hu10⟩ := HX9.out W10 _ hW10
             have HS10 : Hid _ := HS9.out.ups hu10
             have z0 := (hu10.cell hl9).trans y0
             have z1 := (hu10.cell hl9).trans y1
             have z2 := (hu10.cell hl9).trans y2
             have t11 : W10.cell? ⟨w9.heap.size, 11, none⟩ = some (.int .i64 0) := by rw [← HT2.out]; exact (regBlock T2 hg10).2.2.2.2.2.2.2.2.2.2.2
             clear hW10 hu10 hg10 y0 y1 y2 HX9 HN9))
        go_ret
        exact ⟨rfl, HS10.out.up.trans (by first | exact Up.drewN W10 _ | exact (Up.refl W10).drew | exact Up.refl W10)⟩
      · obtain ⟨i, rfl⟩ : ∃ i, j = i + 1 := ⟨j - 1, by omega⟩
        rw [show ((i + 1 : Nat) : Int) - 1 = (i : Int) by omega]
        have hi40 : (i : Int) < 40 := by omega
        go_wp2_with (first
          | (go_at_call 20; refine (HWa.out _ (by exact hS.out)).mono ?_; rintro e w8 ⟨rfl, hS8, hu8⟩
             have HS8 : Hid _ := hS8
             clear hS8 hu8)
          | (go_at_call 19; refine (HRe.out _ (by exact HS8.out.ups ((Up.refl w8).alloc _))).mono ?_; rintro e w9 ⟨rfl, hS9, hu9⟩
             have HS9 : Hid _ := hS9
             have y0 : w9.cell? ⟨w8.heap.size, 0, none⟩ = some (.int .i64 0) := (hu9.cell (by simp)).trans (by simp)
             have y1 : w9.cell? ⟨w8.heap.size, 1, none⟩ = some (.int .i64 0) := (hu9.cell (by simp)).trans (by simp)
             have y2 : w9.cell? ⟨w8.heap.size, 2, none⟩ = some (.int .i64 0) := (hu9.cell (by simp)).trans (by simp)
             have hl9 : w8.heap.size < w9.heap.size := by have := hu9.size; simp at this; omega
             have HN9 : Hid (∀ o, (w9.alloc o).heap[w9.heap.size]? = some o) := heap_alloc_new w9
             have HX9 : Hid _ := rgNew w9 T
             clear hS9 hu9)
          | (refine wpList_store_rowTo rfl 23 _ _ rfl rfl w9.heap.size T.cells rfl rfl 23 #[.int .i64 0, .int .i64 0, .int .i64 0, .int .i64 0, .int .i64 0, .int .i64 0, .int .i64 0, .int .i64 0, .int .i64 0, .int .i64 0, .bool false, .int .i64 0] (HN9.out _) (by kernel_rfl) rfl (rgOne T) ?_
             generalize hW10 : World.setRow _ _ _ = W10
             obtain ⟨hg10, hu10⟩ := HX9.out W10 _ hW10
             have HS10 : Hid _ := HS9.out.ups hu10
             have z0 := (hu10.cell hl9).trans y0
             have z1 := (hu10.cell hl9).trans y1
             have z2 := (hu10.cell hl9).trans y2
             have t0 : W10.cell? ⟨w9.heap.size, 0, none⟩ = some (.int .i64 G.a) := by rw [← HT.out.1]; exact (regBlock T hg10).1
             have t9 : W10.cell? ⟨w9.heap.size, 9, none⟩ = some (.int .i64 514) := by rw [← HT.out.2.1]; exact (regBlock T hg10).2.2.2.2.2.2.2.2.2.1
             have t11 : W10.cell? ⟨w9.heap.size, 11, none⟩ = some (.int .i64 2) := by rw [← HT.out.2.2]; exact (regBlock T hg10).2.2.2.2.2.2.2.2.2.2.2
             have ga : W10.cell? ⟨p, 0, none⟩ = some (.int .i64 G.a) := (regBlock _ HS10.out.reg).1
             clear hW10 hu10 hg10 y0 y1 y2 HX9 HN9)
          | (go_at_call 21; refine (HCy.out 0 (by unfold I64; omega) (.inr (by decide)) _ (by first | exact HS10.out | exact HS10.out.ups ((Up.refl W10).drew) | exact HS10.out.ups (Up.drewN W10 _))).mono ?_; rintro e w11 ⟨rfl, hS11⟩
             have HS11 : Hid _ := hS11
             clear hS11))
        go_roundw
        case rel => exact ⟨i, by omega, by simp, HS11⟩
        case measure => simp [intOf]
  · have f0 : ((K : Int) == 0) = false := by simp; omega
    have f1 : ((K : Int) == 1) = false := by simp; omega
    have f2 : decide (1 < (K : Int)) = true := by simp; omega
    have hk1 : 1 < (K : Int) := by omega
    rw [e2] at HS7 HWa HCy HWk HRe
    generalize hs : rst (rgF G) G.sp 513 false (rsSt K) = s at HS7 HWa HCy HWk HRe
    clear hs
    rw [e1] at HRe
    clear e1 e2
    generalize hf : mem1 512 [rsOp K, 0, 60] = f at HS7 HWa HCy HWk HRe
    clear hf
    obtain ⟨T, hT⟩ : ∃ T : Rg, T = ({ G with pc := 513, ime := false, state := 3 } : Rg) := ⟨_, rfl⟩
    rw [← hT] at HRe
    have t0 : T.a = G.a := by rw [hT]
    have t9 : T.pc = 513 := by rw [hT]
    have t11 : T.state = 3 := by rw [hT]
    clear hT
    have HT : Hid (T.a = G.a ∧ T.pc = 513 ∧ T.state = 3) := ⟨t0, t9, t11⟩
    clear t0 t9 t11
    go_wp2_with (first
      | (go_at_call 15; refine (HP2.out _).mono ?_; rintro e w' ⟨rfl, rfl⟩))
    go_loopw [18] (fun I wr => ∃ j : Nat, j ≤ n40 + 1 ∧ I = .int .i64 ((j : Int) - 1) ∧ Hid (Bun w b gm p { G with pc := 512, ime := false } s f wr)) (fun I _ => (intOf I + 1).toNat)
    case atStart => exact ⟨n40 + 1, by omega, by simp, HS7⟩
    case round =>
      obtain ⟨j, hj, rfl, hS⟩ := hrel
      rcases Nat.eq_zero_or_pos j with rfl | hjp
      · rw [show ((0 : Nat) : Int) - 1 = -1 by omega]
        go_wp2_with (first
          | (go_at_call 15; refine (HP3.out _).mono ?_; rintro e w' ⟨rfl, rfl⟩))
        have hLb := shl5 n5 hn5b
        generalize wrap64 (2 ^ n5) = L at hLb ⊢
        refine (HCy.out L hLb.1 (.inl (by omega)) _ (by exact hS.out)).mono ?_
        rintro e w12 ⟨rfl, hS12⟩
        have HS12 : Hid _ := hS12
        have HW2 : Hid _ := HWa.out w12 hS12
        have HR2 : Hid _ := HRe.out
        obtain ⟨T2, hT2⟩ : ∃ T2 : Rg, T2 = T := ⟨_, rfl⟩
        rw [← hT2] at HR2
        have HT2 : Hid (T2.state = 3) := by rw [hT2]; exact HT.out.2.2
        clear hT2 hS12
        go_wp2_with (first
          | (go_at_call 20; refine Calls.mono HW2.out ?_; rintro e w8 ⟨rfl, hS8, hu8⟩
             have HS8 : Hid _ := hS8
             clear hS8 hu8)
          | (go_at_call 19; refine (HR2.out _ (by exact HS8.out.ups ((Up.refl w8).alloc _))).mono ?_; rintro e w9 ⟨rfl, hS9, hu9⟩
             have HS9 : Hid _ := hS9
             have y0 : w9.cell? ⟨w8.heap.size, 0, none⟩ = some (.int .i64 0) := (hu9.cell (by simp)).trans (by simp)
             have y1 : w9.cell? ⟨w8.heap.size, 1, none⟩ = some (.int .i64 0) := (hu9.cell (by simp)).trans (by simp)
             have y2 : w9.cell? ⟨w8.heap.size, 2, none⟩ = some (.int .i64 0) := (hu9.cell (by simp)).trans (by simp)
             have hl9 : w8.heap.size < w9.heap.size := by have := hu9.size; simp at this; omega
             have HN9 : Hid (∀ o, (w9.alloc o).heap[w9.heap.size]? = some o) := heap_alloc_new w9
             have HX9 : Hid _ := rgNew w9 T2
             clear hS9 hu9)
          | (refine wpList_store_rowTo rfl 23 _ _ rfl rfl w9.heap.size T2.cells rfl rfl 23 #[.int .i64 0, .int .i64 0, .int .i64 0, .int .i64 0, .int .i64 0, .int .i64 0, .int .i64 0, .int .i64 0, .int .i64 0, .int .i64 0, .bool false, .int .i64 0] (HN9.out _) (by kernel_rfl) rfl (rgOne T2) ?_
             generalize hW10 : World.setRow _ _ _ = W10
             obtain ⟨hg10, hu10⟩ := HX9.out W10 _ hW10
             have HS10 : Hid _ := HS9.out.ups hu10
             have z0 := (hu10.cell hl9).trans y0
             have z1 := (hu10.cell hl9).trans y1
             have z2 := (hu10.cell hl9).trans y2
             have t11 : W10.cell? ⟨w9.heap.size, 11, none⟩ = some (.int .i64 3) := by rw [← HT2.out]; exact (regBlock T2 hg10).2.2.2.2.2.2.2.2.2.2.2
             clear hW10 hu10 hg10 y0 y1 y2 HX9 HN9))
        go_ret
        exact ⟨rfl, HS10.out.up.trans (by first | exact Up.drewN W10 _ | exact (Up.refl W10).drew | exact Up.refl W10)⟩
      · obtain ⟨i, rfl⟩ : ∃ i, j = i + 1 := ⟨j - 1, by omega⟩
        rw [show ((i + 1 : Nat) : Int) - 1 = (i : Int) by omega]
        have hi40 : (i : Int) < 40 := by omega
        go_wp2_with (first
          | (go_at_call 20; refine (HWa.out _ (by exact hS.out)).mono ?_; rintro e w8 ⟨rfl, hS8, hu8⟩
             have HS8 : Hid _ := hS8
             clear hS8 hu8)
          | (go_at_call 19; refine (HRe.out _ (by exact HS8.out.ups ((Up.refl w8).alloc _))).mono ?_; rintro e w9 ⟨rfl, hS9, hu9⟩
             have HS9 : Hid _ := hS9
             have y0 : w9.cell? ⟨w8.heap.size, 0, none⟩ = some (.int .i64 0) := (hu9.cell (by simp)).trans (by simp)
             have y1 : w9.cell? ⟨w8.heap.size, 1, none⟩ = some (.int .i64 0) := (hu9.cell (by simp)).trans (by simp)
             have y2 : w9.cell? ⟨w8.heap.size, 2, none⟩ = some (.int .i64 0) := (hu9.cell (by simp)).trans (by simp)
             have hl9 : w8.heap.size < w9.heap.size := by have := hu9.size; simp at this; omega
             have HN9 : Hid (∀ o, (w9.alloc o).heap[w9.heap.size]? = some o) := heap_alloc_new w9
             have HX9 : Hid _ := rgNew w9 T
             clear hS9 hu9)
          | (refine wpList_store_rowTo rfl 23 _ _ rfl rfl w9.heap.size T.cells rfl rfl 23 #[.int .i64 0, .int .i64 0, .int .i64 0, .int .i64 0, .int .i64 0, .int .i64 0, .int .i64 0, .int .i64 0, .int .i64 0, .int .i64 0, .bool false, .int .i64 0] (HN9.out _) (by kernel_rfl) rfl (rgOne T) ?_
             generalize hW10 : World.setRow _ _ _ = W10
             obtain ⟨hg10, hu10⟩ := HX9.out W10 _ hW10
             have HS10 : Hid _ := HS9.out.ups hu10
             have z0 := (hu10.cell hl9).trans y0
             have z1 := (hu10.cell hl9).trans y1
             have z2 := (hu10.cell hl9).trans y2
             have t0 : W10.cell? ⟨w9.heap.size, 0, none⟩ = some (.int .i64 G.a) := by rw [← HT.out.1]; exact (regBlock T hg10).1
             have t9 : W10.cell? ⟨w9.heap.size, 9, none⟩ = some (.int .i64 513) := by rw [← HT.out.2.1]; exact (regBlock T hg10).2.2.2.2.2.2.2.2.2.1
             have t11 : W10.cell? ⟨w9.heap.size, 11, none⟩ = some (.int .i64 3) := by rw [← HT.out.2.2]; exact (regBlock T hg10).2.2.2.2.2.2.2.2.2.2.2
             have ga : W10.cell? ⟨p, 0, none⟩ = some (.int .i64 G.a) := (regBlock _ HS10.out.reg).1
             clear hW10 hu10 hg10 y0 y1 y2 HX9 HN9)
          | (go_at_call 21; refine (HCy.out (i : Int) (by unfold I64; omega) (.inl (by omega)) _ (by first | exact HS10.out | exact HS10.out.ups ((Up.refl W10).drew) | exact HS10.out.ups (Up.drewN W10 _))).mono ?_; rintro e w11 ⟨rfl, hS11⟩
             have HS11 : Hid _ := hS11
             clear hS11))
        go_roundw
        case rel => exact ⟨i, by omega, by simp, HS11⟩
        case measure => simp [intOf]
end Go.Proofs.YtgdhodhachijnaaGreatDoor
