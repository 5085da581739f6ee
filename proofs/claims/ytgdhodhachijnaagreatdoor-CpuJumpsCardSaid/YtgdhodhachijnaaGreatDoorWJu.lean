/- CpuJumps: the walk. -/
import Derived.Test.YtgdhodhachijnaaGreatDoorLq
namespace Go.Proofs.YtgdhodhachijnaaGreatDoor
open Go.RowKit
set_option linter.unusedVariables false
theorem lholds_any (c : Nat) (hc : c < 4) (f : Int) (h0 : 0 ≤ f) (h1 : f ≤ 255) (w : World) :
    Calls Tryz.prog 22 #[.int .i64 f, .int .i64 c] w fun e w' => e = .returned (.bool (holdsC c f)) ∧ w' = w := by
  have k0 : ∀ x : Int, 0 ≤ x → x ≤ 255 → (bits .and .i64 x 128 != 0) = (x / 128 % 2 == 1) := byteAll (by decide +kernel)
  have k1 : ∀ x : Int, 0 ≤ x → x ≤ 255 → (bits .and .i64 x 16 != 0) = (x / 16 % 2 == 1) := byteAll (by decide +kernel)
  have k2 : ∀ x : Int, 0 ≤ x → x ≤ 255 → ((x / 128 % 2 == 1) == false) = (x / 128 % 2 == 0) := byteAll (by decide +kernel)
  have k3 : ∀ x : Int, 0 ≤ x → x ≤ 255 → ((x / 16 % 2 == 1) == false) = (x / 16 % 2 == 0) := byteAll (by decide +kernel)
  have e0 := k0 f h0 h1
  have e1 := k1 f h0 h1
  have e2 := k2 f h0 h1
  have e3 := k3 f h0 h1
  clear k0 k1 k2 k3
  have : c = 0 ∨ c = 1 ∨ c = 2 ∨ c = 3 := by omega
  rcases this with rfl | rfl | rfl | rfl
  all_goals
    go_enter Tryz.func22, Tryz.ntmps22
    go_wp2
    go_ret
    exact ⟨retB (by kernel_rfl), rfl⟩
theorem ju_at (pc : Int) (h0 : 0 ≤ pc) (h1 : pc ≤ 65535) (bs : List Int) (hl : bs.length ≤ 1000) : (0 < bs.length → mem1 pc bs pc.toNat = bs.getD 0 0) ∧ (1 < bs.length → mem1 pc bs (adr pc 0) = bs.getD 1 0) ∧ (2 < bs.length → mem1 pc bs (adr pc 1) = bs.getD 2 0) := by
  have k := fun n hn => lay_at (fun _ => 0) pc bs bs.length (by omega) n hn
  refine ⟨fun h => ?_, fun h => ?_, fun h => ?_⟩
  · have := k 0 h
    rw [ladr_in pc 0 h0 (by omega), show ((pc + ((0 : Nat) : Int)) % 65536).toNat = pc.toNat by omega] at this
    exact this
  · have := k 1 h
    rw [ladr_in pc 1 h0 (by omega), show ((pc + ((1 : Nat) : Int)) % 65536).toNat = adr pc 0 by unfold adr; omega] at this
    exact this
  · have := k 2 h
    rw [ladr_in pc 2 h0 (by omega), show ((pc + ((2 : Nat) : Int)) % 65536).toNat = adr pc 1 by unfold adr; omega] at this
    exact this
theorem bunf_runs {w W : World} {b gm p : Nat} {G : Rg} {P Q : Pm} {n : Nat} (hI : Ins P n Q) (h : Bun w b gm p G P.1 P.2 W) (k : Bks w b gm p) (v : P.1.Inv) (hf : Byt P.2) :
    Calls Tryz.prog 18 #[.pointer (some ⟨b, 0, none⟩), .slice (some ⟨gm, 0, none⟩) 65536 65536, .int .i64 1] W fun e w' => e = .returned (.tuple #[.int .i64 n, .bool true]) ∧ Bun w b gm p G Q.1 Q.2 w' ∧ Fr2 b gm W w' :=
  (runs_one hI b gm W h.cp v ⟨h.lb, k.b0⟩ h.mem hf k.gb k.g0).mono fun e w' ⟨he, hc, hm, hF⟩ => ⟨he, h.fr k hF hc hm, hF⟩
theorem Cp.fr2 {w w' : World} {b c g : Nat} {s : St} (h : Cp w b s) (u : Fr2 c g w w') (hc : b ≠ c) (hg : b ≠ g) : Cp w' b s := (u.block b h.lt hc hg).trans h
theorem frRow (w : World) (q : Nat) (cs : Array Value) : Fr q w (w.setRow q cs) := ⟨rfl, rfl, by simp [World.setRow], fun k hk hne => setRow_other _ _ _ _ hne⟩
theorem Cp.fr1 {w w' : World} {b c : Nat} {s : St} (h : Cp w b s) (u : Fr c w w') (hc : b ≠ c) : Cp w' b s := (u.block b h.lt hc).trans h
theorem RgAt.fr1 {W W' : World} {p c : Nat} {G : Rg} (h : RgAt W p G) (u : Fr c W W') (hc : p ≠ c) : RgAt W' p G := (u.block p h.lt hc).trans h
def sgn (e : Int) : Int := if 127 < e then e - 256 else e
theorem sgn_b (e : Int) (h0 : 0 ≤ e) (h1 : e ≤ 255) : -128 ≤ sgn e ∧ sgn e ≤ 127 := by unfold sgn; split <;> omega
theorem sgn_is : ∀ e : Int, 0 ≤ e → e ≤ 255 → IntKind.i8.wrap e = sgn e := byteAll (by decide +kernel)
theorem w64 (n : Int) (h0 : -1000000 ≤ n) (h1 : n ≤ 1000000) : wrap64 n = n := by unfold wrap64; omega
theorem jr_to (pc e : Int) (h0 : 0 ≤ pc) (h1 : pc ≤ 65535) (e0 : 0 ≤ e) (e1 : e ≤ 255) : jrTo pc e = pickI (pc + 2 + sgn e + 65536) 65536 := by
  by_cases he : 127 < e
  · rw [show sgn e = e - 256 from if_pos he]
    unfold pickI jrTo
    rw [show e % 256 = e by omega, if_pos he, if_neg (by omega)]
    omega
  · rw [show sgn e = e from if_neg he]
    unfold pickI jrTo
    rw [show e % 256 = e by omega, if_neg he, if_neg (by omega)]
    omega
theorem jr_no_to (pc : Int) (h0 : 0 ≤ pc) (h1 : pc ≤ 65535) : jrNo pc = pickI (pc + 2 + 65536) 65536 := by
  unfold pickI jrNo
  rw [if_neg (by omega)]
  omega
set_option maxRecDepth 100000 in
set_option maxHeartbeats 1000000 in
theorem jumps_a (g : Rg) (G : Rg) (cond e : Int) (C : Nat) (hc : C = 4) (HO : Hid G.Ok) (HS0 : Hid (G.state = 0)) (y1 : 0 ≤ e) (y2 : e ≤ 255)
    (HB : Hid (∀ W, Calls Tryz.prog 14 #[.agg #[.int .i64 g.a, .int .i64 g.f, .int .i64 g.b, .int .i64 g.c, .int .i64 g.d, .int .i64 g.e, .int .i64 g.h, .int .i64 g.l, .int .i64 g.sp, .int .i64 g.pc, .bool g.ime, .int .i64 g.state]] W fun e w' => e = .returned (.agg G.cells) ∧ Up W w'))
    (HI1 : Hid (I64 cond)) (HCe : Hid (pickI cond 5 = (C : Int)))
    (w : World) (HLB : Hid (LaidB w)) :
    Calls Tryz.prog 9 #[.agg g.cells, .int .i64 cond, .int .u8 e] w fun e w' => e = .returned (.bool true) ∧ Up w w' := by
  subst hc
  have p1 := HO.out.pc.1
  have p2 := HO.out.pc.2
  have b1 := HO.out.b.1
  have b2 := HO.out.b.2




  have HSt : Hid (∀ W, Calls Tryz.prog 16 #[.agg #[.int .i64 G.a, .int .i64 G.f, .int .i64 G.b, .int .i64 G.c, .int .i64 G.d, .int .i64 G.e, .int .i64 G.h, .int .i64 G.l, .int .i64 G.sp, .int .i64 G.pc, .bool G.ime, .int .i64 G.state]] W fun e w' => ∃ b, e = .returned (.pointer (some ⟨b, 0, none⟩)) ∧ W.heap.size ≤ b ∧ Cp w' b (bd (rgF G) G.sp G.pc G.ime) ∧ Up W w') := fun W => started_ok G HO.out HS0.out W
  have HIv : Hid (bd (rgF G) G.sp G.pc G.ime).Inv := bd_inv G HO.out HS0.out
  have hj1 : jrOp 4 = 24 := by rfl
  have hj2 : jpOp 4 = 195 := by rfl
  have HY1 : Hid (∀ x ∈ [jrOp 4, e], 0 ≤ x ∧ x ≤ 255) := by
    intro x hx
    rw [hj1] at hx
    simp only [List.mem_cons, List.not_mem_nil, or_false] at hx
    rcases hx with rfl | rfl <;> omega
  have HY2 : Hid (∀ x ∈ [jpOp 4, e, G.b], 0 ≤ x ∧ x ≤ 255) := by
    intro x hx
    rw [hj2] at hx
    simp only [List.mem_cons, List.not_mem_nil, or_false] at hx
    rcases hx with rfl | rfl | rfl <;> omega
  have HI_1 : Hid (Ins (bd (rgF G) G.sp G.pc G.ime, mem1 G.pc [jrOp 4, e]) 3 (bd (rgF G) G.sp (jrTo G.pc e) G.ime, mem1 G.pc [jrOp 4, e])) := by
    have m := ju_at G.pc p1 p2 [jrOp 4, e] (by simp)
    have m1 := And.intro (m.1 (by simp)) (m.2.1 (by simp))
    exact jr_yes 4 (by omega) (Or.inl rfl) m1.1 m1.2
  have HI_2 : Hid (Ins (bd (rgF G) G.sp G.pc G.ime, mem1 G.pc [jpOp 4, e, G.b]) 4 (bd (rgF G) G.sp (jpTo e G.b) G.ime, mem1 G.pc [jpOp 4, e, G.b])) := by
    have m := ju_at G.pc p1 p2 [jpOp 4, e, G.b] (by simp)
    have m2 := And.intro (m.1 (by simp)) (And.intro (m.2.1 (by simp)) (m.2.2 (by simp)))
    exact jp_yes 4 (by omega) (Or.inl rfl) m2.1 m2.2.1 m2.2.2
  have HI_3 : Hid (Ins (bd (rgF G) G.sp G.pc G.ime, mem1 G.pc [233]) 1 (bd (rgF G) G.sp (wordP G.h G.l) G.ime, mem1 G.pc [233])) := jphl ((ju_at G.pc p1 p2 [233] (by simp)).1 (by simp))

  rw [show g.cells = #[.int .i64 g.a, .int .i64 g.f, .int .i64 g.b, .int .i64 g.c, .int .i64 g.d, .int .i64 g.e, .int .i64 g.h, .int .i64 g.l, .int .i64 g.sp, .int .i64 g.pc, .bool g.ime, .int .i64 g.state] from rfl]
  go_enter Tryz.func9, Tryz.ntmps9
  go_wp2_with (first
    | (go_at_call 14; refine (HB.out _).mono ?_; rintro e w2 ⟨rfl, hu2⟩
       have u2 : Up w w2 := ((Up.refl w).alloc _).trans hu2
       have HN2 : Hid (∀ o, (w2.alloc o).heap[w2.heap.size]? = some o) := heap_alloc_new w2
       have HX2 : Hid _ := rgNew w2 G
       clear hu2)
    | (refine wpList_store_rowTo rfl 23 _ _ rfl rfl w2.heap.size G.cells rfl rfl 23 #[.int .i64 0, .int .i64 0, .int .i64 0, .int .i64 0, .int .i64 0, .int .i64 0, .int .i64 0, .int .i64 0, .int .i64 0, .int .i64 0, .bool false, .int .i64 0] (HN2.out _) (by kernel_rfl) rfl (rgOne G) ?_
       generalize hW3 : World.setRow _ _ _ = W3
       obtain ⟨hg3, hu3⟩ := HX2.out W3 _ hW3
       have u3 := u2.trans hu3
       have hl3 : w2.heap.size < W3.heap.size := (Array.getElem?_eq_some_iff.1 hg3).1
       obtain ⟨r0, r1, r2, r3, r4, r5, r6, r7, r8, r9, r10, r11⟩ := regBlock G hg3
       have HG3 : Hid (RgAt W3 w2.heap.size G) := hg3
       have hz3 := u2.size
       clear hW3 hu3 hg3 u2 HX2 HN2)
    | (go_at_call 15; refine (pick_any _ _ _ (by exact HI1.out) (by decide) (by decide)).mono ?_; rw [HCe.out]; rintro e w' ⟨rfl, rfl⟩)
    )
  refine (HSt.out _).mono ?_
  rintro e_1 w4 ⟨x1, rfl, hbs1, h41, hu4⟩
  have r4 := HG3.out.up hu4
  have u4 := u3.trans hu4
  obtain ⟨q0, q1, q2, q3, q4, q5, q6, q7, q8, q9, q10, q11⟩ := regBlock G r4
  clear r0 r1 r2 r3 r5 r6 r7 r8 r9 r10 r11
  go_wp2_with fail
  refine (HSt.out _).mono ?_
  rintro e_2 w5 ⟨x2, rfl, hbs2, h52, hu5⟩
  clear q0 q1 q2 q3 q4 q5 q6 q7 q8 q9 q10 q11
  obtain ⟨q0, q1, q2, q3, q4, q5, q6, q7, q8, q9, q10, q11⟩ := regBlock G (r4.up hu5)
  go_wp2_with fail
  refine (HSt.out _).mono ?_
  rintro e_3 w6 ⟨x3, rfl, hbs3, h63, hu6⟩
  clear q0 q1 q2 q3 q4 q5 q6 q7 q8 q9 q10 q11
  obtain ⟨q0, q1, q2, q3, q4, q5, q6, q7, q8, q9, q10, q11⟩ := regBlock G ((r4.up hu5).up hu6)
  have c1 : Cp w6 x1 (bd (rgF G) G.sp G.pc G.ime) := h41.up (hu5.trans hu6)
  have c2 : Cp w6 x2 (bd (rgF G) G.sp G.pc G.ime) := h52.up hu6
  have l1 := h41.lt
  have l2 := h52.lt
  have u6 : Up w w6 := u4.trans (hu5.trans hu6)
  have rg6 : RgAt w6 w2.heap.size G := (r4.up hu5).up hu6
  have z3 := u3.size
  obtain ⟨p, hp⟩ : ∃ p, p = w2.heap.size := ⟨_, rfl⟩
  have dd : p < x1 ∧ x1 < x2 ∧ x2 < x3 ∧ w.heap.size ≤ x1 ∧ w.heap.size ≤ p := by
    have := hu5.size
    have := hu4.size
    omega
  rw [← hp] at rg6 q0 q1 q2 q3 q4 q5 q6 q7 q8 q9 q10 q11
  rw [← hp]
  have HX : Hid (Cp w6 x1 (bd (rgF G) G.sp G.pc G.ime) ∧ Cp w6 x2 (bd (rgF G) G.sp G.pc G.ime) ∧ Cp w6 x3 (bd (rgF G) G.sp G.pc G.ime) ∧ Up w w6 ∧ RgAt w6 p G) := ⟨c1, c2, h63, u6, rg6⟩
  have HD : Hid _ := dd
  clear c1 c2 h63 u6 rg6 hp dd z3 l1 l2 u4 r4 hu4 hu5 hu6 h41 h52 hbs1 hbs2 hbs3 u3 hl3 hz3 HG3 HB HSt
  go_wp2_with fail
  rw [← hj1]
  generalize hW7 : World.alloc (World.alloc w6 _) _ = W7
  have hPc : Pcs W7 (w6.heap.size + 1) [⟨G.pc, [jrOp 4, e]⟩] := by rw [← hW7]; exact pcs1 w6 G.pc [jrOp 4, e] (by unfold I64; omega) HY1.out (by simp)
  have u7 : Up w6 W7 := by rw [← hW7]; exact ((Up.refl w6).alloc _).alloc _
  clear hW7
  refine (mem_one (w6.heap.size + 1) G.pc [jrOp 4, e] W7 hPc).mono ?_
  rintro e_4 w8 ⟨rfl, m8, hu8⟩
  obtain ⟨hS8, hK8⟩ := bun_mk HX.out.2.2.2.1 HLB.out HX.out.1 HD.out.2.2.2.1 HX.out.2.2.2.2.lt HX.out.2.2.2.2 (by have := HD.out; omega) u7 hu8 m8
  have hRu : Hid _ := bunf_runs HI_1.out hS8 hK8 HIv.out (mem1_byt G.pc _ HY1.out)
  have HIq : Hid _ := (HI_1.out.inv HIv.out (mem1_byt G.pc _ HY1.out)).1
  have HX8 : Hid (Cp w8 x2 (bd (rgF G) G.sp G.pc G.ime) ∧ Cp w8 x3 (bd (rgF G) G.sp G.pc G.ime) ∧ w6.heap.size ≤ W7.heap.size ∧ x3 < w6.heap.size) := ⟨HX.out.2.1.up (u7.trans hu8), HX.out.2.2.1.up (u7.trans hu8), u7.size, HX.out.2.2.1.lt⟩
  obtain ⟨q0, q1, q2, q3, q4, q5, q6, q7, q8, q9, q10, q11⟩ := regBlock G hS8.reg
  generalize hgm : W7.heap.size = gm at *
  clear hS8 m8 hu8 u7 hPc hgm hK8
  go_wp2_with fail
  refine Calls.mono hRu.out ?_
  rintro e_5 w9 ⟨rfl, hS9, hF9⟩
  have HX9 : Hid (Cp w9 x2 (bd (rgF G) G.sp G.pc G.ime) ∧ Cp w9 x3 (bd (rgF G) G.sp G.pc G.ime)) := by
    have d := HD.out
    have d8 := HX8.out
    exact ⟨Cp.fr2 d8.1 hF9 (by omega) (by omega), Cp.fr2 d8.2.1 hF9 (by omega) (by omega)⟩
  clear q0 q1 q2 q3 q4 q5 q6 q7 q8 q9 q10 q11
  obtain ⟨q0, q1, q2, q3, q4, q5, q6, q7, q8, q9, q10, q11⟩ := regBlock G hS9.reg
  have HRe : Hid _ := bun_regs hS9 HIq.out
  have HS9 : Hid _ := hS9
  clear hS9 hF9 hRu HX8
  go_wp2_with fail
  obtain ⟨PP, hPP⟩ : ∃ P, P = pickI (G.pc + 2 + sgn e + 65536) 65536 := ⟨_, rfl⟩
  obtain ⟨Wv, hWv⟩ : ∃ v, v = G.pc + 2 + sgn e := ⟨_, rfl⟩
  have sb := sgn_b e y1 y2
  have wv1 : 0 ≤ Wv + 65536 := by omega
  have wv2 : Wv ≤ 70000 := by omega
  have HPk : Hid (∀ W, Calls Tryz.prog 15 #[.int .i64 (Wv + 65536), .int .i64 65536] W fun e w' => e = .returned (.int .i64 PP) ∧ w' = W) := fun W => by rw [hPP, ← hWv]; exact pick_any _ 65536 W (by unfold I64; omega) (by decide) (by decide)
  have hE : wrap64 (G.pc + 2 + wrap64 (IntKind.i8.wrap e)) = Wv := by rw [sgn_is e y1 y2, w64 (sgn e) (by omega) (by omega), w64 (G.pc + 2 + sgn e) (by omega) (by omega)]; exact hWv.symm
  rw [hE]
  obtain ⟨T1, hT1⟩ : ∃ T, T = toRg (bd (rgF G) G.sp (jrTo G.pc e) G.ime) := ⟨_, rfl⟩
  rw [← hT1] at HRe
  have HT1 : Hid (T1.pc = PP ∧ T1.f = G.f) := by
    rw [hT1, hPP]
    exact ⟨jr_to G.pc e p1 p2 y1 y2, rfl⟩
  clear hT1 hPP hE sb hWv
  go_wp2_with (first
    | (go_at_call 19; refine Calls.mono (HRe.out) ?_; rintro e w91 ⟨rfl, hS91, hu91⟩
       have HS91 : Hid _ := hS91
       have HN91 : Hid (∀ o, (w91.alloc o).heap[w91.heap.size]? = some o) := heap_alloc_new w91
       have HX91 : Hid _ := rgNew w91 T1
       have HU91 : Hid _ := hu91
       clear hS91 hu91)
    | (refine wpList_store_rowTo rfl 23 _ _ rfl rfl w91.heap.size T1.cells rfl rfl 23 #[.int .i64 0, .int .i64 0, .int .i64 0, .int .i64 0, .int .i64 0, .int .i64 0, .int .i64 0, .int .i64 0, .int .i64 0, .int .i64 0, .bool false, .int .i64 0] (HN91.out _) (by kernel_rfl) rfl (rgOne T1) ?_
       generalize hW10 : World.setRow _ _ _ = W10
       obtain ⟨hg10, hu10⟩ := HX91.out W10 _ hW10
       have HS10 : Hid _ := HS91.out.ups hu10
       have HX10 : Hid (Cp W10 x2 (bd (rgF G) G.sp G.pc G.ime) ∧ Cp W10 x3 (bd (rgF G) G.sp G.pc G.ime) ∧ RgAt W10 w91.heap.size T1) := ⟨(HX9.out.1.up HU91.out).up hu10, (HX9.out.2.up HU91.out).up hu10, hg10⟩
       obtain ⟨t0, t1, t2, t3, t4, t5, t6, t7, t8, t9, t10, t11⟩ := regBlock T1 hg10
       obtain ⟨e9, e1⟩ := HT1.out
       rw [e9] at t9
       rw [e1] at t1
       clear q0 q1 q2 q3 q4 q5 q6 q7 q8 q9 q10 q11
       obtain ⟨q0, q1, q2, q3, q4, q5, q6, q7, q8, q9, q10, q11⟩ := regBlock _ HS10.out.reg
       clear hW10 hu10 hg10 HX91 HN91 HS91 e9 e1 t0 t2 t3 t4 t5 t6 t7 t8 t10 t11)
    | (go_at_call 15; refine (HPk.out _).mono ?_; rintro e w' ⟨rfl, rfl⟩))
  have wWv : IntKind.i64.wrap (Wv + 65536) = Wv + 65536 := wj _ (by omega) (by omega)
  go_quiet ((go_at_call 15; exact Calls.quiet_of_same (HPk.out _)))
  obtain ⟨q, hq⟩ : ∃ q, q = w91.heap.size := ⟨_, rfl⟩
  rw [← hq] at HX10 t1 t9
  rw [← hq]
  generalize hWd : World.drewN W10 nq = Wd
  have ud : Up W10 Wd := by rw [← hWd]; exact Up.drewN W10 nq
  have HA : Hid (Up w Wd ∧ LaidB Wd ∧ RgAt Wd p G ∧ Cp Wd x2 (bd (rgF G) G.sp G.pc G.ime) ∧ Cp Wd x3 (bd (rgF G) G.sp G.pc G.ime) ∧ RgAt Wd q T1) := ⟨(HS10.out.ups ud).up, (HS10.out.ups ud).lb, (HS10.out.ups ud).reg, HX10.out.1.up ud, HX10.out.2.1.up ud, HX10.out.2.2.up ud⟩
  have HQ : Hid (p < q ∧ x2 < q ∧ x3 < q ∧ w.heap.size ≤ q) := by
    have d := HD.out
    have h1 := HX9.out.1.lt
    have h2 := HX9.out.2.lt
    have h3 := HU91.out.size
    exact ⟨by omega, by omega, by omega, by omega⟩
  clear hWd ud HS10 HX10 HX9 HU91 hq t1 t9 q0 q1 q2 q3 q4 q5 q6 q7 q8 q9 q10 q11 HPk wWv HRe HIq
  obtain ⟨q0, q1, q2, q3, q4, q5, q6, q7, q8, q9, q10, q11⟩ := regBlock G HA.out.2.2.1
  go_wp2_with fail
  rw [← hj2]
  generalize hW7 : World.alloc (World.alloc Wd _) _ = W7'
  have hPc : Pcs W7' (Wd.heap.size + 1) [⟨G.pc, [jpOp 4, e, G.b]⟩] := by rw [← hW7]; exact pcs1 Wd G.pc [jpOp 4, e, G.b] (by unfold I64; omega) HY2.out (by simp)
  have u7 : Up Wd W7' := by rw [← hW7]; exact ((Up.refl Wd).alloc _).alloc _
  clear hW7
  refine (mem_one (Wd.heap.size + 1) G.pc [jpOp 4, e, G.b] W7' hPc).mono ?_
  rintro e_6 w8' ⟨rfl, m8, hu8⟩
  obtain ⟨hS8, hK8⟩ := bun_mk HA.out.1 HLB.out HA.out.2.2.2.1 (by have := HD.out; omega) HA.out.2.2.1.lt HA.out.2.2.1 (by have := HD.out; omega) u7 hu8 m8
  have hRu : Hid _ := bunf_runs HI_2.out hS8 hK8 HIv.out (mem1_byt G.pc _ HY2.out)
  have HIq : Hid _ := (HI_2.out.inv HIv.out (mem1_byt G.pc _ HY2.out)).1
  have HX8 : Hid (Cp w8' x3 (bd (rgF G) G.sp G.pc G.ime) ∧ RgAt w8' q T1 ∧ Wd.heap.size ≤ W7'.heap.size ∧ x3 < Wd.heap.size ∧ q < Wd.heap.size) := ⟨HA.out.2.2.2.2.1.up (u7.trans hu8), HA.out.2.2.2.2.2.up (u7.trans hu8), u7.size, HA.out.2.2.2.2.1.lt, HA.out.2.2.2.2.2.lt⟩
  clear q0 q1 q2 q3 q4 q5 q6 q7 q8 q9 q10 q11
  obtain ⟨q0, q1, q2, q3, q4, q5, q6, q7, q8, q9, q10, q11⟩ := regBlock G hS8.reg
  generalize hgm : W7'.heap.size = gm' at *
  clear hS8 m8 hu8 u7 hPc hgm hK8
  go_wp2_with fail
  refine Calls.mono hRu.out ?_
  rintro e_7 w9' ⟨rfl, hS9, hF9⟩
  have HX9 : Hid (Cp w9' x3 (bd (rgF G) G.sp G.pc G.ime) ∧ RgAt w9' q T1) := by
    have d := HD.out
    have d8 := HX8.out
    have dq := HQ.out
    exact ⟨Cp.fr2 d8.1 hF9 (by omega) (by omega), RgAt.fr2 d8.2.1 hF9 (by omega) (by omega)⟩
  clear q0 q1 q2 q3 q4 q5 q6 q7 q8 q9 q10 q11
  obtain ⟨q0, q1, q2, q3, q4, q5, q6, q7, q8, q9, q10, q11⟩ := regBlock G hS9.reg
  have HRe : Hid _ := bun_regs hS9 HIq.out
  have HS9 : Hid _ := hS9
  clear hS9 hF9 hRu HX8
  obtain ⟨P2, hP2⟩ : ∃ P, P = e + 256 * G.b := ⟨_, rfl⟩
  have p2a : 0 ≤ P2 := by omega
  have p2b : P2 ≤ 65535 := by omega
  obtain ⟨T2, hT2⟩ : ∃ T, T = toRg (bd (rgF G) G.sp (jpTo e G.b) G.ime) := ⟨_, rfl⟩
  rw [← hT2] at HRe
  have HT2 : Hid (T2.pc = P2 ∧ T2.f = G.f) := by
    rw [hT2, hP2]
    exact ⟨(show jpTo e G.b = e + 256 * G.b by unfold jpTo wordP; omega), rfl⟩
  have h65 : e + 256 * G.b = P2 := hP2.symm
  clear hT2 hP2
  go_wp2_with (first
    | (go_at_call 19; refine Calls.mono (HRe.out) ?_; rintro e w92 ⟨rfl, hS92, hu92⟩
       have HS92 : Hid _ := hS92
       have HN92 : Hid (∀ o, (w92.alloc o).heap[w92.heap.size]? = some o) := heap_alloc_new w92
       have HX92 : Hid _ := rgNew w92 T2
       have HU92 : Hid _ := hu92
       have HQ92 : Hid (RgAt w92 q T1) := HX9.out.2.up hu92
       clear hS92 hu92)
    | (refine wpList_store_rowTo rfl 23 _ _ rfl rfl q T2.cells rfl rfl 23 T1.cells (by exact HQ92.out) (by kernel_rfl) rfl (rgOne T2) ?_
       generalize hW13 : World.setRow _ _ _ = W12
       have F13 : Fr q w92 W12 := by rw [← hW13]; exact frRow _ _ _
       have g13 : RgAt W12 q T2 := by rw [← hW13]; exact setRow_heap _ _ _ _ _ _ HQ92.out
       have HB2 : Hid (Up w W12 ∧ LaidB W12 ∧ RgAt W12 p G ∧ RgAt W12 q T2 ∧ Cp W12 x3 (bd (rgF G) G.sp G.pc G.ime)) := by
         have dq := HQ.out
         have h0 := HLB.out.1
         exact ⟨Fr.up HS92.out.up (by omega) F13, HS92.out.lb.fr F13 (by omega), HS92.out.reg.fr1 F13 (by omega), g13, (HX9.out.1.up HU92.out).fr1 F13 (by omega)⟩
       obtain ⟨t0, t1, t2, t3, t4, t5, t6, t7, t8, t9, t10, t11⟩ := regBlock T2 g13
       obtain ⟨e9, e1⟩ := HT2.out
       rw [e9] at t9
       rw [e1] at t1
       clear q0 q1 q2 q3 q4 q5 q6 q7 q8 q9 q10 q11
       obtain ⟨q0, q1, q2, q3, q4, q5, q6, q7, q8, q9, q10, q11⟩ := regBlock G HB2.out.2.2.1
       clear hW13 F13 g13 e9 e1 t0 t2 t3 t4 t5 t6 t7 t8 t10 t11 HS92 HU92 HQ92))
  clear HRe HIq HX9 HA t1 t9 HT2
  generalize hW7 : World.alloc (World.alloc W12 _) _ = W8'
  have hPc : Pcs W8' (W12.heap.size + 1) [⟨G.pc, [233]⟩] := by rw [← hW7]; exact pcs1 W12 G.pc [233] (by unfold I64; omega) (by decide) (by simp)
  have u7 : Up W12 W8' := by rw [← hW7]; exact ((Up.refl W12).alloc _).alloc _
  clear hW7
  refine (mem_one (W12.heap.size + 1) G.pc [233] W8' hPc).mono ?_
  rintro e_8 w8'' ⟨rfl, m8, hu8⟩
  obtain ⟨hS8, hK8⟩ := bun_mk HB2.out.1 HLB.out HB2.out.2.2.2.2 (by have := HD.out; omega) HB2.out.2.2.1.lt HB2.out.2.2.1 (by have := HD.out; omega) u7 hu8 m8
  have hRu : Hid _ := bunf_runs HI_3.out hS8 hK8 HIv.out (mem1_byt G.pc _ (by decide))
  have HIq : Hid _ := (HI_3.out.inv HIv.out (mem1_byt G.pc _ (by decide))).1
  have HX8 : Hid (RgAt w8'' q T2 ∧ W12.heap.size ≤ W8'.heap.size ∧ q < W12.heap.size) := ⟨HB2.out.2.2.2.1.up (u7.trans hu8), u7.size, HB2.out.2.2.2.1.lt⟩
  clear q0 q1 q2 q3 q4 q5 q6 q7 q8 q9 q10 q11
  obtain ⟨q0, q1, q2, q3, q4, q5, q6, q7, q8, q9, q10, q11⟩ := regBlock G hS8.reg
  generalize hgm : W8'.heap.size = gm'' at *
  clear hS8 m8 hu8 u7 hPc hgm hK8
  go_wp2_with fail
  refine Calls.mono hRu.out ?_
  rintro e_9 w9'' ⟨rfl, hS9, hF9⟩
  have HX9 : Hid (RgAt w9'' q T2) := by
    have d := HD.out
    have d8 := HX8.out
    have dq := HQ.out
    exact RgAt.fr2 d8.1 hF9 (by omega) (by omega)
  clear q0 q1 q2 q3 q4 q5 q6 q7 q8 q9 q10 q11
  obtain ⟨q0, q1, q2, q3, q4, q5, q6, q7, q8, q9, q10, q11⟩ := regBlock G hS9.reg
  have HRe : Hid _ := bun_regs hS9 HIq.out
  clear hS9 hF9 hRu HX8
  have hh1 := HO.out.h.1
  have hh2 := HO.out.h.2
  have hl1 := HO.out.l.1
  have hl2 := HO.out.l.2
  obtain ⟨P3, hP3⟩ : ∃ P, P = 256 * G.h + G.l := ⟨_, rfl⟩
  have wh : IntKind.i64.wrap (256 * G.h) = 256 * G.h := wj _ (by omega) (by omega)
  have wp3 : IntKind.i64.wrap (256 * G.h + G.l) = P3 := by rw [hP3]; exact wj _ (by omega) (by omega)
  obtain ⟨T3, hT3⟩ : ∃ T, T = toRg (bd (rgF G) G.sp (wordP G.h G.l) G.ime) := ⟨_, rfl⟩
  rw [← hT3] at HRe
  have HT3 : Hid (T3.pc = P3 ∧ T3.f = G.f) := by
    rw [hT3, hP3]
    exact ⟨(show wordP G.h G.l = 256 * G.h + G.l by unfold wordP; omega), rfl⟩
  have e65 : 256 * G.h + G.l = P3 := hP3.symm
  clear hT3 hP3
  go_wp2_with (first
    | (go_at_call 19; refine Calls.mono (HRe.out) ?_; rintro e w93 ⟨rfl, hS93, hu93⟩
       have HS93 : Hid _ := hS93
       have HN93 : Hid (∀ o, (w93.alloc o).heap[w93.heap.size]? = some o) := heap_alloc_new w93
       have HX93 : Hid _ := rgNew w93 T3
       have HU93 : Hid _ := hu93
       have HQ93 : Hid (RgAt w93 q T2) := HX9.out.up hu93
       clear hS93 hu93)
    | (refine wpList_store_rowTo rfl 23 _ _ rfl rfl q T3.cells rfl rfl 23 T2.cells (by exact HQ93.out) (by kernel_rfl) rfl (rgOne T3) ?_
       generalize hW13 : World.setRow _ _ _ = W13x
       have F13 : Fr q w93 W13x := by rw [← hW13]; exact frRow _ _ _
       have g13 : RgAt W13x q T3 := by rw [← hW13]; exact setRow_heap _ _ _ _ _ _ HQ93.out
       have HB3 : Hid (Up w W13x ∧ LaidB W13x ∧ RgAt W13x p G ∧ RgAt W13x q T3) := by
         have dq := HQ.out
         have h0 := HLB.out.1
         exact ⟨Fr.up HS93.out.up (by omega) F13, HS93.out.lb.fr F13 (by omega), HS93.out.reg.fr1 F13 (by omega), g13⟩
       obtain ⟨t0, t1, t2, t3, t4, t5, t6, t7, t8, t9, t10, t11⟩ := regBlock T3 g13
       obtain ⟨e9, e1⟩ := HT3.out
       rw [e9] at t9
       rw [e1] at t1
       clear q0 q1 q2 q3 q4 q5 q6 q7 q8 q9 q10 q11
       obtain ⟨q0, q1, q2, q3, q4, q5, q6, q7, q8, q9, q10, q11⟩ := regBlock G HB3.out.2.2.1
       clear hW13 F13 g13 e9 e1 t0 t2 t3 t4 t5 t6 t7 t8 t10 t11 HS93 HU93 HQ93))
  try (go_quiet (fail); go_wp2)
  go_ret
  exact ⟨rfl, HB3.out.1.trans (by first | exact Up.refl _ | exact Up.drewN _ _ | exact (Up.refl _).drew)⟩
set_option maxRecDepth 100000 in
set_option maxHeartbeats 1000000 in
theorem jumps_y (g : Rg) (G : Rg) (cond e : Int) (C : Nat) (hc : C < 4) (HO : Hid G.Ok) (HS0 : Hid (G.state = 0)) (y1 : 0 ≤ e) (y2 : e ≤ 255) (hh : holdsC C G.f = true)
    (HB : Hid (∀ W, Calls Tryz.prog 14 #[.agg #[.int .i64 g.a, .int .i64 g.f, .int .i64 g.b, .int .i64 g.c, .int .i64 g.d, .int .i64 g.e, .int .i64 g.h, .int .i64 g.l, .int .i64 g.sp, .int .i64 g.pc, .bool g.ime, .int .i64 g.state]] W fun e w' => e = .returned (.agg G.cells) ∧ Up W w'))
    (HI1 : Hid (I64 cond)) (HCe : Hid (pickI cond 5 = (C : Int)))
    (w : World) (HLB : Hid (LaidB w)) :
    Calls Tryz.prog 9 #[.agg g.cells, .int .i64 cond, .int .u8 e] w fun e w' => e = .returned (.bool true) ∧ Up w w' := by

  have p1 := HO.out.pc.1
  have p2 := HO.out.pc.2
  have b1 := HO.out.b.1
  have b2 := HO.out.b.2
  have hCi : (C : Int) < 4 := by omega
  have cf0 : decide ((C : Int) < 4) = true := by simp; omega
  have cf1 : ((C : Int) == 4) = false := by simp; omega
  have HHo : Hid (∀ W, Calls Tryz.prog 22 #[.int .i64 G.f, .int .i64 C] W fun e w' => e = .returned (.bool true) ∧ w' = W) := fun W => by rw [← hh]; exact lholds_any C hc G.f HO.out.f.1 HO.out.f.2 W
  have HSt : Hid (∀ W, Calls Tryz.prog 16 #[.agg #[.int .i64 G.a, .int .i64 G.f, .int .i64 G.b, .int .i64 G.c, .int .i64 G.d, .int .i64 G.e, .int .i64 G.h, .int .i64 G.l, .int .i64 G.sp, .int .i64 G.pc, .bool G.ime, .int .i64 G.state]] W fun e w' => ∃ b, e = .returned (.pointer (some ⟨b, 0, none⟩)) ∧ W.heap.size ≤ b ∧ Cp w' b (bd (rgF G) G.sp G.pc G.ime) ∧ Up W w') := fun W => started_ok G HO.out HS0.out W
  have HIv : Hid (bd (rgF G) G.sp G.pc G.ime).Inv := bd_inv G HO.out HS0.out
  have hj1 : jrOp C = 32 + 8 * (C : Int) := by unfold jrOp; rw [if_pos hc]
  have hj2 : jpOp C = 194 + 8 * (C : Int) := by unfold jpOp; rw [if_pos hc]
  have HY1 : Hid (∀ x ∈ [jrOp C, e], 0 ≤ x ∧ x ≤ 255) := by
    intro x hx
    rw [hj1] at hx
    simp only [List.mem_cons, List.not_mem_nil, or_false] at hx
    rcases hx with rfl | rfl <;> omega
  have HY2 : Hid (∀ x ∈ [jpOp C, e, G.b], 0 ≤ x ∧ x ≤ 255) := by
    intro x hx
    rw [hj2] at hx
    simp only [List.mem_cons, List.not_mem_nil, or_false] at hx
    rcases hx with rfl | rfl | rfl <;> omega
  have HI_1 : Hid (Ins (bd (rgF G) G.sp G.pc G.ime, mem1 G.pc [jrOp C, e]) 3 (bd (rgF G) G.sp (jrTo G.pc e) G.ime, mem1 G.pc [jrOp C, e])) := by
    have m := ju_at G.pc p1 p2 [jrOp C, e] (by simp)
    have m1 := And.intro (m.1 (by simp)) (m.2.1 (by simp))
    exact jr_yes C (by omega) (Or.inr hh) m1.1 m1.2
  have HI_2 : Hid (Ins (bd (rgF G) G.sp G.pc G.ime, mem1 G.pc [jpOp C, e, G.b]) 4 (bd (rgF G) G.sp (jpTo e G.b) G.ime, mem1 G.pc [jpOp C, e, G.b])) := by
    have m := ju_at G.pc p1 p2 [jpOp C, e, G.b] (by simp)
    have m2 := And.intro (m.1 (by simp)) (And.intro (m.2.1 (by simp)) (m.2.2 (by simp)))
    exact jp_yes C (by omega) (Or.inr hh) m2.1 m2.2.1 m2.2.2
  have HI_3 : Hid (Ins (bd (rgF G) G.sp G.pc G.ime, mem1 G.pc [233]) 1 (bd (rgF G) G.sp (wordP G.h G.l) G.ime, mem1 G.pc [233])) := jphl ((ju_at G.pc p1 p2 [233] (by simp)).1 (by simp))
  clear hh
  rw [show g.cells = #[.int .i64 g.a, .int .i64 g.f, .int .i64 g.b, .int .i64 g.c, .int .i64 g.d, .int .i64 g.e, .int .i64 g.h, .int .i64 g.l, .int .i64 g.sp, .int .i64 g.pc, .bool g.ime, .int .i64 g.state] from rfl]
  go_enter Tryz.func9, Tryz.ntmps9
  go_wp2_with (first
    | (go_at_call 14; refine (HB.out _).mono ?_; rintro e w2 ⟨rfl, hu2⟩
       have u2 : Up w w2 := ((Up.refl w).alloc _).trans hu2
       have HN2 : Hid (∀ o, (w2.alloc o).heap[w2.heap.size]? = some o) := heap_alloc_new w2
       have HX2 : Hid _ := rgNew w2 G
       clear hu2)
    | (refine wpList_store_rowTo rfl 23 _ _ rfl rfl w2.heap.size G.cells rfl rfl 23 #[.int .i64 0, .int .i64 0, .int .i64 0, .int .i64 0, .int .i64 0, .int .i64 0, .int .i64 0, .int .i64 0, .int .i64 0, .int .i64 0, .bool false, .int .i64 0] (HN2.out _) (by kernel_rfl) rfl (rgOne G) ?_
       generalize hW3 : World.setRow _ _ _ = W3
       obtain ⟨hg3, hu3⟩ := HX2.out W3 _ hW3
       have u3 := u2.trans hu3
       have hl3 : w2.heap.size < W3.heap.size := (Array.getElem?_eq_some_iff.1 hg3).1
       obtain ⟨r0, r1, r2, r3, r4, r5, r6, r7, r8, r9, r10, r11⟩ := regBlock G hg3
       have HG3 : Hid (RgAt W3 w2.heap.size G) := hg3
       have hz3 := u2.size
       clear hW3 hu3 hg3 u2 HX2 HN2)
    | (go_at_call 15; refine (pick_any _ _ _ (by exact HI1.out) (by decide) (by decide)).mono ?_; rw [HCe.out]; rintro e w' ⟨rfl, rfl⟩)
    | (go_at_call 22; refine (HHo.out _).mono ?_; rintro e w' ⟨rfl, rfl⟩))
  refine (HSt.out _).mono ?_
  rintro e_1 w4 ⟨x1, rfl, hbs1, h41, hu4⟩
  have r4 := HG3.out.up hu4
  have u4 := u3.trans hu4
  obtain ⟨q0, q1, q2, q3, q4, q5, q6, q7, q8, q9, q10, q11⟩ := regBlock G r4
  clear r0 r1 r2 r3 r5 r6 r7 r8 r9 r10 r11
  go_wp2_with fail
  refine (HSt.out _).mono ?_
  rintro e_2 w5 ⟨x2, rfl, hbs2, h52, hu5⟩
  clear q0 q1 q2 q3 q4 q5 q6 q7 q8 q9 q10 q11
  obtain ⟨q0, q1, q2, q3, q4, q5, q6, q7, q8, q9, q10, q11⟩ := regBlock G (r4.up hu5)
  go_wp2_with fail
  refine (HSt.out _).mono ?_
  rintro e_3 w6 ⟨x3, rfl, hbs3, h63, hu6⟩
  clear q0 q1 q2 q3 q4 q5 q6 q7 q8 q9 q10 q11
  obtain ⟨q0, q1, q2, q3, q4, q5, q6, q7, q8, q9, q10, q11⟩ := regBlock G ((r4.up hu5).up hu6)
  have c1 : Cp w6 x1 (bd (rgF G) G.sp G.pc G.ime) := h41.up (hu5.trans hu6)
  have c2 : Cp w6 x2 (bd (rgF G) G.sp G.pc G.ime) := h52.up hu6
  have l1 := h41.lt
  have l2 := h52.lt
  have u6 : Up w w6 := u4.trans (hu5.trans hu6)
  have rg6 : RgAt w6 w2.heap.size G := (r4.up hu5).up hu6
  have z3 := u3.size
  obtain ⟨p, hp⟩ : ∃ p, p = w2.heap.size := ⟨_, rfl⟩
  have dd : p < x1 ∧ x1 < x2 ∧ x2 < x3 ∧ w.heap.size ≤ x1 ∧ w.heap.size ≤ p := by
    have := hu5.size
    have := hu4.size
    omega
  rw [← hp] at rg6 q0 q1 q2 q3 q4 q5 q6 q7 q8 q9 q10 q11
  rw [← hp]
  have HX : Hid (Cp w6 x1 (bd (rgF G) G.sp G.pc G.ime) ∧ Cp w6 x2 (bd (rgF G) G.sp G.pc G.ime) ∧ Cp w6 x3 (bd (rgF G) G.sp G.pc G.ime) ∧ Up w w6 ∧ RgAt w6 p G) := ⟨c1, c2, h63, u6, rg6⟩
  have HD : Hid _ := dd
  clear c1 c2 h63 u6 rg6 hp dd z3 l1 l2 u4 r4 hu4 hu5 hu6 h41 h52 hbs1 hbs2 hbs3 u3 hl3 hz3 HG3 HB HSt
  go_wp2_with fail
  rw [← hj1]
  generalize hW7 : World.alloc (World.alloc w6 _) _ = W7
  have hPc : Pcs W7 (w6.heap.size + 1) [⟨G.pc, [jrOp C, e]⟩] := by rw [← hW7]; exact pcs1 w6 G.pc [jrOp C, e] (by unfold I64; omega) HY1.out (by simp)
  have u7 : Up w6 W7 := by rw [← hW7]; exact ((Up.refl w6).alloc _).alloc _
  clear hW7
  refine (mem_one (w6.heap.size + 1) G.pc [jrOp C, e] W7 hPc).mono ?_
  rintro e_4 w8 ⟨rfl, m8, hu8⟩
  obtain ⟨hS8, hK8⟩ := bun_mk HX.out.2.2.2.1 HLB.out HX.out.1 HD.out.2.2.2.1 HX.out.2.2.2.2.lt HX.out.2.2.2.2 (by have := HD.out; omega) u7 hu8 m8
  have hRu : Hid _ := bunf_runs HI_1.out hS8 hK8 HIv.out (mem1_byt G.pc _ HY1.out)
  have HIq : Hid _ := (HI_1.out.inv HIv.out (mem1_byt G.pc _ HY1.out)).1
  have HX8 : Hid (Cp w8 x2 (bd (rgF G) G.sp G.pc G.ime) ∧ Cp w8 x3 (bd (rgF G) G.sp G.pc G.ime) ∧ w6.heap.size ≤ W7.heap.size ∧ x3 < w6.heap.size) := ⟨HX.out.2.1.up (u7.trans hu8), HX.out.2.2.1.up (u7.trans hu8), u7.size, HX.out.2.2.1.lt⟩
  obtain ⟨q0, q1, q2, q3, q4, q5, q6, q7, q8, q9, q10, q11⟩ := regBlock G hS8.reg
  generalize hgm : W7.heap.size = gm at *
  clear hS8 m8 hu8 u7 hPc hgm hK8
  go_wp2_with fail
  refine Calls.mono hRu.out ?_
  rintro e_5 w9 ⟨rfl, hS9, hF9⟩
  have HX9 : Hid (Cp w9 x2 (bd (rgF G) G.sp G.pc G.ime) ∧ Cp w9 x3 (bd (rgF G) G.sp G.pc G.ime)) := by
    have d := HD.out
    have d8 := HX8.out
    exact ⟨Cp.fr2 d8.1 hF9 (by omega) (by omega), Cp.fr2 d8.2.1 hF9 (by omega) (by omega)⟩
  clear q0 q1 q2 q3 q4 q5 q6 q7 q8 q9 q10 q11
  obtain ⟨q0, q1, q2, q3, q4, q5, q6, q7, q8, q9, q10, q11⟩ := regBlock G hS9.reg
  have HRe : Hid _ := bun_regs hS9 HIq.out
  have HS9 : Hid _ := hS9
  clear hS9 hF9 hRu HX8
  go_wp2_with fail
  obtain ⟨PP, hPP⟩ : ∃ P, P = pickI (G.pc + 2 + sgn e + 65536) 65536 := ⟨_, rfl⟩
  obtain ⟨Wv, hWv⟩ : ∃ v, v = G.pc + 2 + sgn e := ⟨_, rfl⟩
  have sb := sgn_b e y1 y2
  have wv1 : 0 ≤ Wv + 65536 := by omega
  have wv2 : Wv ≤ 70000 := by omega
  have HPk : Hid (∀ W, Calls Tryz.prog 15 #[.int .i64 (Wv + 65536), .int .i64 65536] W fun e w' => e = .returned (.int .i64 PP) ∧ w' = W) := fun W => by rw [hPP, ← hWv]; exact pick_any _ 65536 W (by unfold I64; omega) (by decide) (by decide)
  have hE : wrap64 (G.pc + 2 + wrap64 (IntKind.i8.wrap e)) = Wv := by rw [sgn_is e y1 y2, w64 (sgn e) (by omega) (by omega), w64 (G.pc + 2 + sgn e) (by omega) (by omega)]; exact hWv.symm
  rw [hE]
  obtain ⟨T1, hT1⟩ : ∃ T, T = toRg (bd (rgF G) G.sp (jrTo G.pc e) G.ime) := ⟨_, rfl⟩
  rw [← hT1] at HRe
  have HT1 : Hid (T1.pc = PP ∧ T1.f = G.f) := by
    rw [hT1, hPP]
    exact ⟨jr_to G.pc e p1 p2 y1 y2, rfl⟩
  clear hT1 hPP hE sb hWv
  go_wp2_with (first
    | (go_at_call 19; refine Calls.mono (HRe.out) ?_; rintro e w91 ⟨rfl, hS91, hu91⟩
       have HS91 : Hid _ := hS91
       have HN91 : Hid (∀ o, (w91.alloc o).heap[w91.heap.size]? = some o) := heap_alloc_new w91
       have HX91 : Hid _ := rgNew w91 T1
       have HU91 : Hid _ := hu91
       clear hS91 hu91)
    | (refine wpList_store_rowTo rfl 23 _ _ rfl rfl w91.heap.size T1.cells rfl rfl 23 #[.int .i64 0, .int .i64 0, .int .i64 0, .int .i64 0, .int .i64 0, .int .i64 0, .int .i64 0, .int .i64 0, .int .i64 0, .int .i64 0, .bool false, .int .i64 0] (HN91.out _) (by kernel_rfl) rfl (rgOne T1) ?_
       generalize hW10 : World.setRow _ _ _ = W10
       obtain ⟨hg10, hu10⟩ := HX91.out W10 _ hW10
       have HS10 : Hid _ := HS91.out.ups hu10
       have HX10 : Hid (Cp W10 x2 (bd (rgF G) G.sp G.pc G.ime) ∧ Cp W10 x3 (bd (rgF G) G.sp G.pc G.ime) ∧ RgAt W10 w91.heap.size T1) := ⟨(HX9.out.1.up HU91.out).up hu10, (HX9.out.2.up HU91.out).up hu10, hg10⟩
       obtain ⟨t0, t1, t2, t3, t4, t5, t6, t7, t8, t9, t10, t11⟩ := regBlock T1 hg10
       obtain ⟨e9, e1⟩ := HT1.out
       rw [e9] at t9
       rw [e1] at t1
       clear q0 q1 q2 q3 q4 q5 q6 q7 q8 q9 q10 q11
       obtain ⟨q0, q1, q2, q3, q4, q5, q6, q7, q8, q9, q10, q11⟩ := regBlock _ HS10.out.reg
       clear hW10 hu10 hg10 HX91 HN91 HS91 e9 e1 t0 t2 t3 t4 t5 t6 t7 t8 t10 t11)
    | (go_at_call 15; refine (HPk.out _).mono ?_; rintro e w' ⟨rfl, rfl⟩))
  have wWv : IntKind.i64.wrap (Wv + 65536) = Wv + 65536 := wj _ (by omega) (by omega)
  go_quiet ((go_at_call 15; exact Calls.quiet_of_same (HPk.out _)))
  obtain ⟨q, hq⟩ : ∃ q, q = w91.heap.size := ⟨_, rfl⟩
  rw [← hq] at HX10 t1 t9
  rw [← hq]
  generalize hWd : World.drewN W10 nq = Wd
  have ud : Up W10 Wd := by rw [← hWd]; exact Up.drewN W10 nq
  have HA : Hid (Up w Wd ∧ LaidB Wd ∧ RgAt Wd p G ∧ Cp Wd x2 (bd (rgF G) G.sp G.pc G.ime) ∧ Cp Wd x3 (bd (rgF G) G.sp G.pc G.ime) ∧ RgAt Wd q T1) := ⟨(HS10.out.ups ud).up, (HS10.out.ups ud).lb, (HS10.out.ups ud).reg, HX10.out.1.up ud, HX10.out.2.1.up ud, HX10.out.2.2.up ud⟩
  have HQ : Hid (p < q ∧ x2 < q ∧ x3 < q ∧ w.heap.size ≤ q) := by
    have d := HD.out
    have h1 := HX9.out.1.lt
    have h2 := HX9.out.2.lt
    have h3 := HU91.out.size
    exact ⟨by omega, by omega, by omega, by omega⟩
  clear hWd ud HS10 HX10 HX9 HU91 hq t1 t9 q0 q1 q2 q3 q4 q5 q6 q7 q8 q9 q10 q11 HPk wWv HRe HIq
  obtain ⟨q0, q1, q2, q3, q4, q5, q6, q7, q8, q9, q10, q11⟩ := regBlock G HA.out.2.2.1
  go_wp2_with fail
  rw [← hj2]
  generalize hW7 : World.alloc (World.alloc Wd _) _ = W7'
  have hPc : Pcs W7' (Wd.heap.size + 1) [⟨G.pc, [jpOp C, e, G.b]⟩] := by rw [← hW7]; exact pcs1 Wd G.pc [jpOp C, e, G.b] (by unfold I64; omega) HY2.out (by simp)
  have u7 : Up Wd W7' := by rw [← hW7]; exact ((Up.refl Wd).alloc _).alloc _
  clear hW7
  refine (mem_one (Wd.heap.size + 1) G.pc [jpOp C, e, G.b] W7' hPc).mono ?_
  rintro e_6 w8' ⟨rfl, m8, hu8⟩
  obtain ⟨hS8, hK8⟩ := bun_mk HA.out.1 HLB.out HA.out.2.2.2.1 (by have := HD.out; omega) HA.out.2.2.1.lt HA.out.2.2.1 (by have := HD.out; omega) u7 hu8 m8
  have hRu : Hid _ := bunf_runs HI_2.out hS8 hK8 HIv.out (mem1_byt G.pc _ HY2.out)
  have HIq : Hid _ := (HI_2.out.inv HIv.out (mem1_byt G.pc _ HY2.out)).1
  have HX8 : Hid (Cp w8' x3 (bd (rgF G) G.sp G.pc G.ime) ∧ RgAt w8' q T1 ∧ Wd.heap.size ≤ W7'.heap.size ∧ x3 < Wd.heap.size ∧ q < Wd.heap.size) := ⟨HA.out.2.2.2.2.1.up (u7.trans hu8), HA.out.2.2.2.2.2.up (u7.trans hu8), u7.size, HA.out.2.2.2.2.1.lt, HA.out.2.2.2.2.2.lt⟩
  clear q0 q1 q2 q3 q4 q5 q6 q7 q8 q9 q10 q11
  obtain ⟨q0, q1, q2, q3, q4, q5, q6, q7, q8, q9, q10, q11⟩ := regBlock G hS8.reg
  generalize hgm : W7'.heap.size = gm' at *
  clear hS8 m8 hu8 u7 hPc hgm hK8
  go_wp2_with fail
  refine Calls.mono hRu.out ?_
  rintro e_7 w9' ⟨rfl, hS9, hF9⟩
  have HX9 : Hid (Cp w9' x3 (bd (rgF G) G.sp G.pc G.ime) ∧ RgAt w9' q T1) := by
    have d := HD.out
    have d8 := HX8.out
    have dq := HQ.out
    exact ⟨Cp.fr2 d8.1 hF9 (by omega) (by omega), RgAt.fr2 d8.2.1 hF9 (by omega) (by omega)⟩
  clear q0 q1 q2 q3 q4 q5 q6 q7 q8 q9 q10 q11
  obtain ⟨q0, q1, q2, q3, q4, q5, q6, q7, q8, q9, q10, q11⟩ := regBlock G hS9.reg
  have HRe : Hid _ := bun_regs hS9 HIq.out
  have HS9 : Hid _ := hS9
  clear hS9 hF9 hRu HX8
  obtain ⟨P2, hP2⟩ : ∃ P, P = e + 256 * G.b := ⟨_, rfl⟩
  have p2a : 0 ≤ P2 := by omega
  have p2b : P2 ≤ 65535 := by omega
  obtain ⟨T2, hT2⟩ : ∃ T, T = toRg (bd (rgF G) G.sp (jpTo e G.b) G.ime) := ⟨_, rfl⟩
  rw [← hT2] at HRe
  have HT2 : Hid (T2.pc = P2 ∧ T2.f = G.f) := by
    rw [hT2, hP2]
    exact ⟨(show jpTo e G.b = e + 256 * G.b by unfold jpTo wordP; omega), rfl⟩
  have h65 : e + 256 * G.b = P2 := hP2.symm
  clear hT2 hP2
  go_wp2_with (first
    | (go_at_call 19; refine Calls.mono (HRe.out) ?_; rintro e w92 ⟨rfl, hS92, hu92⟩
       have HS92 : Hid _ := hS92
       have HN92 : Hid (∀ o, (w92.alloc o).heap[w92.heap.size]? = some o) := heap_alloc_new w92
       have HX92 : Hid _ := rgNew w92 T2
       have HU92 : Hid _ := hu92
       have HQ92 : Hid (RgAt w92 q T1) := HX9.out.2.up hu92
       clear hS92 hu92)
    | (refine wpList_store_rowTo rfl 23 _ _ rfl rfl q T2.cells rfl rfl 23 T1.cells (by exact HQ92.out) (by kernel_rfl) rfl (rgOne T2) ?_
       generalize hW13 : World.setRow _ _ _ = W12
       have F13 : Fr q w92 W12 := by rw [← hW13]; exact frRow _ _ _
       have g13 : RgAt W12 q T2 := by rw [← hW13]; exact setRow_heap _ _ _ _ _ _ HQ92.out
       have HB2 : Hid (Up w W12 ∧ LaidB W12 ∧ RgAt W12 p G ∧ RgAt W12 q T2 ∧ Cp W12 x3 (bd (rgF G) G.sp G.pc G.ime)) := by
         have dq := HQ.out
         have h0 := HLB.out.1
         exact ⟨Fr.up HS92.out.up (by omega) F13, HS92.out.lb.fr F13 (by omega), HS92.out.reg.fr1 F13 (by omega), g13, (HX9.out.1.up HU92.out).fr1 F13 (by omega)⟩
       obtain ⟨t0, t1, t2, t3, t4, t5, t6, t7, t8, t9, t10, t11⟩ := regBlock T2 g13
       obtain ⟨e9, e1⟩ := HT2.out
       rw [e9] at t9
       rw [e1] at t1
       clear q0 q1 q2 q3 q4 q5 q6 q7 q8 q9 q10 q11
       obtain ⟨q0, q1, q2, q3, q4, q5, q6, q7, q8, q9, q10, q11⟩ := regBlock G HB2.out.2.2.1
       clear hW13 F13 g13 e9 e1 t0 t2 t3 t4 t5 t6 t7 t8 t10 t11 HS92 HU92 HQ92))
  clear HRe HIq HX9 HA t1 t9 HT2
  generalize hW7 : World.alloc (World.alloc W12 _) _ = W8'
  have hPc : Pcs W8' (W12.heap.size + 1) [⟨G.pc, [233]⟩] := by rw [← hW7]; exact pcs1 W12 G.pc [233] (by unfold I64; omega) (by decide) (by simp)
  have u7 : Up W12 W8' := by rw [← hW7]; exact ((Up.refl W12).alloc _).alloc _
  clear hW7
  refine (mem_one (W12.heap.size + 1) G.pc [233] W8' hPc).mono ?_
  rintro e_8 w8'' ⟨rfl, m8, hu8⟩
  obtain ⟨hS8, hK8⟩ := bun_mk HB2.out.1 HLB.out HB2.out.2.2.2.2 (by have := HD.out; omega) HB2.out.2.2.1.lt HB2.out.2.2.1 (by have := HD.out; omega) u7 hu8 m8
  have hRu : Hid _ := bunf_runs HI_3.out hS8 hK8 HIv.out (mem1_byt G.pc _ (by decide))
  have HIq : Hid _ := (HI_3.out.inv HIv.out (mem1_byt G.pc _ (by decide))).1
  have HX8 : Hid (RgAt w8'' q T2 ∧ W12.heap.size ≤ W8'.heap.size ∧ q < W12.heap.size) := ⟨HB2.out.2.2.2.1.up (u7.trans hu8), u7.size, HB2.out.2.2.2.1.lt⟩
  clear q0 q1 q2 q3 q4 q5 q6 q7 q8 q9 q10 q11
  obtain ⟨q0, q1, q2, q3, q4, q5, q6, q7, q8, q9, q10, q11⟩ := regBlock G hS8.reg
  generalize hgm : W8'.heap.size = gm'' at *
  clear hS8 m8 hu8 u7 hPc hgm hK8
  go_wp2_with fail
  refine Calls.mono hRu.out ?_
  rintro e_9 w9'' ⟨rfl, hS9, hF9⟩
  have HX9 : Hid (RgAt w9'' q T2) := by
    have d := HD.out
    have d8 := HX8.out
    have dq := HQ.out
    exact RgAt.fr2 d8.1 hF9 (by omega) (by omega)
  clear q0 q1 q2 q3 q4 q5 q6 q7 q8 q9 q10 q11
  obtain ⟨q0, q1, q2, q3, q4, q5, q6, q7, q8, q9, q10, q11⟩ := regBlock G hS9.reg
  have HRe : Hid _ := bun_regs hS9 HIq.out
  clear hS9 hF9 hRu HX8
  have hh1 := HO.out.h.1
  have hh2 := HO.out.h.2
  have hl1 := HO.out.l.1
  have hl2 := HO.out.l.2
  obtain ⟨P3, hP3⟩ : ∃ P, P = 256 * G.h + G.l := ⟨_, rfl⟩
  have wh : IntKind.i64.wrap (256 * G.h) = 256 * G.h := wj _ (by omega) (by omega)
  have wp3 : IntKind.i64.wrap (256 * G.h + G.l) = P3 := by rw [hP3]; exact wj _ (by omega) (by omega)
  obtain ⟨T3, hT3⟩ : ∃ T, T = toRg (bd (rgF G) G.sp (wordP G.h G.l) G.ime) := ⟨_, rfl⟩
  rw [← hT3] at HRe
  have HT3 : Hid (T3.pc = P3 ∧ T3.f = G.f) := by
    rw [hT3, hP3]
    exact ⟨(show wordP G.h G.l = 256 * G.h + G.l by unfold wordP; omega), rfl⟩
  have e65 : 256 * G.h + G.l = P3 := hP3.symm
  clear hT3 hP3
  go_wp2_with (first
    | (go_at_call 19; refine Calls.mono (HRe.out) ?_; rintro e w93 ⟨rfl, hS93, hu93⟩
       have HS93 : Hid _ := hS93
       have HN93 : Hid (∀ o, (w93.alloc o).heap[w93.heap.size]? = some o) := heap_alloc_new w93
       have HX93 : Hid _ := rgNew w93 T3
       have HU93 : Hid _ := hu93
       have HQ93 : Hid (RgAt w93 q T2) := HX9.out.up hu93
       clear hS93 hu93)
    | (refine wpList_store_rowTo rfl 23 _ _ rfl rfl q T3.cells rfl rfl 23 T2.cells (by exact HQ93.out) (by kernel_rfl) rfl (rgOne T3) ?_
       generalize hW13 : World.setRow _ _ _ = W13x
       have F13 : Fr q w93 W13x := by rw [← hW13]; exact frRow _ _ _
       have g13 : RgAt W13x q T3 := by rw [← hW13]; exact setRow_heap _ _ _ _ _ _ HQ93.out
       have HB3 : Hid (Up w W13x ∧ LaidB W13x ∧ RgAt W13x p G ∧ RgAt W13x q T3) := by
         have dq := HQ.out
         have h0 := HLB.out.1
         exact ⟨Fr.up HS93.out.up (by omega) F13, HS93.out.lb.fr F13 (by omega), HS93.out.reg.fr1 F13 (by omega), g13⟩
       obtain ⟨t0, t1, t2, t3, t4, t5, t6, t7, t8, t9, t10, t11⟩ := regBlock T3 g13
       obtain ⟨e9, e1⟩ := HT3.out
       rw [e9] at t9
       rw [e1] at t1
       clear q0 q1 q2 q3 q4 q5 q6 q7 q8 q9 q10 q11
       obtain ⟨q0, q1, q2, q3, q4, q5, q6, q7, q8, q9, q10, q11⟩ := regBlock G HB3.out.2.2.1
       clear hW13 F13 g13 e9 e1 t0 t2 t3 t4 t5 t6 t7 t8 t10 t11 HS93 HU93 HQ93))
  try (go_quiet (fail); go_wp2)
  go_ret
  exact ⟨rfl, HB3.out.1.trans (by first | exact Up.refl _ | exact Up.drewN _ _ | exact (Up.refl _).drew)⟩
set_option maxRecDepth 100000 in
set_option maxHeartbeats 1000000 in
theorem jumps_n (g : Rg) (G : Rg) (cond e : Int) (C : Nat) (hc : C < 4) (HO : Hid G.Ok) (HS0 : Hid (G.state = 0)) (y1 : 0 ≤ e) (y2 : e ≤ 255) (hh : holdsC C G.f = false)
    (HB : Hid (∀ W, Calls Tryz.prog 14 #[.agg #[.int .i64 g.a, .int .i64 g.f, .int .i64 g.b, .int .i64 g.c, .int .i64 g.d, .int .i64 g.e, .int .i64 g.h, .int .i64 g.l, .int .i64 g.sp, .int .i64 g.pc, .bool g.ime, .int .i64 g.state]] W fun e w' => e = .returned (.agg G.cells) ∧ Up W w'))
    (HI1 : Hid (I64 cond)) (HCe : Hid (pickI cond 5 = (C : Int)))
    (w : World) (HLB : Hid (LaidB w)) :
    Calls Tryz.prog 9 #[.agg g.cells, .int .i64 cond, .int .u8 e] w fun e w' => e = .returned (.bool true) ∧ Up w w' := by

  have p1 := HO.out.pc.1
  have p2 := HO.out.pc.2
  have b1 := HO.out.b.1
  have b2 := HO.out.b.2
  have hCi : (C : Int) < 4 := by omega
  have cf0 : decide ((C : Int) < 4) = true := by simp; omega
  have cf1 : ((C : Int) == 4) = false := by simp; omega
  have HHo : Hid (∀ W, Calls Tryz.prog 22 #[.int .i64 G.f, .int .i64 C] W fun e w' => e = .returned (.bool false) ∧ w' = W) := fun W => by rw [← hh]; exact lholds_any C hc G.f HO.out.f.1 HO.out.f.2 W
  have HSt : Hid (∀ W, Calls Tryz.prog 16 #[.agg #[.int .i64 G.a, .int .i64 G.f, .int .i64 G.b, .int .i64 G.c, .int .i64 G.d, .int .i64 G.e, .int .i64 G.h, .int .i64 G.l, .int .i64 G.sp, .int .i64 G.pc, .bool G.ime, .int .i64 G.state]] W fun e w' => ∃ b, e = .returned (.pointer (some ⟨b, 0, none⟩)) ∧ W.heap.size ≤ b ∧ Cp w' b (bd (rgF G) G.sp G.pc G.ime) ∧ Up W w') := fun W => started_ok G HO.out HS0.out W
  have HIv : Hid (bd (rgF G) G.sp G.pc G.ime).Inv := bd_inv G HO.out HS0.out
  have hj1 : jrOp C = 32 + 8 * (C : Int) := by unfold jrOp; rw [if_pos hc]
  have hj2 : jpOp C = 194 + 8 * (C : Int) := by unfold jpOp; rw [if_pos hc]
  have HY1 : Hid (∀ x ∈ [jrOp C, e], 0 ≤ x ∧ x ≤ 255) := by
    intro x hx
    rw [hj1] at hx
    simp only [List.mem_cons, List.not_mem_nil, or_false] at hx
    rcases hx with rfl | rfl <;> omega
  have HY2 : Hid (∀ x ∈ [jpOp C, e, G.b], 0 ≤ x ∧ x ≤ 255) := by
    intro x hx
    rw [hj2] at hx
    simp only [List.mem_cons, List.not_mem_nil, or_false] at hx
    rcases hx with rfl | rfl | rfl <;> omega
  have HI_1 : Hid (Ins (bd (rgF G) G.sp G.pc G.ime, mem1 G.pc [jrOp C, e]) 2 (bd (rgF G) G.sp (jrNo G.pc) G.ime, mem1 G.pc [jrOp C, e])) := by
    have m := ju_at G.pc p1 p2 [jrOp C, e] (by simp)
    have m1 := And.intro (m.1 (by simp)) (m.2.1 (by simp))
    exact jr_no C hc hh m1.1 m1.2
  have HI_2 : Hid (Ins (bd (rgF G) G.sp G.pc G.ime, mem1 G.pc [jpOp C, e, G.b]) 3 (bd (rgF G) G.sp (jpNo G.pc) G.ime, mem1 G.pc [jpOp C, e, G.b])) := by
    have m := ju_at G.pc p1 p2 [jpOp C, e, G.b] (by simp)
    have m2 := And.intro (m.1 (by simp)) (And.intro (m.2.1 (by simp)) (m.2.2 (by simp)))
    exact jp_no C hc hh m2.1 m2.2.1 m2.2.2
  have HI_3 : Hid (Ins (bd (rgF G) G.sp G.pc G.ime, mem1 G.pc [233]) 1 (bd (rgF G) G.sp (wordP G.h G.l) G.ime, mem1 G.pc [233])) := jphl ((ju_at G.pc p1 p2 [233] (by simp)).1 (by simp))
  clear hh
  rw [show g.cells = #[.int .i64 g.a, .int .i64 g.f, .int .i64 g.b, .int .i64 g.c, .int .i64 g.d, .int .i64 g.e, .int .i64 g.h, .int .i64 g.l, .int .i64 g.sp, .int .i64 g.pc, .bool g.ime, .int .i64 g.state] from rfl]
  go_enter Tryz.func9, Tryz.ntmps9
  go_wp2_with (first
    | (go_at_call 14; refine (HB.out _).mono ?_; rintro e w2 ⟨rfl, hu2⟩
       have u2 : Up w w2 := ((Up.refl w).alloc _).trans hu2
       have HN2 : Hid (∀ o, (w2.alloc o).heap[w2.heap.size]? = some o) := heap_alloc_new w2
       have HX2 : Hid _ := rgNew w2 G
       clear hu2)
    | (refine wpList_store_rowTo rfl 23 _ _ rfl rfl w2.heap.size G.cells rfl rfl 23 #[.int .i64 0, .int .i64 0, .int .i64 0, .int .i64 0, .int .i64 0, .int .i64 0, .int .i64 0, .int .i64 0, .int .i64 0, .int .i64 0, .bool false, .int .i64 0] (HN2.out _) (by kernel_rfl) rfl (rgOne G) ?_
       generalize hW3 : World.setRow _ _ _ = W3
       obtain ⟨hg3, hu3⟩ := HX2.out W3 _ hW3
       have u3 := u2.trans hu3
       have hl3 : w2.heap.size < W3.heap.size := (Array.getElem?_eq_some_iff.1 hg3).1
       obtain ⟨r0, r1, r2, r3, r4, r5, r6, r7, r8, r9, r10, r11⟩ := regBlock G hg3
       have HG3 : Hid (RgAt W3 w2.heap.size G) := hg3
       have hz3 := u2.size
       clear hW3 hu3 hg3 u2 HX2 HN2)
    | (go_at_call 15; refine (pick_any _ _ _ (by exact HI1.out) (by decide) (by decide)).mono ?_; rw [HCe.out]; rintro e w' ⟨rfl, rfl⟩)
    | (go_at_call 22; refine (HHo.out _).mono ?_; rintro e w' ⟨rfl, rfl⟩))
  refine (HSt.out _).mono ?_
  rintro e_1 w4 ⟨x1, rfl, hbs1, h41, hu4⟩
  have r4 := HG3.out.up hu4
  have u4 := u3.trans hu4
  obtain ⟨q0, q1, q2, q3, q4, q5, q6, q7, q8, q9, q10, q11⟩ := regBlock G r4
  clear r0 r1 r2 r3 r5 r6 r7 r8 r9 r10 r11
  go_wp2_with fail
  refine (HSt.out _).mono ?_
  rintro e_2 w5 ⟨x2, rfl, hbs2, h52, hu5⟩
  clear q0 q1 q2 q3 q4 q5 q6 q7 q8 q9 q10 q11
  obtain ⟨q0, q1, q2, q3, q4, q5, q6, q7, q8, q9, q10, q11⟩ := regBlock G (r4.up hu5)
  go_wp2_with fail
  refine (HSt.out _).mono ?_
  rintro e_3 w6 ⟨x3, rfl, hbs3, h63, hu6⟩
  clear q0 q1 q2 q3 q4 q5 q6 q7 q8 q9 q10 q11
  obtain ⟨q0, q1, q2, q3, q4, q5, q6, q7, q8, q9, q10, q11⟩ := regBlock G ((r4.up hu5).up hu6)
  have c1 : Cp w6 x1 (bd (rgF G) G.sp G.pc G.ime) := h41.up (hu5.trans hu6)
  have c2 : Cp w6 x2 (bd (rgF G) G.sp G.pc G.ime) := h52.up hu6
  have l1 := h41.lt
  have l2 := h52.lt
  have u6 : Up w w6 := u4.trans (hu5.trans hu6)
  have rg6 : RgAt w6 w2.heap.size G := (r4.up hu5).up hu6
  have z3 := u3.size
  obtain ⟨p, hp⟩ : ∃ p, p = w2.heap.size := ⟨_, rfl⟩
  have dd : p < x1 ∧ x1 < x2 ∧ x2 < x3 ∧ w.heap.size ≤ x1 ∧ w.heap.size ≤ p := by
    have := hu5.size
    have := hu4.size
    omega
  rw [← hp] at rg6 q0 q1 q2 q3 q4 q5 q6 q7 q8 q9 q10 q11
  rw [← hp]
  have HX : Hid (Cp w6 x1 (bd (rgF G) G.sp G.pc G.ime) ∧ Cp w6 x2 (bd (rgF G) G.sp G.pc G.ime) ∧ Cp w6 x3 (bd (rgF G) G.sp G.pc G.ime) ∧ Up w w6 ∧ RgAt w6 p G) := ⟨c1, c2, h63, u6, rg6⟩
  have HD : Hid _ := dd
  clear c1 c2 h63 u6 rg6 hp dd z3 l1 l2 u4 r4 hu4 hu5 hu6 h41 h52 hbs1 hbs2 hbs3 u3 hl3 hz3 HG3 HB HSt
  go_wp2_with fail
  rw [← hj1]
  generalize hW7 : World.alloc (World.alloc w6 _) _ = W7
  have hPc : Pcs W7 (w6.heap.size + 1) [⟨G.pc, [jrOp C, e]⟩] := by rw [← hW7]; exact pcs1 w6 G.pc [jrOp C, e] (by unfold I64; omega) HY1.out (by simp)
  have u7 : Up w6 W7 := by rw [← hW7]; exact ((Up.refl w6).alloc _).alloc _
  clear hW7
  refine (mem_one (w6.heap.size + 1) G.pc [jrOp C, e] W7 hPc).mono ?_
  rintro e_4 w8 ⟨rfl, m8, hu8⟩
  obtain ⟨hS8, hK8⟩ := bun_mk HX.out.2.2.2.1 HLB.out HX.out.1 HD.out.2.2.2.1 HX.out.2.2.2.2.lt HX.out.2.2.2.2 (by have := HD.out; omega) u7 hu8 m8
  have hRu : Hid _ := bunf_runs HI_1.out hS8 hK8 HIv.out (mem1_byt G.pc _ HY1.out)
  have HIq : Hid _ := (HI_1.out.inv HIv.out (mem1_byt G.pc _ HY1.out)).1
  have HX8 : Hid (Cp w8 x2 (bd (rgF G) G.sp G.pc G.ime) ∧ Cp w8 x3 (bd (rgF G) G.sp G.pc G.ime) ∧ w6.heap.size ≤ W7.heap.size ∧ x3 < w6.heap.size) := ⟨HX.out.2.1.up (u7.trans hu8), HX.out.2.2.1.up (u7.trans hu8), u7.size, HX.out.2.2.1.lt⟩
  obtain ⟨q0, q1, q2, q3, q4, q5, q6, q7, q8, q9, q10, q11⟩ := regBlock G hS8.reg
  generalize hgm : W7.heap.size = gm at *
  clear hS8 m8 hu8 u7 hPc hgm hK8
  go_wp2_with fail
  refine Calls.mono hRu.out ?_
  rintro e_5 w9 ⟨rfl, hS9, hF9⟩
  have HX9 : Hid (Cp w9 x2 (bd (rgF G) G.sp G.pc G.ime) ∧ Cp w9 x3 (bd (rgF G) G.sp G.pc G.ime)) := by
    have d := HD.out
    have d8 := HX8.out
    exact ⟨Cp.fr2 d8.1 hF9 (by omega) (by omega), Cp.fr2 d8.2.1 hF9 (by omega) (by omega)⟩
  clear q0 q1 q2 q3 q4 q5 q6 q7 q8 q9 q10 q11
  obtain ⟨q0, q1, q2, q3, q4, q5, q6, q7, q8, q9, q10, q11⟩ := regBlock G hS9.reg
  have HRe : Hid _ := bun_regs hS9 HIq.out
  have HS9 : Hid _ := hS9
  clear hS9 hF9 hRu HX8
  go_wp2_with fail
  obtain ⟨PP, hPP⟩ : ∃ P, P = pickI (G.pc + 2 + 65536) 65536 := ⟨_, rfl⟩
  obtain ⟨Wv, hWv⟩ : ∃ v, v = G.pc + 2 := ⟨_, rfl⟩
  have sb := sgn_b e y1 y2
  have wv1 : 0 ≤ Wv + 65536 := by omega
  have wv2 : Wv ≤ 70000 := by omega
  have HPk : Hid (∀ W, Calls Tryz.prog 15 #[.int .i64 (Wv + 65536), .int .i64 65536] W fun e w' => e = .returned (.int .i64 PP) ∧ w' = W) := fun W => by rw [hPP, ← hWv]; exact pick_any _ 65536 W (by unfold I64; omega) (by decide) (by decide)
  have hE : G.pc + 2 = Wv := by exact hWv.symm
  rw [hE]
  obtain ⟨T1, hT1⟩ : ∃ T, T = toRg (bd (rgF G) G.sp (jrNo G.pc) G.ime) := ⟨_, rfl⟩
  rw [← hT1] at HRe
  have HT1 : Hid (T1.pc = PP ∧ T1.f = G.f) := by
    rw [hT1, hPP]
    exact ⟨jr_no_to G.pc p1 p2, rfl⟩
  clear hT1 hPP hE sb hWv
  go_wp2_with (first
    | (go_at_call 19; refine Calls.mono (HRe.out) ?_; rintro e w91 ⟨rfl, hS91, hu91⟩
       have HS91 : Hid _ := hS91
       have HN91 : Hid (∀ o, (w91.alloc o).heap[w91.heap.size]? = some o) := heap_alloc_new w91
       have HX91 : Hid _ := rgNew w91 T1
       have HU91 : Hid _ := hu91
       clear hS91 hu91)
    | (refine wpList_store_rowTo rfl 23 _ _ rfl rfl w91.heap.size T1.cells rfl rfl 23 #[.int .i64 0, .int .i64 0, .int .i64 0, .int .i64 0, .int .i64 0, .int .i64 0, .int .i64 0, .int .i64 0, .int .i64 0, .int .i64 0, .bool false, .int .i64 0] (HN91.out _) (by kernel_rfl) rfl (rgOne T1) ?_
       generalize hW10 : World.setRow _ _ _ = W10
       obtain ⟨hg10, hu10⟩ := HX91.out W10 _ hW10
       have HS10 : Hid _ := HS91.out.ups hu10
       have HX10 : Hid (Cp W10 x2 (bd (rgF G) G.sp G.pc G.ime) ∧ Cp W10 x3 (bd (rgF G) G.sp G.pc G.ime) ∧ RgAt W10 w91.heap.size T1) := ⟨(HX9.out.1.up HU91.out).up hu10, (HX9.out.2.up HU91.out).up hu10, hg10⟩
       obtain ⟨t0, t1, t2, t3, t4, t5, t6, t7, t8, t9, t10, t11⟩ := regBlock T1 hg10
       obtain ⟨e9, e1⟩ := HT1.out
       rw [e9] at t9
       rw [e1] at t1
       clear q0 q1 q2 q3 q4 q5 q6 q7 q8 q9 q10 q11
       obtain ⟨q0, q1, q2, q3, q4, q5, q6, q7, q8, q9, q10, q11⟩ := regBlock _ HS10.out.reg
       clear hW10 hu10 hg10 HX91 HN91 HS91 e9 e1 t0 t2 t3 t4 t5 t6 t7 t8 t10 t11)
    | (go_at_call 15; refine (HPk.out _).mono ?_; rintro e w' ⟨rfl, rfl⟩))
  have wWv : IntKind.i64.wrap (Wv + 65536) = Wv + 65536 := wj _ (by omega) (by omega)
  go_quiet ((go_at_call 15; exact Calls.quiet_of_same (HPk.out _)))
  obtain ⟨q, hq⟩ : ∃ q, q = w91.heap.size := ⟨_, rfl⟩
  rw [← hq] at HX10 t1 t9
  rw [← hq]
  generalize hWd : World.drewN W10 nq = Wd
  have ud : Up W10 Wd := by rw [← hWd]; exact Up.drewN W10 nq
  have HA : Hid (Up w Wd ∧ LaidB Wd ∧ RgAt Wd p G ∧ Cp Wd x2 (bd (rgF G) G.sp G.pc G.ime) ∧ Cp Wd x3 (bd (rgF G) G.sp G.pc G.ime) ∧ RgAt Wd q T1) := ⟨(HS10.out.ups ud).up, (HS10.out.ups ud).lb, (HS10.out.ups ud).reg, HX10.out.1.up ud, HX10.out.2.1.up ud, HX10.out.2.2.up ud⟩
  have HQ : Hid (p < q ∧ x2 < q ∧ x3 < q ∧ w.heap.size ≤ q) := by
    have d := HD.out
    have h1 := HX9.out.1.lt
    have h2 := HX9.out.2.lt
    have h3 := HU91.out.size
    exact ⟨by omega, by omega, by omega, by omega⟩
  clear hWd ud HS10 HX10 HX9 HU91 hq t1 t9 q0 q1 q2 q3 q4 q5 q6 q7 q8 q9 q10 q11 HPk wWv HRe HIq
  obtain ⟨q0, q1, q2, q3, q4, q5, q6, q7, q8, q9, q10, q11⟩ := regBlock G HA.out.2.2.1
  go_wp2_with fail
  rw [← hj2]
  generalize hW7 : World.alloc (World.alloc Wd _) _ = W7'
  have hPc : Pcs W7' (Wd.heap.size + 1) [⟨G.pc, [jpOp C, e, G.b]⟩] := by rw [← hW7]; exact pcs1 Wd G.pc [jpOp C, e, G.b] (by unfold I64; omega) HY2.out (by simp)
  have u7 : Up Wd W7' := by rw [← hW7]; exact ((Up.refl Wd).alloc _).alloc _
  clear hW7
  refine (mem_one (Wd.heap.size + 1) G.pc [jpOp C, e, G.b] W7' hPc).mono ?_
  rintro e_6 w8' ⟨rfl, m8, hu8⟩
  obtain ⟨hS8, hK8⟩ := bun_mk HA.out.1 HLB.out HA.out.2.2.2.1 (by have := HD.out; omega) HA.out.2.2.1.lt HA.out.2.2.1 (by have := HD.out; omega) u7 hu8 m8
  have hRu : Hid _ := bunf_runs HI_2.out hS8 hK8 HIv.out (mem1_byt G.pc _ HY2.out)
  have HIq : Hid _ := (HI_2.out.inv HIv.out (mem1_byt G.pc _ HY2.out)).1
  have HX8 : Hid (Cp w8' x3 (bd (rgF G) G.sp G.pc G.ime) ∧ RgAt w8' q T1 ∧ Wd.heap.size ≤ W7'.heap.size ∧ x3 < Wd.heap.size ∧ q < Wd.heap.size) := ⟨HA.out.2.2.2.2.1.up (u7.trans hu8), HA.out.2.2.2.2.2.up (u7.trans hu8), u7.size, HA.out.2.2.2.2.1.lt, HA.out.2.2.2.2.2.lt⟩
  clear q0 q1 q2 q3 q4 q5 q6 q7 q8 q9 q10 q11
  obtain ⟨q0, q1, q2, q3, q4, q5, q6, q7, q8, q9, q10, q11⟩ := regBlock G hS8.reg
  generalize hgm : W7'.heap.size = gm' at *
  clear hS8 m8 hu8 u7 hPc hgm hK8
  go_wp2_with fail
  refine Calls.mono hRu.out ?_
  rintro e_7 w9' ⟨rfl, hS9, hF9⟩
  have HX9 : Hid (Cp w9' x3 (bd (rgF G) G.sp G.pc G.ime) ∧ RgAt w9' q T1) := by
    have d := HD.out
    have d8 := HX8.out
    have dq := HQ.out
    exact ⟨Cp.fr2 d8.1 hF9 (by omega) (by omega), RgAt.fr2 d8.2.1 hF9 (by omega) (by omega)⟩
  clear q0 q1 q2 q3 q4 q5 q6 q7 q8 q9 q10 q11
  obtain ⟨q0, q1, q2, q3, q4, q5, q6, q7, q8, q9, q10, q11⟩ := regBlock G hS9.reg
  have HRe : Hid _ := bun_regs hS9 HIq.out
  have HS9 : Hid _ := hS9
  clear hS9 hF9 hRu HX8
  obtain ⟨P2, hP2⟩ : ∃ P, P = (G.pc + 3) % 65536 := ⟨_, rfl⟩
  have p2a : 0 ≤ P2 := by omega
  have p2b : P2 ≤ 65535 := by omega
  obtain ⟨T2, hT2⟩ : ∃ T, T = toRg (bd (rgF G) G.sp (jpNo G.pc) G.ime) := ⟨_, rfl⟩
  rw [← hT2] at HRe
  have HT2 : Hid (T2.pc = P2 ∧ T2.f = G.f) := by
    rw [hT2, hP2]
    exact ⟨(show jpNo G.pc = (G.pc + 3) % 65536 by unfold jpNo; omega), rfl⟩
  have h65 : (G.pc + 3) % 65536 = P2 := hP2.symm
  clear hT2 hP2
  go_wp2_with (first
    | (go_at_call 19; refine Calls.mono (HRe.out) ?_; rintro e w92 ⟨rfl, hS92, hu92⟩
       have HS92 : Hid _ := hS92
       have HN92 : Hid (∀ o, (w92.alloc o).heap[w92.heap.size]? = some o) := heap_alloc_new w92
       have HX92 : Hid _ := rgNew w92 T2
       have HU92 : Hid _ := hu92
       have HQ92 : Hid (RgAt w92 q T1) := HX9.out.2.up hu92
       clear hS92 hu92)
    | (refine wpList_store_rowTo rfl 23 _ _ rfl rfl q T2.cells rfl rfl 23 T1.cells (by exact HQ92.out) (by kernel_rfl) rfl (rgOne T2) ?_
       generalize hW13 : World.setRow _ _ _ = W12
       have F13 : Fr q w92 W12 := by rw [← hW13]; exact frRow _ _ _
       have g13 : RgAt W12 q T2 := by rw [← hW13]; exact setRow_heap _ _ _ _ _ _ HQ92.out
       have HB2 : Hid (Up w W12 ∧ LaidB W12 ∧ RgAt W12 p G ∧ RgAt W12 q T2 ∧ Cp W12 x3 (bd (rgF G) G.sp G.pc G.ime)) := by
         have dq := HQ.out
         have h0 := HLB.out.1
         exact ⟨Fr.up HS92.out.up (by omega) F13, HS92.out.lb.fr F13 (by omega), HS92.out.reg.fr1 F13 (by omega), g13, (HX9.out.1.up HU92.out).fr1 F13 (by omega)⟩
       obtain ⟨t0, t1, t2, t3, t4, t5, t6, t7, t8, t9, t10, t11⟩ := regBlock T2 g13
       obtain ⟨e9, e1⟩ := HT2.out
       rw [e9] at t9
       rw [e1] at t1
       clear q0 q1 q2 q3 q4 q5 q6 q7 q8 q9 q10 q11
       obtain ⟨q0, q1, q2, q3, q4, q5, q6, q7, q8, q9, q10, q11⟩ := regBlock G HB2.out.2.2.1
       clear hW13 F13 g13 e9 e1 t0 t2 t3 t4 t5 t6 t7 t8 t10 t11 HS92 HU92 HQ92))
  clear HRe HIq HX9 HA t1 t9 HT2
  generalize hW7 : World.alloc (World.alloc W12 _) _ = W8'
  have hPc : Pcs W8' (W12.heap.size + 1) [⟨G.pc, [233]⟩] := by rw [← hW7]; exact pcs1 W12 G.pc [233] (by unfold I64; omega) (by decide) (by simp)
  have u7 : Up W12 W8' := by rw [← hW7]; exact ((Up.refl W12).alloc _).alloc _
  clear hW7
  refine (mem_one (W12.heap.size + 1) G.pc [233] W8' hPc).mono ?_
  rintro e_8 w8'' ⟨rfl, m8, hu8⟩
  obtain ⟨hS8, hK8⟩ := bun_mk HB2.out.1 HLB.out HB2.out.2.2.2.2 (by have := HD.out; omega) HB2.out.2.2.1.lt HB2.out.2.2.1 (by have := HD.out; omega) u7 hu8 m8
  have hRu : Hid _ := bunf_runs HI_3.out hS8 hK8 HIv.out (mem1_byt G.pc _ (by decide))
  have HIq : Hid _ := (HI_3.out.inv HIv.out (mem1_byt G.pc _ (by decide))).1
  have HX8 : Hid (RgAt w8'' q T2 ∧ W12.heap.size ≤ W8'.heap.size ∧ q < W12.heap.size) := ⟨HB2.out.2.2.2.1.up (u7.trans hu8), u7.size, HB2.out.2.2.2.1.lt⟩
  clear q0 q1 q2 q3 q4 q5 q6 q7 q8 q9 q10 q11
  obtain ⟨q0, q1, q2, q3, q4, q5, q6, q7, q8, q9, q10, q11⟩ := regBlock G hS8.reg
  generalize hgm : W8'.heap.size = gm'' at *
  clear hS8 m8 hu8 u7 hPc hgm hK8
  go_wp2_with fail
  refine Calls.mono hRu.out ?_
  rintro e_9 w9'' ⟨rfl, hS9, hF9⟩
  have HX9 : Hid (RgAt w9'' q T2) := by
    have d := HD.out
    have d8 := HX8.out
    have dq := HQ.out
    exact RgAt.fr2 d8.1 hF9 (by omega) (by omega)
  clear q0 q1 q2 q3 q4 q5 q6 q7 q8 q9 q10 q11
  obtain ⟨q0, q1, q2, q3, q4, q5, q6, q7, q8, q9, q10, q11⟩ := regBlock G hS9.reg
  have HRe : Hid _ := bun_regs hS9 HIq.out
  clear hS9 hF9 hRu HX8
  have hh1 := HO.out.h.1
  have hh2 := HO.out.h.2
  have hl1 := HO.out.l.1
  have hl2 := HO.out.l.2
  obtain ⟨P3, hP3⟩ : ∃ P, P = 256 * G.h + G.l := ⟨_, rfl⟩
  have wh : IntKind.i64.wrap (256 * G.h) = 256 * G.h := wj _ (by omega) (by omega)
  have wp3 : IntKind.i64.wrap (256 * G.h + G.l) = P3 := by rw [hP3]; exact wj _ (by omega) (by omega)
  obtain ⟨T3, hT3⟩ : ∃ T, T = toRg (bd (rgF G) G.sp (wordP G.h G.l) G.ime) := ⟨_, rfl⟩
  rw [← hT3] at HRe
  have HT3 : Hid (T3.pc = P3 ∧ T3.f = G.f) := by
    rw [hT3, hP3]
    exact ⟨(show wordP G.h G.l = 256 * G.h + G.l by unfold wordP; omega), rfl⟩
  have e65 : 256 * G.h + G.l = P3 := hP3.symm
  clear hT3 hP3
  go_wp2_with (first
    | (go_at_call 19; refine Calls.mono (HRe.out) ?_; rintro e w93 ⟨rfl, hS93, hu93⟩
       have HS93 : Hid _ := hS93
       have HN93 : Hid (∀ o, (w93.alloc o).heap[w93.heap.size]? = some o) := heap_alloc_new w93
       have HX93 : Hid _ := rgNew w93 T3
       have HU93 : Hid _ := hu93
       have HQ93 : Hid (RgAt w93 q T2) := HX9.out.up hu93
       clear hS93 hu93)
    | (refine wpList_store_rowTo rfl 23 _ _ rfl rfl q T3.cells rfl rfl 23 T2.cells (by exact HQ93.out) (by kernel_rfl) rfl (rgOne T3) ?_
       generalize hW13 : World.setRow _ _ _ = W13x
       have F13 : Fr q w93 W13x := by rw [← hW13]; exact frRow _ _ _
       have g13 : RgAt W13x q T3 := by rw [← hW13]; exact setRow_heap _ _ _ _ _ _ HQ93.out
       have HB3 : Hid (Up w W13x ∧ LaidB W13x ∧ RgAt W13x p G ∧ RgAt W13x q T3) := by
         have dq := HQ.out
         have h0 := HLB.out.1
         exact ⟨Fr.up HS93.out.up (by omega) F13, HS93.out.lb.fr F13 (by omega), HS93.out.reg.fr1 F13 (by omega), g13⟩
       obtain ⟨t0, t1, t2, t3, t4, t5, t6, t7, t8, t9, t10, t11⟩ := regBlock T3 g13
       obtain ⟨e9, e1⟩ := HT3.out
       rw [e9] at t9
       rw [e1] at t1
       clear q0 q1 q2 q3 q4 q5 q6 q7 q8 q9 q10 q11
       obtain ⟨q0, q1, q2, q3, q4, q5, q6, q7, q8, q9, q10, q11⟩ := regBlock G HB3.out.2.2.1
       clear hW13 F13 g13 e9 e1 t0 t2 t3 t4 t5 t6 t7 t8 t10 t11 HS93 HU93 HQ93))
  try (go_quiet (fail); go_wp2)
  go_ret
  exact ⟨rfl, HB3.out.1.trans (by first | exact Up.refl _ | exact Up.drewN _ _ | exact (Up.refl _).drew)⟩
theorem jumps_walk (g : Rg) (i : g.In) (cond e : Int) (h1 : I64 cond) (h2 : 0 ≤ e ∧ e ≤ 255) (w : World) (hB : LaidB w) :
    Calls Tryz.prog 9 #[.agg g.cells, .int .i64 cond, .int .u8 e] w fun e w' => e = .returned (.bool true) ∧ Up w w' := by
  obtain ⟨C, hC⟩ : ∃ C : Nat, pickI cond 5 = (C : Int) := ⟨(pickI cond 5).toNat, by have := pickI_lo cond 5 (by decide); omega⟩
  have hC5 : C < 5 := by have := pickI_hi cond 5 (by decide); omega
  have HB : Hid (∀ W, Calls Tryz.prog 14 #[.agg #[.int .i64 g.a, .int .i64 g.f, .int .i64 g.b, .int .i64 g.c, .int .i64 g.d, .int .i64 g.e, .int .i64 g.h, .int .i64 g.l, .int .i64 g.sp, .int .i64 g.pc, .bool g.ime, .int .i64 g.state]] W fun e w' => e = .returned (.agg (bnd g).cells) ∧ Up W w') := fun W => bounded_any g i W
  have o := bnd_ok g
  have hs : (bnd g).state = 0 := rfl
  generalize bnd g = G at HB o hs
  by_cases c4 : C = 4
  · exact jumps_a g G cond e C c4 o hs h2.1 h2.2 HB h1 hC w hB
  · have hc : C < 4 := by omega
    cases hh : holdsC C G.f
    · exact jumps_n g G cond e C hc o hs h2.1 h2.2 hh HB h1 hC w hB
    · exact jumps_y g G cond e C hc o hs h2.1 h2.2 hh HB h1 hC w hB
end Go.Proofs.YtgdhodhachijnaaGreatDoor
