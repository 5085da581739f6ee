/- CpuMoves: the walk. -/
import Derived.Test.YtbfjihcnnefehaaGreatDoorKm
namespace Go.Proofs.YtbfjihcnnefehaaGreatDoor
open Go.RowKit
set_option linter.unusedVariables false
set_option maxRecDepth 100000 in
set_option maxHeartbeats 6000000 in
theorem moves_walk0 (g : Rg) (G : Rg) (pa : Option Addr) (ab ao len cap : Nat) (mv : Nat → Int) (hlen : len ≤ cap) (hcap : cap ≤ maxLen) (HPa : Hid (0 < len → pa = some ⟨ab, ao, none⟩)) (HMv : Hid (∀ k, I64 (mv k)))
    (HO : Hid G.Ok) (HS0 : Hid (G.state = 0))
    (HB : Hid (∀ W, Calls Tryz.prog 14 #[.agg #[.int .i64 g.a, .int .i64 g.f, .int .i64 g.b, .int .i64 g.c, .int .i64 g.d, .int .i64 g.e, .int .i64 g.h, .int .i64 g.l, .int .i64 g.sp, .int .i64 g.pc, .bool g.ime, .int .i64 g.state]] W fun e w' => e = .returned (.agg G.cells) ∧ Up W w'))
    (w : World) (HLB : Hid (LaidB w)) (HAr : Hid (∀ k, k < len → w.cell? ⟨ab, ao + k, none⟩ = some (.int .i64 (mv k)) ∧ ab < w.heap.size)) :
    Calls Tryz.prog 3 #[.agg g.cells, .slice pa len cap] w fun e w' => e = .returned (.bool true) ∧ Up w w' := by
  have L1 := HO.out.l.1
  have L2 := HO.out.l.2
  have o2 : ({ G with h := 193, pc := 512 } : Rg).Ok := { HO.out with h := (show (0 : Int) ≤ 193 ∧ (193 : Int) ≤ 255 by decide), pc := (show (0 : Int) ≤ 512 ∧ (512 : Int) ≤ 65535 by decide) }
  have HO2 : Hid _ := o2
  have HSt : Hid (∀ W, Calls Tryz.prog 16 #[.agg #[.int .i64 G.a, .int .i64 G.f, .int .i64 G.b, .int .i64 G.c, .int .i64 G.d, .int .i64 G.e, .int .i64 (193), .int .i64 G.l, .int .i64 G.sp, .int .i64 (512), .bool G.ime, .int .i64 G.state]] W fun e w' => ∃ b, e = .returned (.pointer (some ⟨b, 0, none⟩)) ∧ W.heap.size ≤ b ∧ Cp w' b (bd (rgF ({ G with h := 193, pc := 512 } : Rg)) G.sp 512 G.ime) ∧ Up W w') := fun W => started_ok ({ G with h := 193, pc := 512 } : Rg) o2 HS0.out W
  have HIv : Hid (bd (rgF ({ G with h := 193, pc := 512 } : Rg)) G.sp 512 G.ime).Inv := bd_inv ({ G with h := 193, pc := 512 } : Rg) o2 HS0.out
  clear o2
  rw [show g.cells = #[.int .i64 g.a, .int .i64 g.f, .int .i64 g.b, .int .i64 g.c, .int .i64 g.d, .int .i64 g.e, .int .i64 g.h, .int .i64 g.l, .int .i64 g.sp, .int .i64 g.pc, .bool g.ime, .int .i64 g.state] from rfl]
  go_enter Tryz.func3, Tryz.ntmps3
  go_wp2_with (first
    | (go_at_call 14; refine (HB.out _).mono ?_; rintro e w2 ⟨rfl, hu2⟩
       have u2 : Up w w2 := ((Up.refl w).alloc _).trans hu2
       have HN2 : Hid (∀ o, (w2.alloc o).heap[w2.heap.size]? = some o) := heap_alloc_new w2
       have HX2 : Hid _ := rgNew w2 G
       clear hu2)
    | (refine wpList_store_rowTo rfl 23 _ _ rfl rfl w2.heap.size G.cells rfl rfl 23 #[.int .i64 0, .int .i64 0, .int .i64 0, .int .i64 0, .int .i64 0, .int .i64 0, .int .i64 0, .int .i64 0, .int .i64 0, .int .i64 0, .bool false, .int .i64 0] (HN2.out _) (by kernel_rfl) rfl (rgOne G) ?_
       generalize hW3 : World.setRow _ _ _ = W3
       obtain ⟨hg3, hu3⟩ := HX2.out W3 _ hW3
       have u3 := u2.trans hu3
       have hl3 : w2.heap.size < W3.heap.size := (Array.getElem?_eq_some_iff.1 hg3).1
       obtain ⟨r0, r1, r2, r3, r4, r5, r6, r7, r8, r9, r10, r11⟩ := regBlock G hg3
       have HG3 : Hid (RgAt W3 w2.heap.size G) := hg3
       have hz3 := u2.size
       have fz6 : W3.frozen? ⟨w2.heap.size, 6, none⟩ = false := by simp [World.frozen?, hg3]
       have fz9 : W3.frozen? ⟨w2.heap.size, 9, none⟩ = false := by simp [World.frozen?, hg3]
       clear hW3 hu3 hg3 u2 HX2 HN2
       go_wp2_with fail))
  obtain ⟨pb, hpb⟩ : ∃ p, p = W3.heap.size := ⟨_, rfl⟩
  rw [← hpb]
  generalize hW4 : World.alloc _ _ = W4
  have HW4 : Hid (Up w W4 ∧ LaidB W4 ∧ RgAt W4 w2.heap.size { G with h := 193, pc := 512 } ∧ W4.heap.size = pb + 1 ∧ MvAt W4 pb (.slice none 0 0) [] (plG ({ G with h := 193, pc := 512 } : Rg)) W4) := by
    have s4 : (World.setCell (World.setCell W3 ⟨w2.heap.size, 9, none⟩ (.int .i64 512)) ⟨w2.heap.size, 6, none⟩ (.int .i64 193)).heap.size = pb := by simp [hpb]
    have u := ((u3.setCell (p := ⟨w2.heap.size, 9, none⟩) hz3 (.int .i64 512)).setCell (p := ⟨w2.heap.size, 6, none⟩) hz3 (.int .i64 193)).alloc (Obj.cells #[.int .i64 G.b, .int .i64 G.c, .int .i64 G.d, .int .i64 G.e, .int .i64 193, .int .i64 G.l, .int .i64 0, .int .i64 G.a] 3)
    have u4 : Up w W4 := by rw [← hW4]; exact u
    have z4 : W4.heap.size = pb + 1 := by rw [← hW4]; simp [hpb]
    refine ⟨u4, HLB.out.up u4, ?_, z4, ⟨World.ownsRow_nil _ _ _ _, fun k hk => ?_, Fr.refl _ _⟩⟩
    · rw [← hW4]
      exact ((HG3.out.set (H := { G with pc := 512 }) 9 _ rfl).set (H := { G with h := 193, pc := 512 }) 6 _ rfl).up ((Up.refl _).alloc _)
    · rw [← hW4]
      constructor
      · rw [← s4, World.cell?_alloc_new]
        rcases c8 hk with rfl | rfl | rfl | rfl | rfl | rfl | rfl | rfl <;> rfl
      · rw [← s4]
        exact fz_new _ _ _ k
  obtain ⟨p, hp⟩ : ∃ p, p = w2.heap.size := ⟨_, rfl⟩
  have hwp : w.heap.size ≤ p := by omega
  have hpp : p < pb := by omega
  rw [← hp] at HW4
  rw [← hp]
  clear hW4 hp r0 r1 r2 r3 r4 r5 r6 r7 r8 r9 r10 r11 fz6 fz9 HG3 hl3 hz3 u3 HB hpb
  have hlw : (len : Int) ≤ 9223372036854775807 := by have := hcap; unfold maxLen at this; omega
  go_loopw [7, 8, 9] (fun C N I wr => ∃ i : Nat, i ≤ 60 ∧ i ≤ len ∧ I = .int .i64 i ∧ N = .int .i64 (mvL mv i).length ∧ Hid (MvAt W4 pb C (mvL mv i) (plG ({ G with h := 193, pc := 512 } : Rg)) wr)) (fun _ _ I _ => 60 - (intOf I).toNat)
  case atStart => exact ⟨0, by omega, by omega, rfl, rfl, HW4.out.2.2.2.2⟩
  case round =>
    obtain ⟨i, hi60, hil, rfl, rfl, hS⟩ := hrel
    by_cases hlt : i < len
    · by_cases h60 : i < 60
      · have hpa := HPa.out (by omega)
        subst hpa
        have d1 : decide ((i : Int) < (len : Int)) = true := decide_eq_true (by omega)
        have d2 : decide ((i : Int) < 60) = true := decide_eq_true (by omega)
        have hin : (i : Int) < (len : Int) := by omega
        have hab := (HAr.out i hlt).2
        obtain ⟨Z, hZ⟩ : ∃ Z, Z = mv i := ⟨_, rfl⟩
        have cZ : wr.cell? ⟨ab, ao + i, none⟩ = some (.int .i64 Z) := by
          rw [hS.out.fr.cellq (by have := HW4.out.1.size; omega) (by have := HW4.out.1.size; omega), HW4.out.1.cell hab, hZ]
          exact (HAr.out i hlt).1
        have hZi : I64 Z := by rw [hZ]; exact HMv.out i
        obtain ⟨Y, hY⟩ : ∃ Y, Y = Z.tdiv 8 := ⟨_, rfl⟩
        have hYi : I64 Y := by rw [hY]; exact tdiv8 hZi
        have hYe : Z.tdiv 8 = Y := hY.symm
        have wY : IntKind.i64.wrap Y = Y := i64w hYi
        obtain ⟨T, hT⟩ : ∃ T, T = mvT Z := ⟨_, rfl⟩
        obtain ⟨S, hS'⟩ : ∃ S, S = mvS Z := ⟨_, rfl⟩
        have HP1 : Hid (pickI Z 8 = (T : Int)) := by show _ = _; rw [hT]; exact mvT_is Z
        have HP2 : Hid (pickI Y 8 = (S : Int)) := by show _ = _; rw [hS', hY]; exact mvS_is Z
        have HZi : Hid _ := hZi
        have HYi : Hid _ := hYi
        have T8 : T < 8 := by rw [hT]; exact mvT_lt Z
        have S8 : S < 8 := by rw [hS']; exact mvS_lt Z
        have T8i : (T : Int) < 8 := by omega
        have S8i : (S : Int) < 8 := by omega
        have HTS : Hid (T = mvT (mv i) ∧ S = mvS (mv i)) := by rw [← hZ]; exact ⟨hT, hS'⟩
        obtain ⟨Z0, Z1⟩ := hZi
        clear hT hS' hY hZ hYi
        by_cases t4 : T = 4
        · have b4 : ((T : Int) == 4) = true := by simp; omega
          have hno : mvNo (mv i) = true := by unfold mvNo; rw [← HTS.out.1, t4]; rfl
          go_wp2_with (first | (go_at_call 15; refine (pick_any _ _ _ (by first | exact HZi.out | exact HYi.out) (by decide) (by decide)).mono ?_; (first | rw [HP1.out] | rw [HP2.out]); rintro e w' ⟨rfl, hw'⟩; obtain rfl := hw'.symm))
          go_roundw
          case rel => exact ⟨i + 1, by omega, by omega, rfl, by rw [mvL_no mv i hno], by rw [mvL_no mv i hno]; exact hS⟩
          case measure => simp [intOf]; omega
        · have b4 : ((T : Int) == 4) = false := by simp; omega
          by_cases t5 : T = 5
          · have b5 : ((T : Int) == 5) = true := by simp; omega
            have hno : mvNo (mv i) = true := by unfold mvNo; rw [← HTS.out.1, t5]; rfl
            go_wp2_with (first | (go_at_call 15; refine (pick_any _ _ _ (by first | exact HZi.out | exact HYi.out) (by decide) (by decide)).mono ?_; (first | rw [HP1.out] | rw [HP2.out]); rintro e w' ⟨rfl, hw'⟩; obtain rfl := hw'.symm))
            go_roundw
            case rel => exact ⟨i + 1, by omega, by omega, rfl, by rw [mvL_no mv i hno], by rw [mvL_no mv i hno]; exact hS⟩
            case measure => simp [intOf]; omega
          · have b5 : ((T : Int) == 5) = false := by simp; omega
            by_cases t6 : T = 6
            · have b6 : ((T : Int) == 6) = true := by simp; omega
              by_cases s6 : S = 6
              · have c6 : ((S : Int) == 6) = true := by simp; omega
                have hno : mvNo (mv i) = true := by unfold mvNo; rw [← HTS.out.1, ← HTS.out.2, t6, s6]; rfl
                go_wp2_with (first | (go_at_call 15; refine (pick_any _ _ _ (by first | exact HZi.out | exact HYi.out) (by decide) (by decide)).mono ?_; (first | rw [HP1.out] | rw [HP2.out]); rintro e w' ⟨rfl, hw'⟩; obtain rfl := hw'.symm))
                go_roundw
                case rel => exact ⟨i + 1, by omega, by omega, rfl, by rw [mvL_no mv i hno], by rw [mvL_no mv i hno]; exact hS⟩
                case measure => simp [intOf]; omega
              · have c6 : ((S : Int) == 6) = false := by simp; omega
                have hno : mvNo (mv i) = false := by unfold mvNo; rw [← HTS.out.1, ← HTS.out.2]; simp; omega
                have HL' : Hid (mvL mv (i + 1) = mvL mv i ++ [(T, S)]) := by show _ = _; rw [mvL_yes mv i hno, ← HTS.out.1, ← HTS.out.2]
                have hll := mvL_len mv i
                clear hno t6
                generalize mvL mv i = l at hS HL' hll
                have hie : Tryz.prog.info? 5 = some Tryz.t5 := by kernel_rfl
                go_wp2_with (first
                  | (go_at_call 15; refine (pick_any _ _ _ (by first | exact HZi.out | exact HYi.out) (by decide) (by decide)).mono ?_; (first | rw [HP1.out] | rw [HP2.out]); rintro e w' ⟨rfl, hw'⟩; obtain rfl := hw'.symm)
                  | (at_builtin; refine wpList_append_own _ rfl _ _ 26 rfl (pb + 1) 5 Tryz.t5 (.int .u8 0) 1 1 Tryz.underlying26 hie rfl rfl rfl rfl (by decide) _ _ _ rfl (hS.out.own.alloc _) ⟨wr.heap.size, 0, none⟩ 1 1 [.int .u8 (64 + 8 * (T : Int) + (S : Int))] rfl rfl ?c1 ?c2 ?c3 ?c4 ?c5 ?_))
                case c1 =>
                  intro j u hu
                  match j, hu with
                  | 0, hu => simp at hu; subst hu; simp [Addr.add]
                case c2 => intro u hu; simp at hu; subst hu; rfl
                case c3 => unfold maxLen; omega
                case c4 => omega
                case c5 => have := hS.out.fr.size; have := HW4.out.2.2.2.1; simp; omega
                · intro v' w1 hown' hgrow _
                  have hM := hS.out.app HW4.out.2.2.2.1 (T, S) _ hgrow hown'
                  clear hgrow hown'
                  have cT := (hM.pl T T8).1
                  have fT := (hM.pl T T8).2
                  have cS := (hM.pl S S8).1
                  have HM : Hid _ := hM
                  have HPut : Hid _ := hM.put T8
                  clear hM
                  obtain ⟨V, hV⟩ : ∃ V, V = plP (plG ({ G with h := 193, pc := 512 } : Rg)) l S := ⟨_, rfl⟩
                  rw [← hV] at cS HPut
                  clear hV hie
                  go_wp2_with fail
                  go_roundw
                  case rel => exact ⟨i + 1, by omega, by omega, rfl, by rw [HL'.out]; simp, by rw [HL'.out]; first | exact HPut.out | exact HPut.out.drew⟩
                  case measure => simp [intOf]; omega
            · have b6 : ((T : Int) == 6) = false := by simp; omega
              have hno : mvNo (mv i) = false := by unfold mvNo; rw [← HTS.out.1, ← HTS.out.2]; simp; omega
              have HL' : Hid (mvL mv (i + 1) = mvL mv i ++ [(T, S)]) := by show _ = _; rw [mvL_yes mv i hno, ← HTS.out.1, ← HTS.out.2]
              have hll := mvL_len mv i
              clear hno t6
              generalize mvL mv i = l at hS HL' hll
              have hie : Tryz.prog.info? 5 = some Tryz.t5 := by kernel_rfl
              go_wp2_with (first
                | (go_at_call 15; refine (pick_any _ _ _ (by first | exact HZi.out | exact HYi.out) (by decide) (by decide)).mono ?_; (first | rw [HP1.out] | rw [HP2.out]); rintro e w' ⟨rfl, hw'⟩; obtain rfl := hw'.symm)
                | (at_builtin; refine wpList_append_own _ rfl _ _ 26 rfl (pb + 1) 5 Tryz.t5 (.int .u8 0) 1 1 Tryz.underlying26 hie rfl rfl rfl rfl (by decide) _ _ _ rfl (hS.out.own.alloc _) ⟨wr.heap.size, 0, none⟩ 1 1 [.int .u8 (64 + 8 * (T : Int) + (S : Int))] rfl rfl ?c1 ?c2 ?c3 ?c4 ?c5 ?_))
              case c1 =>
                intro j u hu
                match j, hu with
                | 0, hu => simp at hu; subst hu; simp [Addr.add]
              case c2 => intro u hu; simp at hu; subst hu; rfl
              case c3 => unfold maxLen; omega
              case c4 => omega
              case c5 => have := hS.out.fr.size; have := HW4.out.2.2.2.1; simp; omega
              · intro v' w1 hown' hgrow _
                have hM := hS.out.app HW4.out.2.2.2.1 (T, S) _ hgrow hown'
                clear hgrow hown'
                have cT := (hM.pl T T8).1
                have fT := (hM.pl T T8).2
                have cS := (hM.pl S S8).1
                have HM : Hid _ := hM
                have HPut : Hid _ := hM.put T8
                clear hM
                obtain ⟨V, hV⟩ : ∃ V, V = plP (plG ({ G with h := 193, pc := 512 } : Rg)) l S := ⟨_, rfl⟩
                rw [← hV] at cS HPut
                clear hV hie
                go_wp2_with fail
                go_roundw
                case rel => exact ⟨i + 1, by omega, by omega, rfl, by rw [HL'.out]; simp, by rw [HL'.out]; first | exact HPut.out | exact HPut.out.drew⟩
                case measure => simp [intOf]; omega
      · have d1 : decide ((i : Int) < (len : Int)) = true := decide_eq_true (by omega)
        have d2 : decide ((i : Int) < 60) = false := decide_eq_false (by omega)
        obtain ⟨l, hl⟩ : ∃ l, l = mvL mv i := ⟨_, rfl⟩
        have hlg : ∀ ts ∈ l, mvG ts := by rw [hl]; exact mvL_good mv i
        have hll : l.length ≤ 60 := by rw [hl]; have := mvL_len mv i; omega
        rw [← hl] at hS
        rw [← hl]
        have hr : RgAt wr p { G with h := 193, pc := 512 } := (hS.out.fr.block p (by have := HW4.out.2.2.2.1; omega) (by omega)).trans HW4.out.2.2.1
        have HLw : Hid (LaidB wr) := HW4.out.2.1.fr hS.out.fr (by omega)
        have HUw : Hid (Up w wr) := Fr.up HW4.out.1 (by omega) hS.out.fr
        obtain ⟨gb, pa', cp, rfl, hgb, hpa', hcc⟩ := own_code hS.out.own HLw.out.1
        obtain ⟨q0, q1, q2, q3, q4, q5, q6, q7, q8, q9, q10, q11⟩ := regBlock _ hr
        have HRw : Hid (RgAt wr p { G with h := 193, pc := 512 }) := hr
        have HCc : Hid _ := And.intro hpa' (And.intro hgb hcc)
        have HLg : Hid _ := hlg
        have hpw : p < wr.heap.size := hr.lt
        have HSp : Hid _ := hS.out.pl
        have hpbw : pb < wr.heap.size := by have := hS.out.fr.size; have := HW4.out.2.2.2.1; omega
        clear hr hpa' hcc hgb hlg hl hS
        go_wp2_with fail
        refine (HSt.out _).mono ?_
        rintro e w5 ⟨b, rfl, hbs, h5, hu5⟩
        have hpb5 : p ≠ b := by omega
        have r5 := HRw.out.up hu5
        have hl5 : p < w5.heap.size := r5.lt
        clear q0 q1 q2 q3 q4 q5 q6 q7 q8 q9 q10 q11
        obtain ⟨q0, q1, q2, q3, q4, q5, q6, q7, q8, q9, q10, q11⟩ := regBlock _ r5
        have HR5 : Hid (RgAt w5 p { G with h := 193, pc := 512 } ∧ Cp w5 b (bd (rgF ({ G with h := 193, pc := 512 } : Rg)) G.sp 512 G.ime) ∧ Up wr w5 ∧ wr.heap.size ≤ b) := ⟨r5, h5, hu5, hbs⟩
        clear r5 h5 hu5 hbs
        go_wp2_with fail
        generalize hW6 : World.alloc w5 _ = W6
        have u6 : Up w5 W6 := by rw [← hW6]; exact (Up.refl w5).alloc _
        have hcl : (mvC l).length = l.length := by simp [mvC]
        have hby := mvC_byt l HLg.out
        have hPc : Pcs W6 w5.heap.size [⟨512, mvC l⟩] := by
          refine pcsA W6 w5.heap.size gb cp 512 (mvC l) (by unfold I64; decide) hby (by omega) (by rw [← hW6]; simp) (by have := HCc.out.2.1; have := HR5.out.2.2.1.size; have := u6.size; omega) pa' (by rw [hcl]; exact HCc.out.1) (by rw [← hW6, World.cell?_alloc_new]; rfl) (by rw [hcl, ← hW6, World.cell?_alloc_new]; rfl) (fun k hk => ?_)
          rw [(HR5.out.2.2.1.trans u6).cell HCc.out.2.1]
          exact HCc.out.2.2 k hk
        clear hW6
        refine (mem_one w5.heap.size 512 (mvC l) W6 hPc).mono ?_
        rintro e w7 ⟨rfl, m7, hu7⟩
        obtain ⟨hS8, hK8⟩ := bun_mk (w := wr) HR5.out.2.2.1 HLw.out HR5.out.2.1 HR5.out.2.2.2 HR5.out.1.lt HR5.out.1 hpb5 u6 hu7 m7
        have hfb : Byt (mem1 512 (mvC l)) := mem1_byt 512 _ hby
        have hI0 : (0 : Int) ≤ 49408 + G.l := by omega
        have hz : mem1 512 (mvC l) (49408 + G.l).toNat = 0 := mem1_off (mvC l) (by omega) _ (by omega)
        have e0 : mvSt G.f (plG ({ G with h := 193, pc := 512 } : Rg)) (mem1 512 (mvC l)) (49408 + G.l).toNat G.sp G.ime l 0 = (bd (rgF ({ G with h := 193, pc := 512 } : Rg)) G.sp 512 G.ime, mem1 512 (mvC l)) := by
          unfold mvSt
          rw [List.take_zero, show plP (plG ({ G with h := 193, pc := 512 } : Rg)) [] = plG ({ G with h := 193, pc := 512 } : Rg) from rfl, show rrP G.f (plG ({ G with h := 193, pc := 512 } : Rg)) = rgF ({ G with h := 193, pc := 512 } : Rg) from rr_plG ({ G with h := 193, pc := 512 } : Rg), show plG ({ G with h := 193, pc := 512 } : Rg) 6 = 0 from rfl, show (512 : Int) + ((0 : Nat) : Int) = 512 from rfl]
          congr 1
          funext k
          unfold upd
          split
          · rename_i h; rw [h]; exact hz.symm
          · rfl
        have eN : mvSt G.f (plG ({ G with h := 193, pc := 512 } : Rg)) (mem1 512 (mvC l)) (49408 + G.l).toNat G.sp G.ime l l.length = (bd (rrP G.f (plP (plG ({ G with h := 193, pc := 512 } : Rg)) l)) G.sp (512 + (l.length : Int)) G.ime, upd (mem1 512 (mvC l)) (49408 + G.l).toNat (plP (plG ({ G with h := 193, pc := 512 } : Rg)) l 6)) := by
          unfold mvSt
          rw [List.take_length]
        have hIn := mv_ins (F := G.f) (sp := G.sp) (ime := G.ime) (f0 := mem1 512 (mvC l)) l HLg.out (by omega) L1 L2 (show plG ({ G with h := 193, pc := 512 } : Rg) 4 = 193 from rfl) (show plG ({ G with h := 193, pc := 512 } : Rg) 5 = G.l from rfl) (plG_byt HO2.out) (fun k hk => mem1_code (mvC l) (by omega) k (by omega))
        have hRu := bun_many (w := wr) (b := b) (gm := W6.heap.size) (p := p) (G := ({ G with h := 193, pc := 512 } : Rg)) (W := w7) l.length (by omega) (mvSt G.f (plG ({ G with h := 193, pc := 512 } : Rg)) (mem1 512 (mvC l)) (49408 + G.l).toNat G.sp G.ime l) (mvK l) hIn (mvK7 l) (by rw [e0]; exact hS8) hK8 (by rw [e0]; exact HIv.out) (by rw [e0]; exact hfb)
        have hIq := (runs_inv _ (mvK l) l.length hIn (by rw [e0]; exact HIv.out) (by rw [e0]; exact hfb)).1
        rw [eN] at hRu hIq
        have HRu : Hid _ := hRu
        have HIq : Hid _ := hIq
        clear q0 q1 q2 q3 q4 q5 q6 q7 q8 q9 q10 q11
        obtain ⟨q0, q1, q2, q3, q4, q5, q6, q7, q8, q9, q10, q11⟩ := regBlock _ hS8.reg
        obtain ⟨gm, hgm⟩ : ∃ g, g = W6.heap.size := ⟨_, rfl⟩
        rw [← hgm] at HRu
        rw [← hgm]
        obtain ⟨P, hP⟩ : ∃ P, P = plP (plG ({ G with h := 193, pc := 512 } : Rg)) l := ⟨_, rfl⟩
        have HP4 : Hid (P 4 = 193 ∧ P 5 = G.l ∧ Byt P) := by
          rw [hP]
          exact ⟨by rw [plP_keep l 4 (fun ts h => (HLg.out ts h).2.2.1)]; rfl, by rw [plP_keep l 5 (fun ts h => (HLg.out ts h).2.2.2.1)]; rfl, plP_byt l _ (plG_byt HO2.out)⟩
        rw [← hP] at HRu HIq HSp
        clear hRu hIq hIn e0 eN hz hfb hS8 hK8 m7 hu7 u6 hPc hgm hP hby hcl hI0
        go_wp2_with fail
        refine Calls.mono HRu.out ?_
        rintro e w9 ⟨rfl, hS9⟩
        clear q0 q1 q2 q3 q4 q5 q6 q7 q8 q9 q10 q11
        obtain ⟨q0, q1, q2, q3, q4, q5, q6, q7, q8, q9, q10, q11⟩ := regBlock _ hS9.reg
        have HRe : Hid _ := bun_regs hS9 HIq.out
        obtain ⟨T, hT⟩ : ∃ T, T = toRg (bd (rrP G.f P) G.sp (512 + (l.length : Int)) G.ime) := ⟨_, rfl⟩
        change Hid (Calls _ _ _ _ fun e w' => e = .returned (.agg (toRg (bd (rrP G.f P) G.sp (512 + (l.length : Int)) G.ime)).cells) ∧ _) at HRe
        rw [← hT] at HRe
        obtain ⟨p0, hp0⟩ : ∃ x, x = P 0 := ⟨_, rfl⟩
        obtain ⟨p1, hp1⟩ : ∃ x, x = P 1 := ⟨_, rfl⟩
        obtain ⟨p2, hp2⟩ : ∃ x, x = P 2 := ⟨_, rfl⟩
        obtain ⟨p3, hp3⟩ : ∃ x, x = P 3 := ⟨_, rfl⟩
        obtain ⟨p6, hp6⟩ : ∃ x, x = P 6 := ⟨_, rfl⟩
        obtain ⟨p7, hp7⟩ : ∃ x, x = P 7 := ⟨_, rfl⟩
        have HT : Hid (T.b = p0 ∧ T.c = p1 ∧ T.d = p2 ∧ T.e = p3 ∧ T.h = 193 ∧ T.l = G.l ∧ T.a = p7 ∧ T.f = G.f) := by
          rw [hT, hp0, hp1, hp2, hp3, hp7]
          exact ⟨rfl, rfl, rfl, rfl, HP4.out.1, HP4.out.2.1, rfl, rfl⟩
        have p60 : 0 ≤ p6 := by rw [hp6]; exact (HP4.out.2.2 6).1
        have p61 : p6 ≤ 255 := by rw [hp6]; exact (HP4.out.2.2 6).2
        have wp6 : IntKind.i64.wrap p6 = p6 := wj _ (by omega) (by omega)
        have HPl : Hid (∀ W, Up wr W → W.cell? ⟨pb, 0, none⟩ = some (.int .i64 p0) ∧ W.cell? ⟨pb, 1, none⟩ = some (.int .i64 p1) ∧ W.cell? ⟨pb, 2, none⟩ = some (.int .i64 p2) ∧ W.cell? ⟨pb, 3, none⟩ = some (.int .i64 p3) ∧ W.cell? ⟨pb, 6, none⟩ = some (.int .i64 p6) ∧ W.cell? ⟨pb, 7, none⟩ = some (.int .i64 p7)) := by
          rw [hp0, hp1, hp2, hp3, hp6, hp7]
          exact fun W u => ⟨(u.cell hpbw).trans (HSp.out 0 (by decide)).1, (u.cell hpbw).trans (HSp.out 1 (by decide)).1, (u.cell hpbw).trans (HSp.out 2 (by decide)).1, (u.cell hpbw).trans (HSp.out 3 (by decide)).1, (u.cell hpbw).trans (HSp.out 6 (by decide)).1, (u.cell hpbw).trans (HSp.out 7 (by decide)).1⟩
        obtain ⟨I, hI⟩ : ∃ I, I = 49408 + G.l := ⟨_, rfl⟩
        have hI0 : 0 ≤ I := by omega
        have hI1 : I < 65536 := by omega
        have hIh : IntKind.i64.wrap 49408 = 49408 := by decide
        have hIw : IntKind.i64.wrap (49408 + G.l) = I := by rw [hI]; exact wj _ (by omega) (by omega)
        have HMe : Hid (∀ W, Mem W gm (upd (mem1 512 (mvC l)) (49408 + G.l).toNat (P 6)) → W.cell? ⟨gm, I.toNat, none⟩ = some (.int .u8 p6)) := by
          intro W hm
          have := (hm.2 I.toNat (by omega)).1
          rw [hI, show upd (mem1 512 (mvC l)) (49408 + G.l).toNat (P 6) (49408 + G.l).toNat = P 6 from if_pos rfl, ← hp6] at this
          rw [hI]
          exact this
        clear hS9 HRu hT hp0 hp1 hp2 hp3 hp6 hp7 hI
        go_wp2_with (first
          | (go_at_call 19; refine Calls.mono (HRe.out) ?_; rintro e w91 ⟨rfl, hS91, hu91⟩
             have HS91 : Hid _ := hS91
             have HN91 : Hid (∀ o, (w91.alloc o).heap[w91.heap.size]? = some o) := heap_alloc_new w91
             have HX91 : Hid _ := rgNew w91 T
             clear hS91 hu91)
          | (refine wpList_store_rowTo rfl 23 _ _ rfl rfl w91.heap.size T.cells rfl rfl 23 #[.int .i64 0, .int .i64 0, .int .i64 0, .int .i64 0, .int .i64 0, .int .i64 0, .int .i64 0, .int .i64 0, .int .i64 0, .int .i64 0, .bool false, .int .i64 0] (HN91.out _) (by kernel_rfl) rfl (rgOne T) ?_
             generalize hW10 : World.setRow _ _ _ = W10
             obtain ⟨hg10, hu10⟩ := HX91.out W10 _ hW10
             have HS10 : Hid _ := HS91.out.ups hu10
             obtain ⟨t0, t1, t2, t3, t4, t5, t6, t7, t8, t9, t10, t11⟩ := regBlock T hg10
             obtain ⟨e2, e3, e4, e5, e6, e7, e0, e1⟩ := HT.out
             rw [e0] at t0
             rw [e1] at t1
             rw [e2] at t2
             rw [e3] at t3
             rw [e4] at t4
             rw [e5] at t5
             rw [e6] at t6
             rw [e7] at t7
             clear q0 q1 q2 q3 q4 q5 q6 q7 q8 q9 q10 q11
             obtain ⟨q0, q1, q2, q3, q4, q5, q6, q7, q8, q9, q10, q11⟩ := regBlock _ HS10.out.reg
             obtain ⟨k0, k1, k2, k3, k6, k7⟩ := HPl.out W10 HS10.out.up
             have cm := HMe.out W10 HS10.out.mem
             clear hW10 hu10 hg10 HX91 HN91 HS91 e0 e1 e2 e3 e4 e5 e6 e7 t8 t9 t10 t11))
        try dsimp only [List.append]
        go_quiet (fail)
        go_wp2
        go_ret
        exact ⟨rfl, (HUw.out.trans HS10.out.up).trans (by first | exact Up.drewN W10 _ | exact (Up.refl W10).drew | exact Up.refl W10)⟩

    · have d1 : decide ((i : Int) < (len : Int)) = false := decide_eq_false (by omega)
      obtain ⟨l, hl⟩ : ∃ l, l = mvL mv i := ⟨_, rfl⟩
      have hlg : ∀ ts ∈ l, mvG ts := by rw [hl]; exact mvL_good mv i
      have hll : l.length ≤ 60 := by rw [hl]; have := mvL_len mv i; omega
      rw [← hl] at hS
      rw [← hl]
      have hr : RgAt wr p { G with h := 193, pc := 512 } := (hS.out.fr.block p (by have := HW4.out.2.2.2.1; omega) (by omega)).trans HW4.out.2.2.1
      have HLw : Hid (LaidB wr) := HW4.out.2.1.fr hS.out.fr (by omega)
      have HUw : Hid (Up w wr) := Fr.up HW4.out.1 (by omega) hS.out.fr
      obtain ⟨gb, pa', cp, rfl, hgb, hpa', hcc⟩ := own_code hS.out.own HLw.out.1
      obtain ⟨q0, q1, q2, q3, q4, q5, q6, q7, q8, q9, q10, q11⟩ := regBlock _ hr
      have HRw : Hid (RgAt wr p { G with h := 193, pc := 512 }) := hr
      have HCc : Hid _ := And.intro hpa' (And.intro hgb hcc)
      have HLg : Hid _ := hlg
      have hpw : p < wr.heap.size := hr.lt
      have HSp : Hid _ := hS.out.pl
      have hpbw : pb < wr.heap.size := by have := hS.out.fr.size; have := HW4.out.2.2.2.1; omega
      clear hr hpa' hcc hgb hlg hl hS
      go_wp2_with fail
      refine (HSt.out _).mono ?_
      rintro e w5 ⟨b, rfl, hbs, h5, hu5⟩
      have hpb5 : p ≠ b := by omega
      have r5 := HRw.out.up hu5
      have hl5 : p < w5.heap.size := r5.lt
      clear q0 q1 q2 q3 q4 q5 q6 q7 q8 q9 q10 q11
      obtain ⟨q0, q1, q2, q3, q4, q5, q6, q7, q8, q9, q10, q11⟩ := regBlock _ r5
      have HR5 : Hid (RgAt w5 p { G with h := 193, pc := 512 } ∧ Cp w5 b (bd (rgF ({ G with h := 193, pc := 512 } : Rg)) G.sp 512 G.ime) ∧ Up wr w5 ∧ wr.heap.size ≤ b) := ⟨r5, h5, hu5, hbs⟩
      clear r5 h5 hu5 hbs
      go_wp2_with fail
      generalize hW6 : World.alloc w5 _ = W6
      have u6 : Up w5 W6 := by rw [← hW6]; exact (Up.refl w5).alloc _
      have hcl : (mvC l).length = l.length := by simp [mvC]
      have hby := mvC_byt l HLg.out
      have hPc : Pcs W6 w5.heap.size [⟨512, mvC l⟩] := by
        refine pcsA W6 w5.heap.size gb cp 512 (mvC l) (by unfold I64; decide) hby (by omega) (by rw [← hW6]; simp) (by have := HCc.out.2.1; have := HR5.out.2.2.1.size; have := u6.size; omega) pa' (by rw [hcl]; exact HCc.out.1) (by rw [← hW6, World.cell?_alloc_new]; rfl) (by rw [hcl, ← hW6, World.cell?_alloc_new]; rfl) (fun k hk => ?_)
        rw [(HR5.out.2.2.1.trans u6).cell HCc.out.2.1]
        exact HCc.out.2.2 k hk
      clear hW6
      refine (mem_one w5.heap.size 512 (mvC l) W6 hPc).mono ?_
      rintro e w7 ⟨rfl, m7, hu7⟩
      obtain ⟨hS8, hK8⟩ := bun_mk (w := wr) HR5.out.2.2.1 HLw.out HR5.out.2.1 HR5.out.2.2.2 HR5.out.1.lt HR5.out.1 hpb5 u6 hu7 m7
      have hfb : Byt (mem1 512 (mvC l)) := mem1_byt 512 _ hby
      have hI0 : (0 : Int) ≤ 49408 + G.l := by omega
      have hz : mem1 512 (mvC l) (49408 + G.l).toNat = 0 := mem1_off (mvC l) (by omega) _ (by omega)
      have e0 : mvSt G.f (plG ({ G with h := 193, pc := 512 } : Rg)) (mem1 512 (mvC l)) (49408 + G.l).toNat G.sp G.ime l 0 = (bd (rgF ({ G with h := 193, pc := 512 } : Rg)) G.sp 512 G.ime, mem1 512 (mvC l)) := by
        unfold mvSt
        rw [List.take_zero, show plP (plG ({ G with h := 193, pc := 512 } : Rg)) [] = plG ({ G with h := 193, pc := 512 } : Rg) from rfl, show rrP G.f (plG ({ G with h := 193, pc := 512 } : Rg)) = rgF ({ G with h := 193, pc := 512 } : Rg) from rr_plG ({ G with h := 193, pc := 512 } : Rg), show plG ({ G with h := 193, pc := 512 } : Rg) 6 = 0 from rfl, show (512 : Int) + ((0 : Nat) : Int) = 512 from rfl]
        congr 1
        funext k
        unfold upd
        split
        · rename_i h; rw [h]; exact hz.symm
        · rfl
      have eN : mvSt G.f (plG ({ G with h := 193, pc := 512 } : Rg)) (mem1 512 (mvC l)) (49408 + G.l).toNat G.sp G.ime l l.length = (bd (rrP G.f (plP (plG ({ G with h := 193, pc := 512 } : Rg)) l)) G.sp (512 + (l.length : Int)) G.ime, upd (mem1 512 (mvC l)) (49408 + G.l).toNat (plP (plG ({ G with h := 193, pc := 512 } : Rg)) l 6)) := by
        unfold mvSt
        rw [List.take_length]
      have hIn := mv_ins (F := G.f) (sp := G.sp) (ime := G.ime) (f0 := mem1 512 (mvC l)) l HLg.out (by omega) L1 L2 (show plG ({ G with h := 193, pc := 512 } : Rg) 4 = 193 from rfl) (show plG ({ G with h := 193, pc := 512 } : Rg) 5 = G.l from rfl) (plG_byt HO2.out) (fun k hk => mem1_code (mvC l) (by omega) k (by omega))
      have hRu := bun_many (w := wr) (b := b) (gm := W6.heap.size) (p := p) (G := ({ G with h := 193, pc := 512 } : Rg)) (W := w7) l.length (by omega) (mvSt G.f (plG ({ G with h := 193, pc := 512 } : Rg)) (mem1 512 (mvC l)) (49408 + G.l).toNat G.sp G.ime l) (mvK l) hIn (mvK7 l) (by rw [e0]; exact hS8) hK8 (by rw [e0]; exact HIv.out) (by rw [e0]; exact hfb)
      have hIq := (runs_inv _ (mvK l) l.length hIn (by rw [e0]; exact HIv.out) (by rw [e0]; exact hfb)).1
      rw [eN] at hRu hIq
      have HRu : Hid _ := hRu
      have HIq : Hid _ := hIq
      clear q0 q1 q2 q3 q4 q5 q6 q7 q8 q9 q10 q11
      obtain ⟨q0, q1, q2, q3, q4, q5, q6, q7, q8, q9, q10, q11⟩ := regBlock _ hS8.reg
      obtain ⟨gm, hgm⟩ : ∃ g, g = W6.heap.size := ⟨_, rfl⟩
      rw [← hgm] at HRu
      rw [← hgm]
      obtain ⟨P, hP⟩ : ∃ P, P = plP (plG ({ G with h := 193, pc := 512 } : Rg)) l := ⟨_, rfl⟩
      have HP4 : Hid (P 4 = 193 ∧ P 5 = G.l ∧ Byt P) := by
        rw [hP]
        exact ⟨by rw [plP_keep l 4 (fun ts h => (HLg.out ts h).2.2.1)]; rfl, by rw [plP_keep l 5 (fun ts h => (HLg.out ts h).2.2.2.1)]; rfl, plP_byt l _ (plG_byt HO2.out)⟩
      rw [← hP] at HRu HIq HSp
      clear hRu hIq hIn e0 eN hz hfb hS8 hK8 m7 hu7 u6 hPc hgm hP hby hcl hI0
      go_wp2_with fail
      refine Calls.mono HRu.out ?_
      rintro e w9 ⟨rfl, hS9⟩
      clear q0 q1 q2 q3 q4 q5 q6 q7 q8 q9 q10 q11
      obtain ⟨q0, q1, q2, q3, q4, q5, q6, q7, q8, q9, q10, q11⟩ := regBlock _ hS9.reg
      have HRe : Hid _ := bun_regs hS9 HIq.out
      obtain ⟨T, hT⟩ : ∃ T, T = toRg (bd (rrP G.f P) G.sp (512 + (l.length : Int)) G.ime) := ⟨_, rfl⟩
      change Hid (Calls _ _ _ _ fun e w' => e = .returned (.agg (toRg (bd (rrP G.f P) G.sp (512 + (l.length : Int)) G.ime)).cells) ∧ _) at HRe
      rw [← hT] at HRe
      obtain ⟨p0, hp0⟩ : ∃ x, x = P 0 := ⟨_, rfl⟩
      obtain ⟨p1, hp1⟩ : ∃ x, x = P 1 := ⟨_, rfl⟩
      obtain ⟨p2, hp2⟩ : ∃ x, x = P 2 := ⟨_, rfl⟩
      obtain ⟨p3, hp3⟩ : ∃ x, x = P 3 := ⟨_, rfl⟩
      obtain ⟨p6, hp6⟩ : ∃ x, x = P 6 := ⟨_, rfl⟩
      obtain ⟨p7, hp7⟩ : ∃ x, x = P 7 := ⟨_, rfl⟩
      have HT : Hid (T.b = p0 ∧ T.c = p1 ∧ T.d = p2 ∧ T.e = p3 ∧ T.h = 193 ∧ T.l = G.l ∧ T.a = p7 ∧ T.f = G.f) := by
        rw [hT, hp0, hp1, hp2, hp3, hp7]
        exact ⟨rfl, rfl, rfl, rfl, HP4.out.1, HP4.out.2.1, rfl, rfl⟩
      have p60 : 0 ≤ p6 := by rw [hp6]; exact (HP4.out.2.2 6).1
      have p61 : p6 ≤ 255 := by rw [hp6]; exact (HP4.out.2.2 6).2
      have wp6 : IntKind.i64.wrap p6 = p6 := wj _ (by omega) (by omega)
      have HPl : Hid (∀ W, Up wr W → W.cell? ⟨pb, 0, none⟩ = some (.int .i64 p0) ∧ W.cell? ⟨pb, 1, none⟩ = some (.int .i64 p1) ∧ W.cell? ⟨pb, 2, none⟩ = some (.int .i64 p2) ∧ W.cell? ⟨pb, 3, none⟩ = some (.int .i64 p3) ∧ W.cell? ⟨pb, 6, none⟩ = some (.int .i64 p6) ∧ W.cell? ⟨pb, 7, none⟩ = some (.int .i64 p7)) := by
        rw [hp0, hp1, hp2, hp3, hp6, hp7]
        exact fun W u => ⟨(u.cell hpbw).trans (HSp.out 0 (by decide)).1, (u.cell hpbw).trans (HSp.out 1 (by decide)).1, (u.cell hpbw).trans (HSp.out 2 (by decide)).1, (u.cell hpbw).trans (HSp.out 3 (by decide)).1, (u.cell hpbw).trans (HSp.out 6 (by decide)).1, (u.cell hpbw).trans (HSp.out 7 (by decide)).1⟩
      obtain ⟨I, hI⟩ : ∃ I, I = 49408 + G.l := ⟨_, rfl⟩
      have hI0 : 0 ≤ I := by omega
      have hI1 : I < 65536 := by omega
      have hIh : IntKind.i64.wrap 49408 = 49408 := by decide
      have hIw : IntKind.i64.wrap (49408 + G.l) = I := by rw [hI]; exact wj _ (by omega) (by omega)
      have HMe : Hid (∀ W, Mem W gm (upd (mem1 512 (mvC l)) (49408 + G.l).toNat (P 6)) → W.cell? ⟨gm, I.toNat, none⟩ = some (.int .u8 p6)) := by
        intro W hm
        have := (hm.2 I.toNat (by omega)).1
        rw [hI, show upd (mem1 512 (mvC l)) (49408 + G.l).toNat (P 6) (49408 + G.l).toNat = P 6 from if_pos rfl, ← hp6] at this
        rw [hI]
        exact this
      clear hS9 HRu hT hp0 hp1 hp2 hp3 hp6 hp7 hI
      go_wp2_with (first
        | (go_at_call 19; refine Calls.mono (HRe.out) ?_; rintro e w91 ⟨rfl, hS91, hu91⟩
           have HS91 : Hid _ := hS91
           have HN91 : Hid (∀ o, (w91.alloc o).heap[w91.heap.size]? = some o) := heap_alloc_new w91
           have HX91 : Hid _ := rgNew w91 T
           clear hS91 hu91)
        | (refine wpList_store_rowTo rfl 23 _ _ rfl rfl w91.heap.size T.cells rfl rfl 23 #[.int .i64 0, .int .i64 0, .int .i64 0, .int .i64 0, .int .i64 0, .int .i64 0, .int .i64 0, .int .i64 0, .int .i64 0, .int .i64 0, .bool false, .int .i64 0] (HN91.out _) (by kernel_rfl) rfl (rgOne T) ?_
           generalize hW10 : World.setRow _ _ _ = W10
           obtain ⟨hg10, hu10⟩ := HX91.out W10 _ hW10
           have HS10 : Hid _ := HS91.out.ups hu10
           obtain ⟨t0, t1, t2, t3, t4, t5, t6, t7, t8, t9, t10, t11⟩ := regBlock T hg10
           obtain ⟨e2, e3, e4, e5, e6, e7, e0, e1⟩ := HT.out
           rw [e0] at t0
           rw [e1] at t1
           rw [e2] at t2
           rw [e3] at t3
           rw [e4] at t4
           rw [e5] at t5
           rw [e6] at t6
           rw [e7] at t7
           clear q0 q1 q2 q3 q4 q5 q6 q7 q8 q9 q10 q11
           obtain ⟨q0, q1, q2, q3, q4, q5, q6, q7, q8, q9, q10, q11⟩ := regBlock _ HS10.out.reg
           obtain ⟨k0, k1, k2, k3, k6, k7⟩ := HPl.out W10 HS10.out.up
           have cm := HMe.out W10 HS10.out.mem
           clear hW10 hu10 hg10 HX91 HN91 HS91 e0 e1 e2 e3 e4 e5 e6 e7 t8 t9 t10 t11))
      try dsimp only [List.append]
      go_quiet (fail)
      go_wp2
      go_ret
      exact ⟨rfl, (HUw.out.trans HS10.out.up).trans (by first | exact Up.drewN W10 _ | exact (Up.refl W10).drew | exact Up.refl W10)⟩

theorem moves_walk (g : Rg) (i : g.In) (pa : Option Addr) (ab ao len cap : Nat) (mv : Nat → Int) (hlen : len ≤ cap) (hcap : cap ≤ maxLen) (hpa : 0 < len → pa = some ⟨ab, ao, none⟩) (hmv : ∀ k, I64 (mv k)) (w : World) (hB : LaidB w)
    (har : ∀ k, k < len → w.cell? ⟨ab, ao + k, none⟩ = some (.int .i64 (mv k)) ∧ ab < w.heap.size) :
    Calls Tryz.prog 3 #[.agg g.cells, .slice pa len cap] w fun e w' => e = .returned (.bool true) ∧ Up w w' := by
  have HB : Hid (∀ W, Calls Tryz.prog 14 #[.agg #[.int .i64 g.a, .int .i64 g.f, .int .i64 g.b, .int .i64 g.c, .int .i64 g.d, .int .i64 g.e, .int .i64 g.h, .int .i64 g.l, .int .i64 g.sp, .int .i64 g.pc, .bool g.ime, .int .i64 g.state]] W fun e w' => e = .returned (.agg (bnd g).cells) ∧ Up W w') := fun W => bounded_any g i W
  have o := bnd_ok g
  have hs : (bnd g).state = 0 := rfl
  generalize bnd g = G at HB o hs
  exact moves_walk0 g G pa ab ao len cap mv hlen hcap hpa hmv o hs HB w hB har
end Go.Proofs.YtbfjihcnnefehaaGreatDoor
