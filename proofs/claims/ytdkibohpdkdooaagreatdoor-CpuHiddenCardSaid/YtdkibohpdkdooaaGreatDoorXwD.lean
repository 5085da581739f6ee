/- Proved: for all registers, codes and lines the law CpuHidden answers true, where the table of bits is as the program's text lays it; no other condition. -/
import Derived.Test.YtdkibohpdkdooaaGreatDoorXwA
import Derived.Deep.DeepCutAuto
import Derived.Test.YtdkibohpdkdooaaGreatDoorRows
import Derived.Test.YtdkibohpdkdooaaGreatDoorTie
import Derived.Test.YtdkibohpdkdooaaGreatDoorCards
import Derived.LaidMore
import Derived.Stop.Joined
import Derived.Lib.LaidTab
import Derived.SevenTiedAt
import Derived.Deep.Slices
import Derived.Deep.Frames
import Derived.Carry
import Derived.WalkKit
import Derived.ProofKit
import Derived.OpenShut
import Derived.ChangeSlices
/- CpuHidden's walk. -/
namespace Go.Proofs.YtdkibohpdkdooaaGreatDoor
open Go.RowKit
set_option linter.unusedVariables false
/-- two processors in one state -/
structure Tw (w : World) (bx ba : Nat) (s : St) (W : World) : Prop where
  px : Cp W bx s
  py : Cp W ba s
  nx : w.heap.size ≤ bx
  ny : bx < ba
  up : Up w W
  lb : LaidB W
theorem Tw.more {w W W' : World} {bx ba : Nat} {s : St} (h : Tw w bx ba s W) (u : Up W W') : Tw w bx ba s W' := ⟨h.px.up u, h.py.up u, h.nx, h.ny, h.up.trans u, h.lb.up u⟩
set_option maxRecDepth 100000 in
set_option maxHeartbeats 20000000 in
theorem hidden_walk {w : World} (g : Rg) (gi : g.In) {ca : Option Addr} {cb co cn cc : Nat} {C : Nat → Int} (DC : Ints w ca cb co cn cc C) {la : Option Addr} {lb lo ln lc : Nat} {L : Nat → Int} (DL : Ints w la lb lo ln lc L) (hB : LaidB w) :
    Calls Tryz.prog 3 #[.agg g.cells, .slice ca cn cc, .slice la ln lc] w fun e w' => e = .returned (.bool true) ∧ Up w w' := by
  have HB : Hid (∀ W, Calls Tryz.prog 4 #[.agg #[.int .i64 g.a, .int .i64 g.f, .int .i64 g.b, .int .i64 g.c, .int .i64 g.d, .int .i64 g.e, .int .i64 g.h, .int .i64 g.l, .int .i64 g.sp, .int .i64 g.pc, .bool g.ime, .int .i64 g.state]] W fun e w' => e = .returned (.agg (bnd g).cells) ∧ Up W w') := fun W => bounded_any g gi W
  have o := bnd_ok g
  have hst : (bnd g).state = 0 := rfl
  generalize hGG : bnd g = G at HB o hst
  have o5 : ({ G with sp := 60000, pc := 512, ime := true } : Rg).Ok := { o with pc := (show (0 : Int) ≤ 512 ∧ (512 : Int) ≤ 65535 by decide), sp := (show (0 : Int) ≤ 60000 ∧ (60000 : Int) ≤ 65535 by decide) }
  have HSt : Hid (∀ W, Calls Tryz.prog 5 #[.agg #[.int .i64 G.a, .int .i64 G.f, .int .i64 G.b, .int .i64 G.c, .int .i64 G.d, .int .i64 G.e, .int .i64 G.h, .int .i64 G.l, .int .i64 60000, .int .i64 512, .bool true, .int .i64 G.state]] W fun e w' => ∃ b, e = .returned (.pointer (some ⟨b, 0, none⟩)) ∧ W.heap.size ≤ b ∧ Cp w' b (bd (rgF G) 60000 512 true) ∧ Up W w') := fun W => started_ok { G with sp := 60000, pc := 512, ime := true } o5 hst W
  have HIv : Hid (bd (rgF G) 60000 512 true).Inv := bd_inv { G with sp := 60000, pc := 512, ime := true } o5 hst
  have HDC : Hid (Ints w ca cb co cn cc C) := DC
  have HDL : Hid (Ints w la lb lo ln lc L) := DL
  have hcc := DC.lc
  have hcc2 : cc ≤ 9223372036854775807 := by have := DC.cm; unfold maxLen at this; omega
  have hlc := DL.lc
  have hlc2 : lc ≤ 9223372036854775807 := by have := DL.cm; unfold maxLen at this; omega
  have HLB : Hid (LaidB w) := hB
  clear hGG gi o5 hst DC DL hB
  rw [show g.cells = #[.int .i64 g.a, .int .i64 g.f, .int .i64 g.b, .int .i64 g.c, .int .i64 g.d, .int .i64 g.e, .int .i64 g.h, .int .i64 g.l, .int .i64 g.sp, .int .i64 g.pc, .bool g.ime, .int .i64 g.state] from rfl]
  go_enter Tryz.func3, Tryz.ntmps3
  go_wp2_with (first
    | (go_at_call 4; refine (HB.out _).mono ?_; rintro e w2 ⟨rfl, hu2⟩
       have u2 : Up w w2 := ((Up.refl w).alloc _).trans hu2
       have HN2 : Hid (∀ o, (w2.alloc o).heap[w2.heap.size]? = some o) := heap_alloc_new w2
       have HX2 : Hid _ := rgNew w2 G
       clear hu2)
    | (refine wpList_store_rowTo rfl 23 _ _ rfl rfl w2.heap.size G.cells rfl rfl 23 #[.int .i64 0, .int .i64 0, .int .i64 0, .int .i64 0, .int .i64 0, .int .i64 0, .int .i64 0, .int .i64 0, .int .i64 0, .int .i64 0, .bool false, .int .i64 0] (HN2.out _) (by kernel_rfl) rfl (rgOne G) ?_
       generalize hW3 : World.setRow _ _ _ = W3
       obtain ⟨hg3, hu3⟩ := HX2.out W3 _ hW3
       have u3 := u2.trans hu3
       have hl3 : w2.heap.size < W3.heap.size := (Array.getElem?_eq_some_iff.1 hg3).1
       obtain ⟨r0, r1, r2, r3, r4, r5, r6, r7, r8, r9, r10, r11⟩ := regBlock G hg3
       have HG3 : Hid (RgAt W3 w2.heap.size G) := hg3
       have hz3 := u2.size
       have fz8 : W3.frozen? ⟨w2.heap.size, 8, none⟩ = false := by simp [World.frozen?, hg3]
       have fz9 : W3.frozen? ⟨w2.heap.size, 9, none⟩ = false := by simp [World.frozen?, hg3]
       have fz10 : W3.frozen? ⟨w2.heap.size, 10, none⟩ = false := by simp [World.frozen?, hg3]
       clear hW3 hu3 hg3 u2 HX2 HN2))
  refine (HSt.out _).mono ?_
  rintro e w4 ⟨bx, rfl, hbx, h4, hu4⟩
  have hbx' : W3.heap.size ≤ bx := by simp at hbx; omega
  have u4 : Up w w4 := (((u3.setCell (p := ⟨w2.heap.size, 9, none⟩) hz3 _).setCell (p := ⟨w2.heap.size, 8, none⟩) hz3 _).setCell (p := ⟨w2.heap.size, 10, none⟩) hz3 _).trans hu4
  have hr4 : RgAt w4 w2.heap.size { G with sp := 60000, pc := 512, ime := true } := (((HG3.out.set (H := { G with pc := 512 }) 9 _ rfl).set (H := { G with sp := 60000, pc := 512 }) 8 _ rfl).set (H := { G with sp := 60000, pc := 512, ime := true }) 10 _ rfl).up hu4
  generalize hp : w2.heap.size = p at *
  have hbw : w.heap.size ≤ bx := by have := u3.size; omega
  clear hbx hu4 r0 r1 r2 r3 r4 r5 r6 r7 r8 r9 r10 r11 fz8 fz9 fz10 u3 HG3 hz3 hl3 hbx' hp
  obtain ⟨r0, r1, r2, r3, r4, r5, r6, r7, r8, r9, r10, r11⟩ := regBlock _ hr4
  go_wp2_with fail
  refine (HSt.out _).mono ?_
  rintro e w5 ⟨ba, rfl, hba, h5, hu5⟩
  have H5 : Hid (Tw w bx ba (bd (rgF G) 60000 512 true) w5) := ⟨h4.up hu5, h5, hbw, by have := h4.lt; omega, u4.trans hu5, HLB.out.up (u4.trans hu5)⟩
  clear hba h5 hu5 h4 u4 hbw hr4 r0 r1 r2 r3 r4 r5 r6 r7 r8 r9 r10 r11 HSt HB
  go_wp2_with fail
  go_loopw [10, 11] (fun V I wr => ∃ (i : Nat) (F : Nat → Int), i ≤ 60 ∧ i ≤ cn ∧ I = .int .i64 i ∧ Hid (Ow w5 F i V wr ∧ (∀ k, k < i → Pl (F k)) ∧ ∀ k, 0 ≤ F k ∧ F k ≤ 255)) (fun _ I _ => 60 - (intOf I).toNat)
  case atStart => exact ⟨0, fun _ => 0, by omega, by omega, rfl, ⟨World.ownsRow_nil _ _ _ _, Up.refl _⟩, fun k hk => absurd hk (by omega), fun _ => (show (0 : Int) ≤ 0 ∧ (0 : Int) ≤ 255 by decide)⟩
  case round =>
    obtain ⟨i, F, hi, hin, rfl, M⟩ := hrel
    have HM : Hid _ := M
    clear M
    go_upto_region 11 with fail
    go_cut [49] (fun b wx => wr = wx ∧ b = .bool (decide (i < cn ∧ i < 60)))
    case first =>
      clear HM
      by_cases h1 : i < cn
      · have d1 : decide ((i : Int) < (cn : Int)) = true := decide_eq_true (by omega)
        have e1 : (i : Int) < (cn : Int) := by omega
        by_cases h2 : i < 60
        · have d2 : decide ((i : Int) < (60 : Int)) = true := decide_eq_true (by omega)
          have e2 : (i : Int) < 60 := by omega
          skip
          go_wp2_with fail
          go_meet
          exact ⟨rfl, by rw [decide_eq_true (show i < cn ∧ i < 60 from ⟨h1, h2⟩)]⟩
        · have d2 : decide ((i : Int) < (60 : Int)) = false := decide_eq_false (by omega)
          have e2 : ¬ (i : Int) < 60 := by omega
          skip
          go_wp2_with fail
          go_meet
          exact ⟨rfl, by rw [decide_eq_false (show ¬ (i < cn ∧ i < 60) from fun h => h2 h.2)]⟩
      · have d1 : decide ((i : Int) < (cn : Int)) = false := decide_eq_false (by omega)
        have e1 : ¬ (i : Int) < (cn : Int) := by omega
        skip
        go_wp2_with fail
        go_meet
        exact ⟨rfl, by rw [decide_eq_false (show ¬ (i < cn ∧ i < 60) from fun h => h1 h.1)]⟩
    case rest =>
    obtain ⟨hwx, rfl⟩ := hcut
    subst hwx
    by_cases hlt : i < cn ∧ i < 60
    · rw [decide_eq_true hlt]
      obtain ⟨h1, h2⟩ := hlt
      have hw1 : IntKind.i64.wrap ((i : Int) + 1) = (i : Int) + 1 := by rw [IntKind.wrap_i64]; omega
      have e1 : (i : Int) < (cn : Int) := by omega
      obtain rfl := HDC.out.ad (by omega)
      have k1 := (HDC.out.up (H5.out.up.trans HM.out.1.up)).cell i h1
      have HCi : Hid (I64 (C i)) := HDC.out.i64 i
      have hie : Tryz.prog.info? 5 = some Tryz.t5 := by kernel_rfl
      go_wp2_with fail
      refine (plain_any (C i) HCi.out wr).mono ?_
      rintro e w6 ⟨⟨c, rfl, hc⟩, hu6⟩
      have HPc : Hid (Pl c) := hc
      have HM6 : Hid (Ow w5 F i _ w6) := HM.out.1.moreU hu6
      clear hc hu6 k1
      go_wp2_with (at_builtin; refine wpList_append_own _ rfl _ _ 28 rfl w5.heap.size 5 Tryz.t5 (.int .u8 0) 1 1 Tryz.underlying28 hie rfl rfl rfl rfl (by decide) _ _ _ rfl (HM6.out.own.alloc _) ⟨w6.heap.size, 0, none⟩ 1 1 [.int .u8 c] rfl rfl ?c1 ?c2 ?c3 ?c4 ?c5 ?_)
      case c1 =>
        intro j u hu
        match j, hu with
        | 0, hu => simp at hu; subst hu; simp [Addr.add]
      case c2 => intro u hu; simp at hu; subst hu; rfl
      case c3 => unfold maxLen; omega
      case c4 => omega
      case c5 => have := HM6.out.up.size; simp; omega
      intro v' w7 hown' hgrow _
      have hpb := pl_b HPc.out
      have HN7 : Hid (∃ F', Ow w5 F' (i + 1) v' w7 ∧ (∀ k, k < i + 1 → Pl (F' k)) ∧ ∀ k, 0 ≤ F' k ∧ F' k ≤ 255) := by
        have hrow : rowL (fun k => if k = i then c else F k) i = rowL F i := rowL_congr i (fun k hk => if_neg (by omega))
        have hO : Ow w5 (fun k => if k = i then c else F k) i _ w6 := ⟨by rw [hrow]; exact HM6.out.own, HM6.out.up⟩
        refine ⟨fun k => if k = i then c else F k, hO.app (m := i + 1) hgrow ?_, fun k hk => ?_, fun k => ?_⟩
        · rw [rowL_succ, hrow, if_pos rfl]
          exact hown'
        · show Pl (if k = i then c else F k)
          split
          · exact HPc.out
          · exact HM.out.2.1 k (by omega)
        · show 0 ≤ (if k = i then c else F k) ∧ (if k = i then c else F k) ≤ 255
          split
          · exact hpb
          · exact HM.out.2.2 k
      clear hown' hgrow hpb HM6 HPc HM HCi
      go_wp2_with fail
      obtain ⟨F', hF'⟩ := HN7.out
      refine ⟨⟨i + 1, F', by omega, by omega, by first | rfl | (simp; done) | (rw [hw1]; rfl), hF'⟩, ?_⟩
      simp [intOf]; omega
    · rw [decide_eq_false hlt]
      obtain ⟨oa, ob, oc, rfl, hby, hob⟩ := own_byts HM.out.1.own HM.out.2.2
      have H6 : Hid (Tw w bx ba (bd (rgF G) 60000 512 true) wr ∧ Byts wr oa ob 0 i oc F ∧ (∀ k, k < i → Pl (F k)) ∧ i ≤ 60) := ⟨H5.out.more HM.out.1.up, hby, HM.out.2.1, hi⟩
      clear HM hby hob hlt
      go_wp2_with fail
      generalize hW7 : World.alloc (World.alloc _ _) _ = w7
      obtain ⟨p0, p1, p2, p3, p4, p5, u7⟩ := six_new wr _ w7 hW7
      have hP7 : Pcs w7 (wr.heap.size + 1 + 1 + 1 + 1 + 1) (six ((List.range i).map F)) :=
        pcs6 p0 (lst_byts (H6.out.2.1.upT u7) wr.heap.size (heap_at p1)) (fun x hx => by
          obtain ⟨k, _, rfl⟩ := List.mem_map.1 hx
          exact H6.out.2.1.u8 k) (by omega) p1 p2 p3 p4 p5
      have HP7 : Hid (Pcs w7 (wr.heap.size + 1 + 1 + 1 + 1 + 1) (six ((List.range i).map F)) ∧ Up wr w7) := ⟨hP7, u7⟩
      clear hW7 p0 p1 p2 p3 p4 p5 u7 hP7
      generalize wr.heap.size + 1 + 1 + 1 + 1 + 1 = gp at HP7 ⊢
      refine (mem_any6 HP7.out.1).mono ?_
      rintro e w8 ⟨rfl, hm8, hu8⟩
      generalize hgm : w7.heap.size = gm at hm8 ⊢
      have H8 : Hid (Mem w8 gm (memH ((List.range i).map F)) ∧ Up w7 w8 ∧ ba < gm) := ⟨hm8, hu8, by have := (H6.out.1.py.up HP7.out.2).lt; omega⟩
      clear hgm hm8 hu8
      go_wp2_with fail
      refine (mem_any6 (HP7.out.1.upP H8.out.2.1)).mono ?_
      rintro e w9 ⟨rfl, hm9, hu9⟩
      generalize hgk : w8.heap.size = gk at hm9 ⊢
      have H9 : Hid (Mem w9 gm (memH ((List.range i).map F)) ∧ Mem w9 gk (memH ((List.range i).map F)) ∧ Tw w bx ba (bd (rgF G) 60000 512 true) w9 ∧ ba < gm ∧ gm < gk) := ⟨H8.out.1.up hu9, hm9, H6.out.1.more (HP7.out.2.trans (H8.out.2.1.trans hu9)), H8.out.2.2, by have := H8.out.1.1; omega⟩
      clear hgk hm9 hu9 H8 HP7
      have hlen : ((List.range i).map F).length = i := by simp
      have HSs : Hid (∃ (c : Nat → Int) (R : Nat → Nat → Int), R 0 = rgF G ∧ Hs w bx ba gm i c R ∧ Code i c (memH ((List.range i).map F)) ∧ Byt (memH ((List.range i).map F))) := by
        have hcode := memH_code ((List.range i).map F) (by omega)
        rw [hlen] at hcode
        refine ⟨_, rgs (fun k => ((List.range i).map F).getD k 0) (rgF G), rfl, ⟨H6.out.1.nx, H6.out.1.ny, H9.out.2.2.2.1, HLB.out.1, H6.out.2.2.2, fun k hk => ?_, fun k _ => rfl⟩, hcode, memH_byt _ (fun x hx => ?_)⟩
        · show Pl (((List.range i).map F).getD k 0)
          rw [getD_range F i k hk]
          exact H6.out.2.2.1 k hk
        · obtain ⟨k, _, rfl⟩ := List.mem_map.1 hx
          exact H6.out.2.1.u8 k
      generalize memH ((List.range i).map F) = f0 at H9 HSs
      obtain ⟨c, R, hR0, hS, hcode, hbyt⟩ := HSs.out
      have HS : Hid (Hs w bx ba gm i c R ∧ Code i c f0 ∧ Byt f0 ∧ bd (rgF G) 60000 512 true = bd (R 0) 60000 (pcI 0) true) := ⟨hS, hcode, hbyt, by rw [hR0]; rfl⟩
      clear hR0 hS hcode hbyt HSs hlen H6 H5 HDC
      have hRu : Hid _ := runs_any i (by omega) (fun k => (bd (R k) 60000 (pcI k) true, f0)) (fun k => if isOne (c k) then 1 else 2) ba gk w9 (by show Cp w9 ba (bd (R 0) 60000 (pcI 0) true); rw [← HS.out.2.2.2]; exact H9.out.2.2.1.py) (by show (bd (R 0) 60000 (pcI 0) true).Inv; rw [← HS.out.2.2.2]; exact HIv.out) ⟨H9.out.2.2.1.lb, by have := H9.out.2.2.1.nx; have := H9.out.2.2.1.ny; omega⟩ H9.out.2.1 HS.out.2.2.1 (by have := H9.out; omega) (by have := H9.out; omega) (fun k hk => pl_ins HS.out.2.1 HS.out.1.hn HS.out.1.pl HS.out.1.rr k hk) (fun k => by split <;> omega)
      go_wp2_with fail
      refine Calls.mono hRu.out ?_
      rintro e w10 ⟨rfl, hc10, hm10, hF10⟩
      have HA : Hid (Hm w bx ba gm i c R 0 (bd (R 0) 60000 (pcI 0) true) f0 w10) := by
        have hbx : bx ≠ ba ∧ bx ≠ gk ∧ gm ≠ ba ∧ gm ≠ gk := by have := H9.out.2.2.1.ny; have := H9.out; omega
        refine ⟨?_, ?_, hc10, ?_, HS.out.2.2.1, ⟨_, .a 0 (Nat.zero_le _), fun h => absurd h (by decide)⟩, HS.out.2.1, ?_, ?_⟩
        · rw [← HS.out.2.2.2]; exact (hF10.block bx H9.out.2.2.1.px.lt hbx.1 hbx.2.1).trans H9.out.2.2.1.px
        · exact H9.out.1.of_block hF10.size (hF10.block gm H9.out.1.1 hbx.2.2.1 hbx.2.2.2)
        · rw [← HS.out.2.2.2]; exact HIv.out
        · exact Fr2.up H9.out.2.2.1.up (by have := H9.out.2.2.1.nx; have := H9.out.2.2.1.ny; omega) (by have := H9.out.2.2.1.nx; have := H9.out.2.2.1.ny; have := H9.out; omega) hF10
        · have h0 := H9.out.2.2.1.lb
          refine ⟨Nat.lt_of_lt_of_le h0.1 hF10.size, fun q hq => ?_⟩
          rw [← h0.2 q hq]
          exact Fr2.cellq hF10 h0.1 (by have := H9.out.2.2.1.nx; have := H9.out.2.2.1.ny; have := HS.out.1.w0; omega) (by have := H9.out; have := H9.out.2.2.1.nx; have := H9.out.2.2.1.ny; omega)
      have HSS : Hid (Hs w bx ba gm i c R) := HS.out.1
      clear hc10 hm10 hF10 hRu H9 HS HIv
      go_wp2_with fail
      go_loopw [17, 18] (fun T I wr => ∃ (j : Nat) (s : St) (f : Nat → Int) (tk : Int), j ≤ 3000 ∧ T = .int .i64 tk ∧ I = .int .i64 j ∧ Hid (Hm w bx ba gm i c R j s f wr)) (fun _ I _ => 3000 - (intOf I).toNat)
      case atStart => exact ⟨0, _, _, 0, by omega, rfl, rfl, HA⟩
      case round =>
        clear HA
        obtain ⟨j, s, f, tk, hj, rfl, rfl, HA⟩ := hrel
        by_cases hj3 : j < 3000
        · have hj4 : (j : Int) < 3000 := by omega
          have hwj : IntKind.i64.wrap ((j : Int) + 1) = (j : Int) + 1 := by rw [IntKind.wrap_i64]; omega
          go_wp2_with fail
          refine (boundary_any bx s wr HA.out.px HA.out.inv.ok).mono ?_
          rintro e w11 ⟨rfl, n1, rfl⟩
          have HA1 : Hid (Hm w bx ba gm i c R j s f (wr.drewN n1)) := HA.out.more (Up.drewN _ _)
          generalize wr.drewN n1 = w11 at HA1 ⊢
          clear HA
          obtain ⟨bp, hbp⟩ : ∃ b, b = (s.phase == 0) := ⟨_, rfl⟩
          rw [← hbp]
          have HBp : Hid (bp = true ↔ s.phase = 0) := by rw [hbp]; exact beq_iff_eq
          clear hbp
          go_wp2_with fail
          refine (regs_any bx s w11 HA1.out.px HA1.out.inv.ok).mono ?_
          rintro e w12 ⟨rfl, u12⟩
          have HA2 : Hid (Hm w bx ba gm i c R j s f w12) := HA1.out.more u12
          clear HA1 u12
          obtain ⟨T, hT⟩ : ∃ T, T = toRg s := ⟨_, rfl⟩
          rw [← hT]
          have HT : Hid (T.pc = s.pc ∧ T.sp = s.sp) := by rw [hT]; exact ⟨rfl, rfl⟩
          clear hT
          have HNv : Hid (∀ o, (w12.alloc o).heap[w12.heap.size]? = some o) := heap_alloc_new w12
          have HXv : Hid _ := rgNew w12 T
          have hw5 : IntKind.i64.wrap (512 + (i : Int)) = 512 + (i : Int) := by rw [IntKind.wrap_i64]; omega
          go_upto_region 24 with (
                       refine wpList_store_rowTo rfl 23 _ _ rfl rfl w12.heap.size T.cells rfl rfl 23 #[.int .i64 0, .int .i64 0, .int .i64 0, .int .i64 0, .int .i64 0, .int .i64 0, .int .i64 0, .int .i64 0, .int .i64 0, .int .i64 0, .bool false, .int .i64 0] (HNv.out _) (by kernel_rfl) rfl (rgOne T) ?_
                       generalize hW3 : World.setRow _ _ _ = v4
                       obtain ⟨hc3, hu3⟩ := HXv.out v4 _ hW3
                       clear hW3
                       generalize hvb : w12.heap.size = xb at hc3 ⊢
                       obtain ⟨q0, q1, q2, q3, q4, q5, q6, q7, q8, q9, q10, q11⟩ := regBlock T hc3
                       have HA4 : Hid (Hm w bx ba gm i c R j s f v4) := HA2.out.more hu3
                       clear hu3 hc3 HNv HXv HA2 hvb q0 q1 q2 q3 q4 q5 q6 q7 q10 q11)
          go_cut [106] (fun b wx => v4 = wx ∧ b = .bool (decide (s.phase = 0 ∧ s.pc = pcI i ∧ s.sp = 60000)))
          case first =>
            clear HA4 HSS HDL HLB
            cases bp
            · have h0 : ¬ s.phase = 0 := fun h => by have := HBp.out.2 h; cases this
              go_wp2_with fail
              go_meet
              exact ⟨rfl, by rw [decide_eq_false (fun h => h0 h.1)]⟩
            · have h0 : s.phase = 0 := HBp.out.1 rfl
              by_cases h1 : s.pc = pcI i
              · have c1 : (T.pc == 512 + (i : Int)) = true := by rw [HT.out.1, h1]; unfold pcI; exact beq_self_eq_true _
                by_cases h2 : s.sp = 60000
                · have c2 : (T.sp == 60000) = true := by rw [HT.out.2, h2]; rfl
                  have HH : Hid _ := decide_eq_true (show s.phase = 0 ∧ s.pc = pcI i ∧ s.sp = 60000 from ⟨h0, h1, h2⟩)
                  clear h0 h1 h2
                  go_wp2_with fail
                  go_meet
                  exact ⟨rfl, by rw [HH.out]⟩
                · have c2 : (T.sp == 60000) = false := by rw [HT.out.2]; exact beq_eq_false_iff_ne.2 h2
                  have HH : Hid _ := decide_eq_false (show ¬ (s.phase = 0 ∧ s.pc = pcI i ∧ s.sp = 60000) from fun h => h2 h.2.2)
                  clear h0 h1 h2
                  go_wp2_with fail
                  go_meet
                  exact ⟨rfl, by rw [HH.out]⟩
              · have c1 : (T.pc == 512 + (i : Int)) = false := by rw [HT.out.1]; exact beq_eq_false_iff_ne.2 (by unfold pcI at h1; exact h1)
                have HH : Hid _ := decide_eq_false (show ¬ (s.phase = 0 ∧ s.pc = pcI i ∧ s.sp = 60000) from fun h => h1 h.2.1)
                clear h0 h1
                go_wp2_with fail
                go_meet
                exact ⟨rfl, by rw [HH.out]⟩
          case rest =>
          obtain ⟨hwx, rfl⟩ := hcut
          subst hwx
          clear HBp HT q8 q9
          by_cases hend : s.phase = 0 ∧ s.pc = pcI i ∧ s.sp = 60000
          · rw [decide_eq_true hend]
            have HE : Hid _ := hend
            clear hend
            go_wp2_with fail
            obtain ⟨k, hk, _⟩ := HA4.out.at_
            have hs := hk.fin HSS.out.hn HE.out.1 HE.out.2.1 HE.out.2.2
            clear hk
            subst hs
            have HRx : Hid (∀ W, Up v4 W → Calls Tryz.prog 10 #[.pointer (some ⟨bx, 0, none⟩)] W fun e w' => e = .returned (.agg (toRg (bd (R i) 60000 (pcI i) true)).cells) ∧ Up W w') := fun W u => regs_any bx _ W (HA4.out.px.up u) HA4.out.inv.ok
            have HRy : Hid (∀ W, Up v4 W → Calls Tryz.prog 10 #[.pointer (some ⟨ba, 0, none⟩)] W fun e w' => e = .returned (.agg (toRg (bd (R i) 60000 (pcI i) true)).cells) ∧ Up W w') := fun W u => regs_any ba _ W (HA4.out.py.up u) HA4.out.inv.ok
            obtain ⟨T2, hT2⟩ : ∃ T2, T2 = toRg (bd (R i) 60000 (pcI i) true) := ⟨_, rfl⟩
            rw [← hT2] at HRx HRy
            have him : T2.ime = true := by rw [hT2]; rfl
            have HUp : Hid (Up w v4) := HA4.out.up
            clear hT2 HA4 HE HSS HDL HLB
            refine (HRx.out v4 (Up.refl _)).mono ?_
            rintro e v5 ⟨rfl, u5⟩
            have HV5 : Hid (Up v4 v5) := u5
            clear u5 HRx
            have HNv : Hid (∀ o, (v5.alloc o).heap[v5.heap.size]? = some o) := heap_alloc_new v5
            have HXv : Hid _ := rgNew v5 T2
            go_wp2_with (
                refine wpList_store_rowTo rfl 23 _ _ rfl rfl v5.heap.size T2.cells rfl rfl 23 #[.int .i64 0, .int .i64 0, .int .i64 0, .int .i64 0, .int .i64 0, .int .i64 0, .int .i64 0, .int .i64 0, .int .i64 0, .int .i64 0, .bool false, .int .i64 0] (HNv.out _) (by kernel_rfl) rfl (rgOne T2) ?_
                generalize hW3 : World.setRow _ _ _ = v6
                obtain ⟨hc3, hu3⟩ := HXv.out v6 _ hW3
                clear hW3
                generalize hvb : v5.heap.size = xs at hc3 ⊢
                have HV6 : Hid (Up v4 v6 ∧ RgAt v6 xs T2) := ⟨HV5.out.trans hu3, hc3⟩
                clear hu3 hc3 HNv HXv hvb)
            refine (HRy.out v6 HV6.out.1).mono ?_
            rintro e v7 ⟨rfl, u7⟩
            have HV7 : Hid (Up v4 v7 ∧ RgAt v7 xs T2) := ⟨HV6.out.1.trans u7, HV6.out.2.up u7⟩
            clear u7 HRy HV6 HV5
            have HNv : Hid (∀ o, (v7.alloc o).heap[v7.heap.size]? = some o) := heap_alloc_new v7
            have HXv : Hid _ := rgNew v7 T2
            go_upto_region 37 with (
                refine wpList_store_rowTo rfl 23 _ _ rfl rfl v7.heap.size T2.cells rfl rfl 23 #[.int .i64 0, .int .i64 0, .int .i64 0, .int .i64 0, .int .i64 0, .int .i64 0, .int .i64 0, .int .i64 0, .int .i64 0, .int .i64 0, .bool false, .int .i64 0] (HNv.out _) (by kernel_rfl) rfl (rgOne T2) ?_
                generalize hW3 : World.setRow _ _ _ = v8
                obtain ⟨hc3, hu3⟩ := HXv.out v8 _ hW3
                clear hW3
                generalize hvb : v7.heap.size = xt at hc3 ⊢
                obtain ⟨q0, q1, q2, q3, q4, q5, q6, q7, q8, q9, q10, q11⟩ := regBlock T2 hc3
                obtain ⟨r0, r1, r2, r3, r4, r5, r6, r7, r8, r9, r10, r11⟩ := regBlock T2 (HV7.out.2.up hu3)
                rw [him] at q10 r10
                have HV8 : Hid (Up w v8) := HUp.out.trans (HV7.out.1.trans hu3)
                clear hu3 hc3 HNv HXv hvb)
            have ea : (T2.a == T2.a) = true := beq_self_eq_true _
            have ef : (T2.f == T2.f) = true := beq_self_eq_true _
            have eb : (T2.b == T2.b) = true := beq_self_eq_true _
            have ec : (T2.c == T2.c) = true := beq_self_eq_true _
            have ed : (T2.d == T2.d) = true := beq_self_eq_true _
            have ee : (T2.e == T2.e) = true := beq_self_eq_true _
            have eh : (T2.h == T2.h) = true := beq_self_eq_true _
            have el : (T2.l == T2.l) = true := beq_self_eq_true _
            have es : (T2.sp == T2.sp) = true := beq_self_eq_true _
            have ep : (T2.pc == T2.pc) = true := beq_self_eq_true _
            clear HV7 him q10 q11 r11 hwj hw5
            dsimp only [List.append]
            by_cases htk : tk = 0
            · have c0 : (tk == 0) = true := by rw [htk]; rfl
              clear htk
              go_wp2_with fail
              go_ret
              exact ⟨by first | rfl | (simp; done), by first | exact HV8.out | exact HV8.out.trans (Up.drewN _ _) | exact HV8.out.trans (Up.refl _).drew⟩
            · have c0 : (tk == 0) = false := beq_eq_false_iff_ne.2 htk
              clear htk
              go_wp2_with fail
              go_ret
              exact ⟨by first | rfl | (simp; done), by first | exact HV8.out | exact HV8.out.trans (Up.drewN _ _) | exact HV8.out.trans (Up.refl _).drew⟩
          · rw [decide_eq_false hend]
            have HE : Hid _ := hend
            clear hend
            go_upto_region 26 with fail
            go_cut [113] (fun b wx => v4 = wx ∧ b = .bool (decide (j < 2000 ∧ j % 16 < 8)))
            case first =>
              clear HA4 HSS HDL HLB HE
              have hm : (j : Int).tmod 16 = ((j % 16 : Nat) : Int) := by rw [Int.tmod_eq_emod_of_nonneg (by omega)]; omega
              have hm2 : (j : Int) % 16 = ((j % 16 : Nat) : Int) := by omega
              by_cases h1 : j < 2000
              · have e1 : (j : Int) < 2000 := by omega
                have d1 : decide ((j : Int) < 2000) = true := decide_eq_true e1
                by_cases h2 : j % 16 < 8
                · have e3 : (j : Int) % 16 < 8 := by omega
                  have d3 : decide ((j : Int) % 16 < 8) = true := decide_eq_true e3
                  have HH : Hid _ := decide_eq_true (show j < 2000 ∧ j % 16 < 8 from ⟨h1, h2⟩)
                  clear h1 h2 hm2 hm
                  go_wp2_with fail
                  go_meet
                  exact ⟨rfl, by rw [HH.out]⟩
                · have e3 : ¬ (j : Int) % 16 < 8 := by omega
                  have d3 : decide ((j : Int) % 16 < 8) = false := decide_eq_false e3
                  have HH : Hid _ := decide_eq_false (show ¬ (j < 2000 ∧ j % 16 < 8) from fun h => h2 h.2)
                  clear h1 h2 hm2 hm
                  go_wp2_with fail
                  go_meet
                  exact ⟨rfl, by rw [HH.out]⟩
              · have e1 : ¬ (j : Int) < 2000 := by omega
                have d1 : decide ((j : Int) < 2000) = false := decide_eq_false e1
                have HH : Hid _ := decide_eq_false (show ¬ (j < 2000 ∧ j % 16 < 8) from fun h => h1 h.1)
                clear h1 hm2 hm
                go_wp2_with fail
                go_meet
                exact ⟨rfl, by rw [HH.out]⟩
            case rest =>
            obtain ⟨hwx, rfl⟩ := hcut
            subst hwx
            refine ‹∀ (a : Act) (w : World), Code.wp _ (Code.cond (Operand.tmp 113) _ _) _ a w → _› _ _ ?_
            go_cut [21] (fun x wx => ∃ l : Int, x = .int .i64 l ∧ Hid (I64 l ∧ (2000 ≤ j → l = 0) ∧ Hm w bx ba gm i c R j s f wx))
            case first =>
              clear HSS HLB HE
              by_cases hc : j < 2000 ∧ j % 16 < 8
              · rw [decide_eq_true hc]
                obtain ⟨q, hq⟩ : ∃ q : Nat, q = j / 16 := ⟨_, rfl⟩
                have HAt : Hid _ := at_list (HDL.out.up HA4.out.up) q (by omega)
                have h1 : (j : Int).tdiv 16 = (q : Int) := by rw [Int.tdiv_eq_ediv_of_nonneg (by omega)]; omega
                have h2 : (j : Int) / 16 = (q : Int) := by omega
                have hq4 : q < 4000 := by omega
                have h3 : IntKind.i64.wrap (q : Int) = (q : Int) := by rw [IntKind.wrap_i64]; omega
                have HC : Hid _ := hc.1
                have HJ : Hid _ := hj
                clear hc hq hj hj3 hj4 hwj hw5 hcc hcc2 hlc hlc2
                go_wp2_with fail
                refine Calls.mono HAt.out ?_
                rintro e v5 ⟨rfl, u5⟩
                have HA5 : Hid (Hm w bx ba gm i c R j s f v5) := HA4.out.more u5
                have HL : Hid (I64 (atL ln L q)) := atL_i64 HDL.out _
                clear u5 HAt HA4 h1 h2 hq4 h3
                go_wp2_with fail
                refine (pick_any (atL ln L q) 32 v5 HL.out (by decide) (by decide)).mono ?_
                rintro e w' ⟨rfl, hw'⟩
                obtain rfl := hw'.symm
                clear hw'
                have hp := pick_in (atL ln L q) 32 (by decide)
                have HP : Hid (I64 (pickI (atL ln L q) 32) ∧ (2000 ≤ j → pickI (atL ln L q) 32 = 0)) := ⟨by unfold I64; omega, fun h => absurd HC.out (by omega)⟩
                generalize pickI (atL ln L q) 32 = l at HP ⊢
                clear hp HC HL
                go_wp2_with fail
                go_meet
                exact ⟨l, rfl, HP.out.1, HP.out.2, HA5.out⟩
              · rw [decide_eq_false hc]
                clear hc
                go_wp2_with fail
                go_meet
                exact ⟨0, rfl, by unfold I64; decide, fun _ => rfl, HA4.out⟩
            case rest =>
            obtain ⟨l, rfl, HL⟩ := hcut
            clear HA4 HDL
            go_wp2_with fail
            refine (hm_cycle HSS.out HL.out.2.2 l HL.out.1 HL.out.2.1 HE.out).mono ?_
            rintro e v6 ⟨a, s', f', rfl, hm', ht⟩
            have HM6 : Hid (Hm w bx ba gm i c R (j + 1) s' f' v6) := hm'
            have HTk : Hid (a ≠ 0 → Tk i s' f' a) := ht
            clear hm' ht HL HE
            by_cases ha : a = 0
            · subst ha
              go_wp2_with fail
              refine ⟨⟨j + 1, s', f', tk, by omega, rfl, by first | rfl | (simp; done) | (rw [hwj]; rfl), HM6⟩, ?_⟩
              simp [intOf]; omega
            · have na : (a != 0) = true := by simp [ha]
              have HK : Hid (Tk i s' f' a) := HTk.out ha
              clear HTk
              go_wp2_with fail
              refine (regs_any bx s' v6 HM6.out.px HM6.out.inv.ok).mono ?_
              rintro e v7 ⟨rfl, u7⟩
              have HM7 : Hid (Hm w bx ba gm i c R (j + 1) s' f' v7) := HM6.out.more u7
              clear u7 HM6
              obtain ⟨T2, hT2⟩ : ∃ T2, T2 = toRg s' := ⟨_, rfl⟩
              rw [← hT2]
              have HT2 : Hid (T2.ime = s'.ime ∧ T2.sp = s'.sp ∧ T2.pc = s'.pc) := by rw [hT2]; exact ⟨rfl, rfl, rfl⟩
              clear hT2
              have HNv : Hid (∀ o, (v7.alloc o).heap[v7.heap.size]? = some o) := heap_alloc_new v7
              have HXv : Hid _ := rgNew v7 T2
              go_wp2_with (
                refine wpList_store_rowTo rfl 23 _ _ rfl rfl v7.heap.size T2.cells rfl rfl 23 #[.int .i64 0, .int .i64 0, .int .i64 0, .int .i64 0, .int .i64 0, .int .i64 0, .int .i64 0, .int .i64 0, .int .i64 0, .int .i64 0, .bool false, .int .i64 0] (HNv.out _) (by kernel_rfl) rfl (rgOne T2) ?_
                generalize hW3 : World.setRow _ _ _ = v8
                obtain ⟨hc3, hu3⟩ := HXv.out v8 _ hW3
                clear hW3
                generalize hvb : v7.heap.size = xs at hc3 ⊢
                have HV8 : Hid (Hm w bx ba gm i c R (j + 1) s' f' v8 ∧ RgAt v8 xs T2) := ⟨HM7.out.more hu3, hc3⟩
                clear hu3 hc3 HNv HXv hvb)
              refine wp_still2 10 (by kernel_rfl) (by decide +kernel) ?_
              intro v9 hv9
              have HV9 : Hid (Hm w bx ba gm i c R (j + 1) s' f' v9 ∧ RgAt v9 xs T2) := by rw [hv9]; exact ⟨HV8.out.1.more (Up.refl v8).drew, HV8.out.2.up (Up.refl v8).drew⟩
              clear hv9 HV8 HM7
              have m1 := (HV9.out.1.mm.2 59998 (by decide)).1
              have m2 := (HV9.out.1.mm.2 59999 (by decide)).1
              obtain ⟨x1, x2⟩ := HV9.out.1.byt 59998
              obtain ⟨y1, y2⟩ := HV9.out.1.byt 59999
              have hk := HK.out
              have k3 := hk.b0
              have k4 := hk.b1
              obtain ⟨m, hm5, k5, k6⟩ := hk.pc
              obtain ⟨_, _, _, _, _, _, _, _, q8, q9, q10, _⟩ := regBlock T2 HV9.out.2
              rw [HT2.out.1, hk.ime] at q10
              rw [HT2.out.2.1, hk.sp] at q8
              rw [HT2.out.2.2, k5] at q9
              clear HK hk k5 HT2
              generalize f' 59998 = X at m1 x1 x2 k3 k4
              generalize f' 59999 = Y at m2 y1 y2 k3 k4
              have hwy : IntKind.i64.wrap (256 * Y) = 256 * Y := by rw [IntKind.wrap_i64]; omega
              have hwx : IntKind.i64.wrap (X + 256 * Y) = X + 256 * Y := by rw [IntKind.wrap_i64]; omega
              have hwi : IntKind.i64.wrap (512 + (i : Int)) = 512 + (i : Int) := by rw [IntKind.wrap_i64]; omega
              have d3 : decide (X + 256 * Y < 512) = false := decide_eq_false (by omega)
              have d4 : decide (X + 256 * Y > 512 + (i : Int)) = false := decide_eq_false (by omega)
              have d5 : decide (512 + (i : Int) < X + 256 * Y) = false := decide_eq_false (by omega)
              simp only [List.take_succ_cons, List.take_zero, List.drop_succ_cons, List.drop_zero]
              repeat (go_big_quiet_step (fail))
              refine wpQuiet_nil ?_
              go_upto_region 33 with fail
              go_cut [175] (fun b wx => v9 = wx ∧ b = .bool false)
              case first =>
                clear HV9 m1 m2 HSS HLB
                obtain rfl | rfl | rfl | rfl | rfl : m = 0 ∨ m = 1 ∨ m = 2 ∨ m = 3 ∨ m = 4 := by omega
                all_goals
                  simp at k6 q9
                  subst k6
                all_goals (go_wp2_with fail; go_meet; exact ⟨rfl, rfl⟩)
              case rest =>
              obtain ⟨hwx, rfl⟩ := hcut
              subst hwx
              refine ‹∀ (a : Act) (w : World), Code.wp _ (Code.cond (Operand.tmp 175) _ _) _ a w → _› _ _ ?_
              clear q8 q9 q10 m1 m2 hwy hwx hwi d3 d4 d5 x1 x2 y1 y2 k3 k4 hm5 k6
              go_wp2_with fail
              refine ⟨⟨j + 1, s', f', _, by omega, rfl, by first | rfl | (simp; done) | (rw [hwj]; rfl), HV9.out.1⟩, ?_⟩
              simp [intOf]; omega
        · exfalso
          have : j = 3000 := by omega
          obtain ⟨k, _, h⟩ := HA.out.at_
          have := h (by omega)
          omega
end Go.Proofs.YtdkibohpdkdooaaGreatDoor

namespace Go.Proofs.YtdkibohpdkdooaaGreatDoor.cpuHidden
open Go.ChangeShapes Go.WideShapes Go.ChangeAt Go.RowKit Go.Deep
set_option linter.unusedVariables false
theorem own : ownKnob Tryz.prog.godebug = none := by kernel_rfl
theorem cells3 : Tryz.prog.cellsOf 3 = 1 := by kernel_rfl
theorem cells4 : Tryz.prog.cellsOf 4 = 1 := by kernel_rfl
theorem cellsR : Tryz.prog.cellsOf 23 = 12 := by kernel_rfl
theorem laidOut : laidOutB Tryz.prog = true := by kernel_rfl
/-- What was there is as it was: the frame. -/
theorem grownOf {w w' : World} (h : Up w w') : w.keptBut w' (fun _ => False) := by
  refine ⟨h.os, h.output, fun i hi => ?_⟩
  rw [h.block i hi]
  split
  · rename_i h1 h2
    obtain ⟨rfl, rfl, rfl⟩ := by simpa using h1.symm.trans h2
    exact ⟨rfl, rfl, rfl, fun _ _ => rfl⟩
  · rename_i h1 h2
    obtain ⟨rfl, rfl⟩ := by simpa using h1.symm.trans h2
    exact Or.inr ⟨rfl, rfl⟩
  · rfl
theorem i64Of {z : Int} (h : (Lit.int .i64 z).wf = true) : I64 z := bounds_i64 h
set_option maxRecDepth 100000 in
theorem list12 {α : Type} : (l : List α) → l.length = 12 → ∃ a0 a1 a2 a3 a4 a5 a6 a7 a8 a9 a10 a11, l = [a0, a1, a2, a3, a4, a5, a6, a7, a8, a9, a10, a11]
  | [a0, a1, a2, a3, a4, a5, a6, a7, a8, a9, a10, a11], _ => ⟨a0, a1, a2, a3, a4, a5, a6, a7, a8, a9, a10, a11, rfl⟩
set_option maxRecDepth 100000 in
/-- The registers as they come in. -/
theorem regs_of {H : Type} {enc : TypeId × Value → H} {W : World} {n : Nat} {sp : Nat → Bool} {cs : Array Value} {x : DataW H × List MemPlace} (hs : cs.size = 12)
    (h2 : DataW.trod enc Tryz.prog W 0 sp true n 23 cs.toList = some x) : ∃ g : Rg, g.In ∧ cs = g.cells ∧ x.2 = [] := by
  obtain ⟨xs, k, hk, hxy, _, hxl, hf⟩ := DataW.trod_struct Tryz.underlying23 h2
  obtain ⟨cs⟩ := cs
  simp only [List.size_toArray] at hs
  obtain ⟨v0, v1, v2, v3, v4, v5, v6, v7, v8, v9, v10, v11, rfl⟩ := list12 cs hs
  obtain ⟨y0, y1, y2, y3, y4, y5, y6, y7, y8, y9, y10, y11, rfl⟩ := list12 xs hxl
  have g0 := hf 0 _ rfl
  have g1 := hf 1 _ rfl
  have g2 := hf 2 _ rfl
  have g3 := hf 3 _ rfl
  have g4 := hf 4 _ rfl
  have g5 := hf 5 _ rfl
  have g6 := hf 6 _ rfl
  have g7 := hf 7 _ rfl
  have g8 := hf 8 _ rfl
  have g9 := hf 9 _ rfl
  have g10 := hf 10 _ rfl
  have g11 := hf 11 _ rfl
  simp [cells3, cells4] at g0 g1 g2 g3 g4 g5 g6 g7 g8 g9 g10 g11
  obtain ⟨z0, e0, f0, w0⟩ := DataW.trod_int Tryz.underlying3 g0
  obtain ⟨z1, e1, f1, w1⟩ := DataW.trod_int Tryz.underlying3 g1
  obtain ⟨z2, e2, f2, w2⟩ := DataW.trod_int Tryz.underlying3 g2
  obtain ⟨z3, e3, f3, w3⟩ := DataW.trod_int Tryz.underlying3 g3
  obtain ⟨z4, e4, f4, w4⟩ := DataW.trod_int Tryz.underlying3 g4
  obtain ⟨z5, e5, f5, w5⟩ := DataW.trod_int Tryz.underlying3 g5
  obtain ⟨z6, e6, f6, w6⟩ := DataW.trod_int Tryz.underlying3 g6
  obtain ⟨z7, e7, f7, w7⟩ := DataW.trod_int Tryz.underlying3 g7
  obtain ⟨z8, e8, f8, w8⟩ := DataW.trod_int Tryz.underlying3 g8
  obtain ⟨z9, e9, f9, w9⟩ := DataW.trod_int Tryz.underlying3 g9
  obtain ⟨z10, e10, f10⟩ := DataW.trod_bool Tryz.underlying4 g10
  obtain ⟨z11, e11, f11, w11⟩ := DataW.trod_int Tryz.underlying3 g11
  simp at e0 e1 e2 e3 e4 e5 e6 e7 e8 e9 e10 e11
  subst e0 e1 e2 e3 e4 e5 e6 e7 e8 e9 e10 e11
  refine ⟨⟨z0, z1, z2, z3, z4, z5, z6, z7, z8, z9, z10, z11⟩, ⟨i64Of w0, i64Of w1, i64Of w2, i64Of w3, i64Of w4, i64Of w5, i64Of w6, i64Of w7, i64Of w8, i64Of w9⟩, rfl, ?_⟩
  rw [hxy, f0, f1, f2, f3, f4, f5, f6, f7, f8, f9, f10, f11]
  rfl
theorem up_same {W W' : World} (h : Up W W') {p : MemPlace} (hp : p.block < W.heap.size) : W.sameAt W' p := by
  cases p with
  | cell b off => exact h.cell hp
  | map b => exact h.block b hp
set_option maxRecDepth 100000 in
/-- Numbers as they come in. -/
theorem ints_of {H : Type} {enc : TypeId × Value → H} {W : World} {n : Nat} {aa : Option Addr} {len cap : Nat} {x : DataW H × List MemPlace}
    (h2 : DataW.trod enc Tryz.prog W 0 (fun _ => true) true n 24 [.slice aa len cap] = some x) :
    ∃ (ab ao : Nat) (f : Nat → Int), Ints W aa ab ao len cap f := by
  have z0 : I64 0 := by unfold I64; decide
  rcases open_ints Tryz.underlying24 Tryz.underlying3 cells3 h2 with ⟨hcs, hx⟩ | ⟨a, len', cap', zs, hcs, _, hl, hm, hz, hx, hcell, hwz⟩
  · simp at hcs
    obtain ⟨rfl, rfl, rfl⟩ := hcs
    exact ⟨0, 0, fun _ => 0, Nat.le_refl _, Nat.zero_le _, fun h => by omega, fun _ => z0, fun k hk => by omega⟩
  · simp at hcs
    obtain ⟨rfl, rfl, rfl⟩ := hcs
    simp only [if_true] at hz
    by_cases h0 : len = 0
    · subst h0
      exact ⟨0, 0, fun _ => 0, hl, hm, fun h => by omega, fun _ => z0, fun k hk => by omega⟩
    · obtain ⟨b, off, spot⟩ := a
      have hspot : spot = none := by simpa [Addr.add] using World.cell?_spot (hcell 0 (by omega))
      subst hspot
      refine ⟨b, off, fun k => zs.getD k 0, hl, hm, fun _ => rfl, fun k => ?_, fun k hk => by have hc := hcell k (by omega); rw [show (⟨b, off, none⟩ : Addr).add k = ⟨b, off + k, none⟩ by unfold Addr.add; split <;> simp_all] at hc; exact hc⟩
      show I64 (zs.getD k 0)
      rw [List.getD_eq_getElem?_getD]
      cases h : zs[k]? with
      | none => exact z0
      | some y => exact i64Of (hwz y (List.mem_of_getElem? h))
/-- The door's own heap meets the condition. -/
theorem door_met (os : Os) (args : Array Value) : laidMetH Tryz.prog Rows.cpuHiddenRow.laid ((World.doorLaid Tryz.prog 400 os).forCall (fun _ _ => 0) ⟨#[], args, []⟩).memory :=
  laidMetH_of_parts3 (fuel := 8) (laidMet_of_run' 8 (by kernel_rfl) (by kernel_rfl)) (by kernel_rfl) (by kernel_rfl)
/-- What the condition gives the walk: the table's cells. -/
theorem of_laid (W : World) (h : laidMetH Tryz.prog Rows.cpuHiddenRow.laid W) : LaidB W := by
  rw [MakeChecks.laidMetH_plain _ _ _ (by kernel_rfl)] at h
  have t : Lib.TabIs Tryz.prog W "arcade/alu.bits" .u8 [1, 2, 4, 8, 16, 32, 64, 128] :=
    Lib.tabIs_of_head (rest := []) (g := 0) (t := 45) (e := 5) (n := 8) (by kernel_rfl) (by kernel_rfl) Tryz.underlying45 Tryz.underlying5 (by kernel_rfl) (by kernel_rfl) h
  have c := fun i hi => t.cell (by kernel_rfl : Tryz.prog.globalNamed "arcade/alu.bits" = some 0) i hi
  refine ⟨World.block_lt_of_cell? _ _ (c 0 (by decide)), fun i hi => ?_⟩
  rw [c i hi]
  have : i = 0 ∨ i = 1 ∨ i = 2 ∨ i = 3 ∨ i = 4 ∨ i = 5 ∨ i = 6 ∨ i = 7 := by omega
  rcases this with rfl | rfl | rfl | rfl | rfl | rfl | rfl | rfl <;> rfl

set_option maxRecDepth 100000 in
theorem lifted (os : Os) (started : os.Started) (H : Type) (enc : TypeId × Value → H) :
    ReturnsInHanded {} Tryz.checked os 3 .any (fun w args => (Rows.cpuHiddenSpec.pre enc Tryz.prog Tryz.f3 [] false w args ∧ laidMetH Tryz.prog Rows.cpuHiddenRow.laid w) ∧ sizedMet enc Tryz.prog Tryz.f3 (OpenSpec.ofChange Rows.cpuHiddenSpec) false w args)
      (Rows.cpuHiddenSpec.post enc Tryz.prog Tryz.f3 false true false false) := by
  refine returnsInHanded_of_change_and (C := Tryz.checked) (X := fun w _ => laidMetH Tryz.prog Rows.cpuHiddenRow.laid w) (fun _ _ _ hh h => h.of_heap hh) own started (by kernel_rfl) Tryz.func3
    (ChangeSpec.witness_shaped (enc := enc) (C := Tryz.checked) (os := os) (X := fun w _ => laidMetH Tryz.prog Rows.cpuHiddenRow.laid w) false (World.doorLaid Tryz.prog 400 os) #[.agg #[.int .i64 0, .int .i64 0, .int .i64 0, .int .i64 0, .int .i64 0, .int .i64 0, .int .i64 0, .int .i64 0, .int .i64 0, .int .i64 0, .bool false, .int .i64 0], .slice none 0 0, .slice none 0 0] 8 rfl (World.shaped_of_RefB (by kernel_rfl) (by kernel_rfl)) (by kernel_rfl) (by kernel_rfl) (by kernel_rfl) (door_met os _)) ?_
  intro W base args ds gs before hval0 hW _ _ hL _
  have hval : ∀ (j : Nat) t v, Tryz.f3.params[j]? = some t → args[j]? = some v → Value.okWide Tryz.prog W .any base t v := hval0
  have hW' := hW
  obtain ⟨p, q, hA0, hV, rfl, hfz, hnd⟩ := hW
  have hA : DataW.TrodAll enc Tryz.prog W 0 (fun _ => true) true Tryz.f3.params.toList args.toList ds p := hA0
  rw [Tryz.params3] at hA hval
  obtain ⟨v0, vs0, d0, ds0, p0, q0, hargs, rfl, rfl, h0, r0⟩ := trodAll_cons hA
  obtain ⟨v1, vs1, d1, ds1, p1, q1, rfl, rfl, rfl, h1, r1⟩ := trodAll_cons r0
  obtain ⟨v2, vs2, d2, ds2, p2, q2, rfl, rfl, rfl, h2, r2⟩ := trodAll_cons r1
  obtain ⟨rfl, rfl, rfl⟩ := trodAll_nil r2
  obtain rfl : args = #[v0, v1, v2] := by cases args; simp_all
  obtain ⟨rfl, rfl⟩ := trodVars_none hV
  have k0 := h0
  obtain ⟨fuel0, hf0⟩ := h0
  have hlt0 : ∀ x ∈ p0, x.block < W.heap.size := fun x hx => by simpa using hW'.lt x (by simp [hx])
  obtain ⟨cs0, rfl, hcs0⟩ := okWide_struct Tryz.underlying23 (hval 0 23 v0 rfl rfl)
  rw [cellsR] at hcs0
  obtain ⟨g0, hg0, rfl, hp0⟩ := regs_of hcs0 (by simpa [Value.cells] using hf0)
  simp only at hp0
  subst hp0
  have k1 := h1
  obtain ⟨fuel1, hf1⟩ := h1
  have hlt1 : ∀ x ∈ p1, x.block < W.heap.size := fun x hx => by simpa using hW'.lt x (by simp [hx])
  obtain ⟨aa1, len1, cap1, rfl⟩ := okWide_slice Tryz.underlying24 (hval 1 24 v1 rfl rfl)
  obtain ⟨ab1, ao1, f1, A1⟩ := ints_of (by simpa [Value.cells] using hf1)
  have k2 := h2
  obtain ⟨fuel2, hf2⟩ := h2
  have hlt2 : ∀ x ∈ p2, x.block < W.heap.size := fun x hx => by simpa using hW'.lt x (by simp [hx])
  obtain ⟨aa2, len2, cap2, rfl⟩ := okWide_slice Tryz.underlying24 (hval 2 24 v2 rfl rfl)
  obtain ⟨ab2, ao2, f2, A2⟩ := ints_of (by simpa [Value.cells] using hf2)
  clear hA0 hval0
  refine (hidden_walk g0 hg0 A1 A2 (of_laid W hL)).mono fun e W' ⟨he, hu⟩ => ?_
  subst he
  have stay0 : DataW.Trod enc Tryz.prog W' 0 (fun b => decide (b < W.heap.size)) true 23 (.agg g0.cells) d0 [] :=
    WideElems.Trod_stays laidOut (by kernel_rfl) (of_decide_eq_true (by kernel_rfl)) k0 (fun x hx => by cases hx) (fun x hx => by cases hx)
  have stay1 : DataW.Trod enc Tryz.prog W' 0 (fun b => decide (b < W.heap.size)) true 24 (.slice aa1 len1 cap1) d1 p1 :=
    WideElems.Trod_stays laidOut (by kernel_rfl) (of_decide_eq_true (by kernel_rfl)) k1 (fun x hx => up_same hu (hlt1 x hx)) (fun x hx => by simpa using hlt1 x hx)
  have stay2 : DataW.Trod enc Tryz.prog W' 0 (fun b => decide (b < W.heap.size)) true 24 (.slice aa2 len2 cap2) d2 p2 :=
    WideElems.Trod_stays laidOut (by kernel_rfl) (of_decide_eq_true (by kernel_rfl)) k2 (fun x hx => up_same hu (hlt2 x hx)) (fun x hx => by simpa using hlt2 x hx)
  exact ⟨_, rfl, _, _, _, [], _, [], hW', trodAll_mk1 (shut_bool Tryz.underlying4 _), (trodAll_cons_mk stay0 (trodAll_cons_mk stay1 (trodAll_cons_mk stay2 trodAll_mk0))), rfl, World.keptBut_mono (fun _ f => f.elim) (grownOf hu), fun h => by cases h⟩

theorem over : Rows.cpuHiddenRow.holds Tryz.pinned (OpenSpec.ofChange Rows.cpuHiddenSpec) :=
  OpenClaim.holds_of_wide 3 Tryz.f3 rfl rfl rfl rfl rfl rfl rfl ⟨rfl, rfl, rfl, rfl, rfl⟩ rfl rfl rfl rfl rfl (by kernel_rfl) Tryz.func3 (by kernel_rfl)
    (of_decide_eq_true (by kernel_rfl)) (by unfold Func.isWrapper; first | (rw [if_pos (by decide +kernel)]; kernel_rfl) | (rw [if_neg (by decide +kernel)]; exact ⟨rfl, rfl⟩))
    (fun os started H enc _ => lifted os started H enc)
theorem proved : Rows.CpuHiddenSaid := over
/-- The card: the row, its table tied to the program's text. -/
theorem card : Rows.CpuHiddenCardSaid :=
  Claim7.holds_tied_plain_at .later [] [.data] true (true, "168f867179805f669bf6add62648f0142611f810965365e5b93d007cf45dfc22") false
    proved (fun _ h => by cases h) (by kernel_rfl) (fun _ h => by cases h) cpuHidden_row_tie rfl ⟨rfl, rfl⟩ (by kernel_rfl) rfl
    (fun f fn hf hfn => by
      obtain rfl : f = 3 := Option.some.inj ((show Tryz.prog.funcNamed "arcade/arcadelaw3.CpuHidden" = some 3 by kernel_rfl).symm.trans hf) |>.symm
      obtain rfl : fn = Tryz.f3 := (Option.some.inj (Tryz.func3.symm.trans hfn)).symm
      exact ⟨by kernel_rfl, fun j t ht => by
        rw [Tryz.params3] at ht
        have hm : t ∈ [23, 24, 24] := by simpa using Array.mem_of_getElem? ht
        have hall : ([23, 24, 24].all fun u => !Tryz.prog.wantsStandIn u) = true := by kernel_rfl
        exact (show Tryz.prog.wantsStandIn t = false by simpa using List.all_eq_true.1 hall t hm)⟩)
    (by kernel_rfl)
end Go.Proofs.YtdkibohpdkdooaaGreatDoor.cpuHidden
namespace Go.Proofs.YtdkibohpdkdooaaGreatDoor
theorem cpuHidden_card : Rows.CpuHiddenCardSaid := cpuHidden.card
#print axioms cpuHidden_card
end Go.Proofs.YtdkibohpdkdooaaGreatDoor
