/- BlockExact's walk. -/
import Derived.Test.YtekffilokdmfgaaBeW
import Derived.Deep.DeepCutAuto
namespace Go.Proofs.Ytekffilokdmfgaa
open Go.RowKit
set_option linter.unusedVariables false
set_option maxRecDepth 100000 in
set_option maxHeartbeats 8000000 in
theorem exact_walk {W : World} {oa : Option Addr} {ob oo on oc : Nat} {q : Nat → Nat → Int} {ia : Nat → Option Addr} {ib io il ic : Nat → Nat} {hh : Nat → Nat → Int} (hO : Ops6 W oa ob oo on oc q ia ib io il ic hh) (hon : on ≤ 1048576) :
    Calls Try.prog 3 #[.slice oa on oc] W fun e w' => e = .returned (.bool true) ∧ Up W w' := by
  have HO : Hid _ := hO
  have olc := hO.lc
  have ocm : oc ≤ 9223372036854775807 := by have := hO.cm; unfold maxLen at this; omega
  clear hO
  go_enter Try.func3, Try.ntmps3
  go_wp2_with fail
  generalize hw1 : World.alloc (World.alloc W _) _ = w1
  have hs0 : Hk W W.heap.size 0 (W.heap.size + 1) (.cells headL.toArray 31) w1 := by
    rw [← hw1]
    exact Hk.start W (.cells headL.toArray 31)
  have HS0 : Hid _ := hs0
  clear hs0 hw1
  obtain ⟨hb, hhb⟩ : ∃ x, x = W.heap.size + 1 := ⟨_, rfl⟩
  rw [← hhb] at HS0 ⊢
  obtain ⟨pb, hpb⟩ : ∃ x, x = W.heap.size := ⟨_, rfl⟩
  rw [← hpb] at HS0 ⊢
  clear hhb hpb
  go_loopw [5, 6] (fun I _ wr => ∃ i : Nat, i ≤ 4 ∧ I = .int .i64 (i : Int) ∧ Hid (Hk W pb (8 * i) hb (.cells headL.toArray 31) wr)) (fun I _ _ => 4 - (intOf I).toNat)
  case atStart => exact ⟨0, by omega, rfl, HS0⟩
  case round =>
    clear HS0
    obtain ⟨i, hi, rfl, HS⟩ := hrel
    by_cases hlt : i < 4
    · have d1 : (i : Int) < 4 := by omega
      have HR : Hid (wr.rangeAt hb (i * 6) (row6 (headQ i).1 0 (headQ i).2.1 (headQ i).2.2 0 none 0 0)) := head_row hlt HS.out.blk
      have HSt : Hid _ := HS.out.step (kd := (headQ i).1) (a := 0) (b := (headQ i).2.1) (c := (headQ i).2.2) (d := 0) (by omega) (by unfold I64; decide) (head_i64 i).1 (head_i64 i).2 (by unfold I64; decide) (ints_nil W) (fun _ => rfl) (by omega)
      clear HS
      go_wp2_with (refine wpList_load_mid rfl 31 _ rfl hb (i * 6) rfl (row6 (headQ i).1 0 (headQ i).2.1 (headQ i).2.2 0 none 0 0) _ HR.out Try.underlying31 rfl (by kernel_rfl) ?_)
      refine Calls.mono HSt.out ?_
      rintro e w5 ⟨rfl, hs⟩
      have HS5 : Hid _ := hs
      clear hs HSt HR
      go_wp2_with fail
      refine ⟨⟨i + 1, by omega, by first | rfl | (simp; done), HS5⟩, ?_⟩
      simp [intOf]
      omega
    · have d1 : ¬ (i : Int) < 4 := by omega
      obtain rfl : i = 4 := by omega
      go_wp2_with fail
      obtain ⟨w2, hw2⟩ : ∃ x, x = wr := ⟨_, rfl⟩
      rw [← hw2] at HS ⊢
      clear hw2 d1 hlt hi
      go_loopw [7, 8, 9] (fun I _ _ wr => ∃ i : Nat, i ≤ on ∧ I = .int .i64 (i : Int) ∧ Hid (Hk W pb (32 + 8 * i) hb (.cells headL.toArray 31) wr)) (fun I _ _ _ => on - (intOf I).toNat)
      case atStart => exact ⟨0, by omega, rfl, HS⟩
      case round =>
        clear HS
        obtain ⟨i, hi, rfl, HS⟩ := hrel
        by_cases hlt : i < on
        · have d1 : (i : Int) < (on : Int) := by omega
          obtain rfl := HO.out.ad (by omega)
          have HR : Hid (wr.rangeAt ob (oo + i * 6) (row6 (q i 0) (q i 1) (q i 2) (q i 3) (q i 4) (ia i) (il i) (ic i))) := rangeU (HO.out.row i hlt) HS.out.w0
          have HSt : Hid _ := HS.out.step (kd := q i 0) (by omega) (HO.out.i64 i 1) (HO.out.i64 i 2) (HO.out.i64 i 3) (HO.out.i64 i 4) (HO.out.ints i hlt).1 (HO.out.ints i hlt).2.1 (HO.out.ints i hlt).2.2
          clear HS
          go_wp2_with (refine wpList_load_mid rfl 31 _ rfl ob (oo + i * 6) rfl (row6 (q i 0) (q i 1) (q i 2) (q i 3) (q i 4) (ia i) (il i) (ic i)) _ HR.out Try.underlying31 rfl (by kernel_rfl) ?_)
          refine Calls.mono HSt.out ?_
          rintro e wa ⟨rfl, hs⟩
          have HLk : Hid _ := hs.looks
          clear hs HSt HR
          go_wp2_with fail
          refine Calls.mono HLk.out ?_
          rintro e wb ⟨rfl, hs⟩
          have HS5 : Hid _ := hs.wide (M := 32 + 8 * (i + 1)) (by omega)
          clear hs HLk
          go_wp2_with fail
          refine ⟨⟨i + 1, by omega, by first | rfl | (simp; done), HS5⟩, ?_⟩
          simp [intOf]
          omega
        · have d1 : ¬ (i : Int) < (on : Int) := by omega
          obtain rfl : i = on := by omega
          go_wp2_with fail
          obtain ⟨w3, hw3⟩ : ∃ x, x = wr := ⟨_, rfl⟩
          rw [← hw3] at HS ⊢
          clear hw3 d1 hlt hi HO
          go_loopw [10, 11, 12, 13] (fun I _ _ _ wr => ∃ k : Nat, k ≤ 4 ∧ I = .int .i64 (k : Int) ∧ Hid (Hk W pb (32 + 8 * i + 24 * k) hb (.cells headL.toArray 31) wr)) (fun I _ _ _ _ => 4 - (intOf I).toNat)
          case atStart => exact ⟨0, by omega, rfl, HS⟩
          case round =>
            clear HS
            obtain ⟨k, hk, rfl, HS⟩ := hrel
            obtain ⟨la, np, lc, kc, hn4, hn5, hn6⟩ := HS.out.len
            by_cases hlt : k < np
            · have d1 : (k : Int) < (np : Int) := by omega
              have HK : Hid (I64 (k : Int)) := (show I64 (k : Int) by unfold I64; omega)
              have HSt : Hid _ := HS.out.step (kd := 9) (a := (k : Int)) (b := 0) (c := 0) (d := 0) (by omega) HK.out (by unfold I64; decide) (by unfold I64; decide) (by unfold I64; decide) (ints_nil W) (fun _ => rfl) (by omega)
              clear HS
              go_wp2_with fail
              refine Calls.mono HSt.out ?_
              rintro e wa ⟨rfl, hs⟩
              have HSu : Hid _ := hs.step (kd := 10) (a := (k : Int)) (b := 0) (c := 0) (d := 0) (by omega) HK.out (by unfold I64; decide) (by unfold I64; decide) (by unfold I64; decide) (ints_nil W) (fun _ => rfl) (by omega)
              clear hs HSt kc
              go_wp2_with fail
              refine Calls.mono HSu.out ?_
              rintro e wb ⟨rfl, hs⟩
              have HSv : Hid _ := hs.step (kd := 8) (a := (k : Int)) (b := 0) (c := 0) (d := 0) (by omega) HK.out (by unfold I64; decide) (by unfold I64; decide) (by unfold I64; decide) (ints_nil W) (fun _ => rfl) (by omega)
              clear hs HSu
              go_wp2_with fail
              refine Calls.mono HSv.out ?_
              rintro e wc ⟨rfl, hs⟩
              have HS5 : Hid _ := hs.wide (M := 32 + 8 * i + 24 * (k + 1)) (by omega)
              clear hs HSv
              go_wp2_with fail
              refine ⟨⟨k + 1, by omega, by first | rfl | (simp; done), HS5⟩, ?_⟩
              simp [intOf]
              omega
            · have d1 : ¬ (k : Int) < (np : Int) := by omega
              have HU : Hid _ := HS.out.w0
              clear HS
              go_wp2_with fail
              go_ret
              exact ⟨by first | rfl | (simp; done), HU.out⟩
end Go.Proofs.Ytekffilokdmfgaa
