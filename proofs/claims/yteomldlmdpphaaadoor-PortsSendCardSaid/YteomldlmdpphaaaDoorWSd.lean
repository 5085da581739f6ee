/- PortsSend: the walk. -/
import Derived.Test.YteomldlmdpphaaaDoorPpE
import Derived.Test.YteomldlmdpphaaaDoorKsr
import Derived.Laws.DeepStrings4
namespace Go.Proofs.YteomldlmdpphaaaDoor
open Go.RowKit
set_option linter.unusedVariables false
theorem cutS (w : World) (s : List UInt8) (i : Nat) (hl : i < s.length) : (Instr.slice 9 (.string ⟨s.toArray⟩) (some (.int .i64 (i : Int))) (some (.int .i64 ((i : Int) + 1))) none).run Tryd.prog w = .ok (.string ⟨#[s[i]]⟩) w := by
  have hsz : (⟨s.toArray⟩ : ByteArray).size = s.length := by simp [ByteArray.size]
  rw [run_slice_string_if w 9 _ _ _ _ _ Tryd.underlying9, if_pos (by rw [hsz]; omega), if_pos (by omega)]
  have : (⟨s.toArray⟩ : ByteArray).extract (i : Int).toNat ((i : Int) + 1).toNat = ⟨#[s[i]]⟩ := by
    rw [show (i : Int).toNat = i by omega, show ((i : Int) + 1).toNat = i + 1 by omega]
    apply ByteArray.ext
    rw [ByteArray.data_extract]
    apply Array.ext
    · simp; omega
    · intro j h1 h2
      have : j = 0 := by simp at h2; omega
      subst this
      simp
  rw [this]
theorem catS (G : List Int) (s : List UInt8) (i : Nat) (hl : i < s.length) (X : Int) (hX : X = ((s[i]'hl).toNat : Int)) : strOfNums G ++ (⟨#[s[i]]⟩ : ByteArray) = strOfNums (G ++ [X]) := by
  apply ByteArray.ext
  rw [ByteArray.data_append]
  simp [strOfNums, hX]
theorem dropS (w : World) (G : List Int) (hG : 256 < G.length) (hm : G.length ≤ 9223372036854775807) : (Instr.slice 9 (.string (strOfNums G)) (some (.int .i64 ((G.length : Int) - 256))) none none).run Tryd.prog w = .ok (.string (strOfNums (lastB G))) w := by
  have hsz := strOfNums_size G
  rw [run_slice_string_l w 9 _ Tryd.underlying9 .i64 _ (by omega) (by rw [hsz]; omega), hsz]
  have e : (strOfNums G).extract ((G.length : Int) - 256).toNat G.length = strOfNums (lastB G) := by
    rw [show ((G.length : Int) - 256).toNat = G.length - 256 by omega]
    unfold lastB
    generalize G.length - 256 = k
    apply ByteArray.ext
    rw [ByteArray.data_extract]
    apply Array.toList_inj.1
    simp [strOfNums, List.map_drop]
    apply List.take_of_length_le
    simp
  rw [e]
set_option maxRecDepth 100000 in
set_option maxHeartbeats 4000000 in
theorem sendl_walk {W : World} (hL : LaidP W) {aa : Option Addr} {ab ao len cap : Nat} {f : Nat → Nat → Int} (hA : Acts W aa ab ao len cap f) (s : List UInt8) (hs : s.length ≤ 9223372036854775807) (c : Int) (hc : I64 c) :
    Calls Tryd.prog 6 #[.slice aa len cap, .string ⟨s.toArray⟩, .int .i64 c] W fun e w' => e = .returned (.bool true) ∧ Up W w' := by
  have HM : Hid _ := made_any hL hA
  generalize madeP len f = S at *
  obtain ⟨q, us⟩ := S
  dsimp only at *
  clear hL hA
  generalize hB : W.heap.size = B at *
  go_enter Tryd.func6, Tryd.ntmps6
  go_wp2_with fail
  refine Calls.mono HM.out ?_
  rintro e w1 ⟨rfl, h1⟩
  have P1 : Hid _ := h1
  clear h1 HM
  go_wp2_with fail
  refine (P1.out.write 2 0 (by decide) (by decide) (by decide) (by decide)).mono ?_
  rintro e w2 ⟨rfl, h2⟩
  have P2 : Hid _ := h2
  have ht : (q.wr 2 0).tr = 0 := rfl
  generalize q.wr 2 0 = q0 at *
  clear h2 P1
  go_wp2_with fail
  refine (P2.out.sent).mono ?_
  rintro e w3 ⟨v3, rfl, B3, u3⟩
  have P3 : Hid _ := P2.out.more u3
  have cv := B3.conv
  clear B3 u3 P2
  go_wp2_with fail
  have hl0 : us.length ≤ 256 := P3.out.len
  clear cv
  go_loopw [10, 11] (fun M I wr => ∃ (i : Nat) (G : List Int) (r : Po), i ≤ s.length ∧ i ≤ 20 ∧ I = .int .i64 i ∧ M = .string (strOfNums G) ∧ G.length ≤ 256 + i ∧ r.tr = 0 ∧ Hid (Pb W [] B r (lastB G) wr)) (fun _ I _ => 20 - (intOf I).toNat)
  case atStart => exact ⟨0, us, q0, by omega, by omega, rfl, rfl, by omega, ht, by rw [lastB_few us hl0]; exact P3⟩
  case round =>
    clear P3
    obtain ⟨i, G, r, hi, hi2, rfl, rfl, hG, htr, HP⟩ := hrel
    by_cases hl : i < s.length
    · by_cases h2 : i < 20
      · have d1 : decide ((i : Int) < (s.length : Int)) = true := decide_eq_true (by omega)
        have d2 : decide ((i : Int) < 20) = true := decide_eq_true (by omega)
        have e1 : (i : Int) < (s.length : Int) := by omega
        have HK : Hid (∀ z W, I64 z → Calls Tryd.prog 14 #[.int .i64 z, .int .i64 5] W fun e w' => e = .returned (.int .i64 (pickI z 5)) ∧ w' = W) := fun z W hz => pick_any z 5 W hz (by decide) (by decide)
        have HK2 : Hid (∀ W, Calls Tryd.prog 14 #[.int .i64 c, .int .i64 4096] W fun e w' => e = .returned (.int .i64 (pickI c 4096)) ∧ w' = W) := fun W => pick_any c 4096 W hc (by decide) (by decide)
        have c0 := pickI_lo c 4096 (by decide)
        have c1 := pickI_hi c 4096 (by decide)
        generalize pickI c 4096 = C at *
        have o := HP.out.ok
        have lz := HP.out.len
        go_wp2_with fail
        generalize hX : wrap64 _ = X
        have hX2 : X = ((s[i]'hl).toNat : Int) := by
          rw [← hX]
          change wrap64 ((s[i]'hl).toNat : Int) = _
          have := (s[i]'hl).toNat_lt
          unfold wrap64
          omega
        have x0 : 0 ≤ X := by rw [hX2]; omega
        have x1 : X ≤ 255 := by rw [hX2]; have := (s[i]'hl).toNat_lt; omega
        have HX : Hid _ := hX2
        clear hX hX2
        refine (HP.out.write 1 X (by decide) (by decide) x0 x1).mono ?_
        rintro e w4 ⟨rfl, h4⟩
        have P4 : Hid _ := h4
        clear h4 HP
        go_wp2_with fail
        refine (P4.out.write 2 129 (by decide) (by decide) (by decide) (by decide)).mono ?_
        rintro e w5 ⟨rfl, h5⟩
        have P5 : Hid _ := h5
        clear h5 P4
        go_wp2_with fail
        refine (P5.out.take 3 (by decide) (by decide)).mono ?_
        rintro e w6 ⟨rfl, h6⟩
        have P6 : Hid _ := h6
        clear h6 P5
        have SP := send_plain r o (lastB G) lz X x0 x1 _ rfl
        have BP := broke_plain r o (lastB G) lz X x0 x1 _ rfl C c0 c1
        generalize ((r.wr 1 X).wr 2 129).take 3 = r3 at *
        clear o
        go_wp2_with fail
        generalize hZ : wrap64 (c + _) = Z
        have hz : I64 Z := by
          rw [← hZ]
          unfold I64 wrap64
          omega
        refine (HK.out Z _ hz).mono ?_
        rintro e w' ⟨rfl, hw'⟩
        obtain rfl := hw'.symm
        clear hz HK hZ
        generalize pickI Z 5 = z5
        by_cases hb : z5 = 0
        · have eb : (z5 == 0) = true := by rw [hb]; rfl
          clear hb SP
          go_wp2_with fail
          refine (HK2.out _).mono ?_
          rintro e w' ⟨rfl, hw'⟩
          obtain rfl := hw'.symm
          go_wp2_with fail
          refine (P6.out.step C c0 (by omega)).mono ?_
          rintro e w7 ⟨rfl, h7⟩
          rw [BP.1] at h7
          have P7 : Hid _ := h7
          clear h7 P6 HK2
          go_wp2_with fail
          refine (P7.out.write 2 1 (by decide) (by decide) (by decide) (by decide)).mono ?_
          rintro e w8 ⟨rfl, h8⟩
          have P8 : Hid _ := h8
          clear h8 P7
          have B2 := BP.2 _ rfl
          generalize (r3.run (lastB G) C).1.wr 2 1 = r4 at *
          clear BP
          go_wp2_with fail
          refine (P8.out.step 5000 (by decide) (by decide)).mono ?_
          rintro e w9 ⟨rfl, h9⟩
          rw [B2.1] at h9
          have P9 : Hid _ := h9
          obtain ⟨_, _, _, _, h10⟩ := B2.2
          have ht2 := h10.tr
          clear h9 P8 B2 h10
          generalize (r4.run (lastB G) 5000).1 = r5 at *
          go_wp2_with fail
          refine ⟨⟨i + 1, G, r5, by omega, by omega, rfl, rfl, by omega, ht2, P9⟩, ?_⟩
          simp [intOf]
          omega
        · have eb : (z5 == 0) = false := by simp; exact hb
          clear hb BP HK2
          have S1 := SP.1.1
          have S2 := SP.1.2
          have S3 := SP.2
          clear SP
          go_wp2_with fail
          refine (P6.out.step 4095 (by decide) (by decide)).mono ?_
          rintro e w7 ⟨rfl, h7⟩
          rw [S2] at h7
          have P7 : Hid _ := h7
          clear h7 P6 S2
          generalize (r3.run (lastB G) 4095).1 = r4 at *
          have g1 : (bits .and .i64 r4.rq 8 != 0) = false := S1
          clear S1
          go_wp2_with fail
          refine (P7.out.reqs).mono ?_
          rintro e w' ⟨rfl, hw'⟩
          obtain rfl := hw'.symm
          go_wp2_with fail
          refine (P7.out.step 1 (by decide) (by decide)).mono ?_
          rintro e w8 ⟨rfl, h8⟩
          rw [S3.2, lastB_sent] at h8
          have P8 : Hid _ := h8
          have S4 := S3.1
          clear h8 P7 S3
          generalize (r4.run (lastB G) 1).1 = r5 at *
          have g2 : (bits .and .i64 r5.rq 8 == 0) = false := by have := S4.t8; unfold Po.t8 at this; rw [bne, Bool.not_eq_true'] at this; exact this
          have v1 : r5.rd 1 = 255 := S4.sh
          have v2 : r5.rd 2 = 127 := by show bits .or .u8 r5.li 126 = 127; rw [S4.li]; decide
          have ht2 := S4.tr
          clear S4
          go_wp2_with fail
          refine (P8.out.read 1 (by decide) (by decide)).mono ?_
          rintro e w9 ⟨rfl, h9⟩
          rw [v1]
          have P9 : Hid _ := h9
          clear h9 P8 v1
          go_wp2_with fail
          refine (P9.out.read 2 (by decide) (by decide)).mono ?_
          rintro e w10 ⟨rfl, h10⟩
          rw [v2]
          have P10 : Hid _ := h10
          clear h10 P9 v2
          go_wp2_with fail
          refine (P10.out.reqs).mono ?_
          rintro e w' ⟨rfl, hw'⟩
          obtain rfl := hw'.symm
          have hcut := cutS w10 s i hl
          have hbig : ¬ (9223372036854775807 < (strOfNums G).size + 1) := by rw [strOfNums_size]; omega
          go_wp2_with fail
          refine ⟨⟨i + 1, G ++ [X], r5, by omega, by omega, rfl, congrArg Value.string (catS G s i hl X HX.out), by simp; omega, ht2, P10⟩, ?_⟩
          simp [intOf]
          omega
      · have d1 : decide ((i : Int) < (s.length : Int)) = true := decide_eq_true (by omega)
        have d2 : decide ((i : Int) < 20) = false := decide_eq_false (by omega)
        have hsz : ((strOfNums G).size : Int) = (G.length : Int) := by rw [strOfNums_size]
        by_cases hg : 256 < G.length
        · have dg : decide (256 < (G.length : Int)) = true := decide_eq_true (by omega)
          have hd := dropS wr G hg (by omega)
          go_wp2_with fail
          refine (HP.out.sent).mono ?_
          rintro e x1 ⟨v1, rfl, B1, u1⟩
          have P9 : Hid _ := HP.out.more u1
          have cv1 := B1.conv
          clear B1 u1 HP
          go_wp2_with fail
          go_ret
          exact ⟨by first | rfl | exact retB (by simp), P9.out.up⟩
        · have dg : decide (256 < (G.length : Int)) = false := decide_eq_false (by omega)
          have hlb := lastB_few G (by omega)
          go_wp2_with fail
          refine (HP.out.sent).mono ?_
          rintro e x1 ⟨v1, rfl, B1, u1⟩
          have P9 : Hid _ := HP.out.more u1
          rw [hlb] at B1
          have cv1 := B1.conv
          clear B1 u1 HP
          go_wp2_with fail
          go_ret
          exact ⟨by first | rfl | exact retB (by simp), P9.out.up⟩
    · have d1 : decide ((i : Int) < (s.length : Int)) = false := decide_eq_false (by omega)
      have hsz : ((strOfNums G).size : Int) = (G.length : Int) := by rw [strOfNums_size]
      by_cases hg : 256 < G.length
      · have dg : decide (256 < (G.length : Int)) = true := decide_eq_true (by omega)
        have hd := dropS wr G hg (by omega)
        go_wp2_with fail
        refine (HP.out.sent).mono ?_
        rintro e x1 ⟨v1, rfl, B1, u1⟩
        have P9 : Hid _ := HP.out.more u1
        have cv1 := B1.conv
        clear B1 u1 HP
        go_wp2_with fail
        go_ret
        exact ⟨by first | rfl | exact retB (by simp), P9.out.up⟩
      · have dg : decide (256 < (G.length : Int)) = false := decide_eq_false (by omega)
        have hlb := lastB_few G (by omega)
        go_wp2_with fail
        refine (HP.out.sent).mono ?_
        rintro e x1 ⟨v1, rfl, B1, u1⟩
        have P9 : Hid _ := HP.out.more u1
        rw [hlb] at B1
        have cv1 := B1.conv
        clear B1 u1 HP
        go_wp2_with fail
        go_ret
        exact ⟨by first | rfl | exact retB (by simp), P9.out.up⟩
end Go.Proofs.YteomldlmdpphaaaDoor
