/- What the reference's AddOffset comes to, as a contract over the translation. Conditions: a word 0 to 65535, a byte 0 to 255. -/
import Derived.Test.YtlbcodjkcjjoeabDoorRefV
import Derived.Deep.RegionWith
namespace Go.Proofs.YtlbcodjkcjjoeabDoor
open Go.ChangeShapes Go.WideShapes Go.ChangeAt Go.RowKit
set_option linter.unusedVariables false
theorem bitsMod (V : Nat) (w : World) (hV : V ≤ 65535) :
    Calls Tryd.prog 54 #[.int .i64 ((V : Int) % 256), .int .i64 8] w fun e w' => ∃ s, e = .returned s ∧ BRow w' s 8 (bitB (V % 256)) ∧ Kept w w' := by
  rw [show ((V : Int) % 256) = ((V % 256 : Nat) : Int) from by omega]
  exact bits8 (V % 256) w (by omega)
theorem bitsDiv (V : Nat) (w : World) (hV : V ≤ 65535) :
    Calls Tryd.prog 54 #[.int .i64 ((V : Int) / 256), .int .i64 8] w fun e w' => ∃ s, e = .returned s ∧ BRow w' s 8 (bitB (V / 256)) ∧ Kept w w' := by
  rw [show ((V : Int) / 256) = ((V / 256 : Nat) : Int) from by omega]
  exact bits8 (V / 256) w (by omega)
theorem small64 (n : Int) (h0 : 0 ≤ n) (h1 : n ≤ 65535) : IntKind.i64.wrap n = n := by rw [IntKind.wrap_i64]; omega
theorem bitsDivW (V : Nat) (w : World) (hV : V ≤ 65535) :
    Calls Tryd.prog 54 #[.int .i64 (IntKind.i64.wrap ((IntKind.i64.wrap (V : Int)).tdiv 256)), .int .i64 8] w fun e w' => ∃ s, e = .returned s ∧ BRow w' s 8 (bitB (V / 256)) ∧ Kept w w' := by
  have e : IntKind.i64.wrap ((IntKind.i64.wrap (V : Int)).tdiv 256) = (V : Int) / 256 := by
    rw [small64 V (by omega) (by omega), Int.tdiv_eq_ediv_of_nonneg (by omega), small64 _ (by omega) (by omega)]
  rw [e]
  exact bitsDiv V w hV
theorem bits0 (w : World) :
    Calls Tryd.prog 54 #[.int .i64 0, .int .i64 8] w fun e w' => ∃ s, e = .returned s ∧ w'.ownsRow w.heap.size 4 1 s 8 ((List.range 8).map fun j => Value.bool (bitB 0 j)) ∧ Below w.heap.size w w' := bits8own 0 w (by decide)
def sgn (E : Nat) : Nat := if bitB E 7 then 255 else 0
theorem sgn_bit (E i : Nat) (hi : i < 8) : bitB (sgn E) i = bitB E 7 := by
  unfold sgn
  have : i = 0 ∨ i = 1 ∨ i = 2 ∨ i = 3 ∨ i = 4 ∨ i = 5 ∨ i = 6 ∨ i = 7 := by omega
  cases bitB E 7 <;> rcases this with rfl | rfl | rfl | rfl | rfl | rfl | rfl | rfl <;> rfl
theorem sgn_is (E : Nat) (hE : E ≤ 255) : sgn E = if 127 < E then 255 else 0 := natAll (p := fun E => sgn E = if 127 < E then 255 else 0) (by decide +kernel) E hE
theorem b2n_dec (p : Prop) [Decidable p] : b2n (decide p) = if p then 1 else 0 := by unfold b2n; simp
theorem offFin (S E : Nat) (hS : S ≤ 65535) (hE : E ≤ 255) :
    (((numF (sumB (S % 256) E false) 8 : Nat) : Int) + 256 * ((numF (sumB (S / 256) (sgn E) (carN (S % 256) E false 8)) 8 : Nat) : Int)) % 65536 = ofR S E := by
  have l : numF (sumB (S % 256) E false) 8 = (S % 256 + E) % 256 := by rw [sum_num, show b2n false = 0 from rfl]; omega
  have c : b2n (carN (S % 256) E false 8) = (S % 256 + E) / 256 := by
    rw [sum_car, show b2n false = 0 from rfl, b2n_dec]
    split <;> omega
  by_cases h : 127 < E
  · have s : sgn E = 255 := by rw [sgn_is E hE, if_pos h]
    have o : ofR S E = ((S : Int) + E - 256) % 65536 := by unfold ofR; rw [if_pos (by omega)]
    have hi : numF (sumB (S / 256) (sgn E) (carN (S % 256) E false 8)) 8 = (S / 256 + 255 + (S % 256 + E) / 256) % 256 := by rw [sum_num, c, s]; omega
    rw [l, hi, o]; omega
  · have s : sgn E = 0 := by rw [sgn_is E hE, if_neg h]
    have o : ofR S E = ((S : Int) + E) % 65536 := by unfold ofR; rw [if_neg (by omega), Int.sub_zero]
    have hi : numF (sumB (S / 256) (sgn E) (carN (S % 256) E false 8)) 8 = (S / 256 + (S % 256 + E) / 256) % 256 := by rw [sum_num, c, s]; omega
    rw [l, hi, o]; omega
theorem offFinW (S E : Nat) (hS : S ≤ 65535) (hE : E ≤ 255) :
    IntKind.u16.wrap (IntKind.i64.wrap (((numF (sumB (S % 256) E false) 8 : Nat) : Int) + IntKind.i64.wrap (256 * ((numF (sumB (S / 256) (sgn E) (carN (S % 256) E false 8)) 8 : Nat) : Int)))) = ofR S E := by
  have n0 := num_lt (sumB (S % 256) E false) 8
  have n1 := num_lt (sumB (S / 256) (sgn E) (carN (S % 256) E false 8)) 8
  rw [← offFin S E hS hE]
  generalize numF (sumB (S % 256) E false) 8 = a at *
  generalize numF (sumB (S / 256) (sgn E) (carN (S % 256) E false 8)) 8 = b at *
  rw [small64 (256 * (b : Int)) (by omega) (by omega), small64 ((a : Int) + 256 * b) (by omega) (by omega), IntKind.wrap_u16]
theorem offFlg (S E : Nat) (hS : S ≤ 65535) (hE : E ≤ 255) : flg false false (carN (S % 256) E false 4) (carN (S % 256) E false 8) = ofF S E := by
  rw [sum_car, sum_car, show b2n false = 0 from rfl]
  unfold ofF
  exact flg_congr rfl rfl (decEq (by omega)) (decEq (by omega))
set_option maxRecDepth 100000 in
set_option maxHeartbeats 2000000 in
theorem ref_addoffset (sp e : Int) (w : World) (ha : 0 ≤ sp) (ha2 : sp ≤ 65535) (hb : 0 ≤ e) (hb2 : e ≤ 255) :
    Calls Tryd.prog 42 #[.int .u16 sp, .int .u8 e] w fun x w' => x = .returned (.tuple #[.int .u16 (ofR sp e), .int .u8 (ofF sp e)]) ∧ Kept w w' := by
  obtain ⟨S, rfl⟩ := Int.eq_ofNat_of_zero_le ha
  obtain ⟨E, rfl⟩ := Int.eq_ofNat_of_zero_le hb
  have hS : S ≤ 65535 := by omega
  have hE : E ≤ 255 := by omega
  go_enter Tryd.func42, Tryd.ntmps42
  go_wp2_with fail
  refine (bits8 E _ (by omega)).mono ?_
  rintro e w1 ⟨sx, rfl, hx, k1⟩
  go_wp2_with fail
  refine (bitsMod S _ hS).mono ?_
  rintro e w2 ⟨sl, rfl, hl, k2⟩
  go_wp2_with fail
  refine (both_any sl sx (S % 256) E false 8 _ hl (hx.kept k2) (by decide) (by decide)).mono ?_
  rintro e w3 ⟨lo, r, rfl, hlo, hr, k3⟩
  have hx3 := hx.kept (k2.step k3)
  have K3 : Kept w w3 := (k1.step k2).step k3
  obtain ⟨bx, capx, rfl, hbx, hcx, hcellx⟩ := hx3
  obtain ⟨br, capr, rfl, hbr, hcr, hcellr⟩ := hr
  have x7 := hcellx 7 (by decide)
  have r3 := hcellr 3 (by decide)
  have r7 := hcellr 7 (by decide)
  clear hcellx hcellr hx hl k1 k2 k3
  go_wp2_with fail
  refine (bits0 _).mono ?_
  rintro e w4 ⟨sg, rfl, hsg, hb4⟩
  obtain ⟨g, capg, rfl, hBg, hg, hcg, hcellg, hfz⟩ := row_facts hsg (by decide)
  have hcg' : Hid (∀ i, i < 8 → w4.cell? ⟨g, i, none⟩ = some (.bool (bitB 0 i))) := hcellg
  have hfz' : Hid (∀ i, w4.frozen? ⟨g, i, none⟩ = false) := hfz
  clear hcellg hfz hsg
  go_wp2
  go_loopw [10] (fun i wr => ∃ k : Nat, k ≤ 8 ∧ i = .int .i64 k ∧ Hid (∀ j, j < 8 → wr.cell? ⟨g, j, none⟩ = some (.bool (if j < k then bitB E 7 else bitB 0 j))) ∧ Hid (∀ j, wr.frozen? ⟨g, j, none⟩ = false) ∧ g < wr.heap.size ∧ Below w3.heap.size w3 wr) (fun i _ => 8 - (intOf i).toNat)
  case atStart => exact ⟨0, by omega, rfl, fun j hj => by rw [hcg'.out j hj]; simp, hfz', hg, hb4⟩
  case round =>
    obtain ⟨k, hk, rfl, hc, hz, hgs, hbel⟩ := hrel
    have y7 := (hbel.cell (p := ⟨bx, 7, none⟩) hbx).trans x7
    by_cases hlt : k < 8
    · have ck := hc.out k hlt
      have zk := hz.out k
      rw [if_neg (Nat.lt_irrefl k)] at ck
      go_wp2
      go_roundw
      case rel => exact ⟨k + 1, by omega, by go_num, fun j hj => by
        by_cases h : j = k
        · subst h
          rw [World.cell?_setCell_same _ _ _ ck, if_pos (by omega)]
        · rw [World.cell?_setCell_other _ _ _ _ (by intro e; exact h (by cases e; rfl)), hc.out j hj]
          congr 2
          by_cases h2 : j < k
          · rw [if_pos h2, if_pos (by omega)]
          · rw [if_neg h2, if_neg (by omega)], fun j => by rw [World.frozen?_setCell]; exact hz.out j, by simpa [World.setCell] using hgs, hbel.setCell hBg _⟩
      case measure => simp [intOf]; omega
    · obtain rfl : k = 8 := by omega
      have hs : BRow wr (.slice (some ⟨g, 0, none⟩) 8 capg) 8 (bitB (sgn E)) := ⟨g, capg, rfl, hgs, hcg, fun j hj => by rw [hc.out j hj, if_pos hj, sgn_bit E j hj]⟩
      have q3 := (hbel.cell (p := ⟨br, 3, none⟩) hbr).trans r3
      have q7 := (hbel.cell (p := ⟨br, 7, none⟩) hbr).trans r7
      have K5 : Kept w wr := K3.step (Kept.ofBelow hbel)
      have hlo5 : BRow wr lo 8 (sumB (S % 256) E false) := hlo.kept (Kept.ofBelow hbel)
      have hbr5 : br < wr.heap.size := Nat.lt_of_lt_of_le hbr hbel.size
      clear hc hz hgs hbel y7 x7 r3 r7 hlo hbr K3 hb4 hcg' hfz' hg hBg
      go_wp2_with fail
      go_region_with (first | (go_at_call 54; refine (bitsDivW S _ hS).mono ?_; rintro e w6 ⟨sh, rfl, hsh, k6⟩; have q7' := (k6.cell (o := 7) (by exact hbr5)).trans (by exact q7); have hs6 : BRow w6 _ 8 (bitB (sgn E)) := BRow.kept (by exact hs) k6) | (go_at_call 56; refine (both_any _ _ (S / 256) (sgn E) (carN (S % 256) E false 8) 8 _ (by exact hsh) (by exact hs6) (by decide) (by decide)).mono ?_; rintro e w7 ⟨hi, r2, rfl, hhi, hr2, k7⟩; have kk : Kept wr w7 := Kept.step (by exact k6) k7; have p3 := (kk.cell (o := 3) hbr5).trans q3; have p7 := (kk.cell (o := 7) hbr5).trans q7; have hlo7 := hlo5.kept kk; have K7 := K5.step kk; clear k6 k7 kk q3 q7 q7' hlo5 K5 hr2 hsh hs6))
      all_goals
        have n0 := num_lt (sumB (S % 256) E false) 8
        have n1 := num_lt (sumB (S / 256) (sgn E) (carN (S % 256) E false 8)) 8
        have m0 : ((numF (sumB (S % 256) E false) 8 : Nat) : Int) ≤ 255 := by omega
        have m1 : ((numF (sumB (S / 256) (sgn E) (carN (S % 256) E false 8)) 8 : Nat) : Int) ≤ 255 := by omega
        have VR : Hid (IntKind.u16.wrap (IntKind.i64.wrap (((numF (sumB (S % 256) E false) 8 : Nat) : Int) + IntKind.i64.wrap (256 * ((numF (sumB (S / 256) (sgn E) (carN (S % 256) E false 8)) 8 : Nat) : Int)))) = ofR S E) := offFinW S E hS hE
        have VF : Hid (flg false false (carN (S % 256) E false 4) (carN (S % 256) E false 8) = ofF S E) := offFlg S E hS hE
        clear n0 n1
        go_wp2
        go_quiet ((first | (go_at_call_of 57 (lo); exact Calls.quiet_of_same (number_any lo 8 (sumB (S % 256) E false) _ (by exact hlo7) (by decide))) | (go_at_call 57; exact Calls.quiet_of_same (number_any hi 8 (sumB (S / 256) (sgn E) (carN (S % 256) E false 8)) _ (by exact hhi) (by decide))) | (go_at_call 58; exact Calls.quiet_of_same (flags_any _ _ _ _ _))))
        go_wp2
        go_ret2
        exact ⟨ret2 VR.out VF.out, kdrew K7 nq⟩
end Go.Proofs.YtlbcodjkcjjoeabDoor
