/- Cart: CartStrict. -/
import Derived.Test.YtfalkkkhhpnffaaDoorCaV
import Derived.Deep.DeepCutAuto
namespace Go.Proofs.YtfalkkkhhpnffaaDoor
open Go.Shelf Go.RowKit
set_option linter.unusedVariables false
set_option linter.unusedSimpArgs false
variable {W : World}
set_option maxRecDepth 100000 in
set_option maxHeartbeats 2000000 in
theorem strict_1 {wh at' bz : Int} {j ty : Nat} {R0 : Rw} (hT : Tb W) (hY : Tys W) (i1 : I64 wh) (i2 : I64 at') (i3 : I64 bz) (hj : pickI wh 10 = (j : Int)) (jb : j < 10) (hty : typesV[j]? = some (ty : Int)) (hB : Box0 ty 2 R0) (hv : ty = 9) :
    Calls Tryd.prog 4 #[.int .i64 wh, .int .i64 at', .int .i64 bz] W fun e w' => e = .returned (.bool true) ∧ Up W w' := by
  have HP : Hid (∀ (c n : Int) w, I64 c → 0 < n → n ≤ 1099511627776 → Calls Tryd.prog 14 #[.int .i64 c, .int .i64 n] w fun e w' => e = .returned (.int .i64 (pickI c n)) ∧ w' = w) := fun c n w h1 h2 h3 => pick_any c n w h1 h2 h3
  have HI : Hid (I64 wh ∧ I64 at' ∧ I64 bz) := ⟨i1, i2, i3⟩
  have HTb : Hid (Tb W) := hT
  have HB0 : Hid (Box0 ty 2 R0) := hB
  obtain ⟨tb, tof, tc, t1, t2, t3, t4⟩ := hY
  have HPw : Hid (∀ w, Calls Tryd.prog 14 #[.int .i64 wh, .int .i64 10] w fun e w' => e = .returned (.int .i64 (j : Int)) ∧ w' = w) := fun w => by
    rw [← hj]
    exact pick_any wh 10 w i1 (by decide) (by decide)
  have kt : W.cell? ⟨tb, tof + j, none⟩ = some (.int .i64 (ty : Int)) := t4 j ty hty
  have jI : (j : Int) < 10 := by omega
  have ht8 := hB.t8
  obtain ⟨N, hN⟩ : ∃ N : Nat, N = 32768 := ⟨_, rfl⟩
  have HN : Hid (N = 32768) := hN
  have nI : (32768 : Int) = (N : Int) := by omega
  have HnI : Hid ((32768 : Int) = (N : Int)) := nI
  clear nI
  have z0 : ((ty : Int) == 9) = true := by rw [beq_iff_eq]; omega
  clear hT i1 i2 i3 t4 hj hty hB hv hN
  go_enter Tryd.func4, Tryd.ntmps4
  go_wp2_with fail
  go_quiet ((go_at_call 14; exact Calls.quiet_of_same (HPw.out _)))
  have HU0 : Hid (Up W (W.drewN nq)) := Up.drewN _ _
  clear kt t1 t2 t3 HPw
  generalize World.drewN W nq = W0 at HU0 ⊢
  have HRo : Hid (∀ w, Calls Tryd.prog 12 #[boxV ty 0 2 at'] w fun e w' => ∃ g, e = .returned (.slice (some ⟨g, 0, none⟩) N N) ∧ w.heap.size ≤ g ∧ By w' g N (romF ty 0 2 at') ∧ Up w w') := fun w => rom_any (c := 0) (by rw [HN.out]) ⟨by omega, by omega⟩ ⟨by decide, by decide⟩ ⟨by decide, by decide⟩ HI.out.2.1 (by decide)
  go_wp2_with fail
  refine (HRo.out _).mono ?_
  rintro e w1 ⟨g, rfl, hg, hby, hu⟩
  have HU1 : Hid (Up W w1) := HU0.out.trans hu
  have HB1 : Hid (By w1 g N (romF ty 0 2 at')) := hby
  have HG : Hid (W.heap.size ≤ g) := Nat.le_trans HU0.out.size hg
  clear hg hby hu HU0 HRo
  go_wp2_with fail
--A
  refine (check_hd HN.out (HTb.out.up HU1.out) HB0.out HB1.out (romF_byte _ _ _ _) (Hd.refl _)).mono ?_
  rintro e w2 ⟨T, rn, rfl, hT2, u2⟩
  have HU2 : Hid (Up W w2) := HU1.out.trans u2
  have HB2 : Hid (By w2 g N (romF ty 0 2 at')) := HB1.out.up u2
  clear u2 HU1 HB1
  go_wp2_with fail
--B
  have HH3 : Hid ((w2.alloc (.cells #[.string T, .int .i64 (ty : Int), .int .i64 (R0.mapper : Int), .int .i64 2, .int .i64 rn, .bool R0.bat] 30)).heap[w2.heap.size]? = some (.cells #[.string T, .int .i64 (ty : Int), .int .i64 (R0.mapper : Int), .int .i64 2, .int .i64 rn, .bool R0.bat] 30 (0, 0))) := heap_alloc_new w2 _
  have HU3 : Hid (Up W (w2.alloc (.cells #[.string T, .int .i64 (ty : Int), .int .i64 (R0.mapper : Int), .int .i64 2, .int .i64 rn, .bool R0.bat] 30))) := HU2.out.alloc _
  have HB3 : Hid (By (w2.alloc (.cells #[.string T, .int .i64 (ty : Int), .int .i64 (R0.mapper : Int), .int .i64 2, .int .i64 rn, .bool R0.bat] 30)) g N (romF ty 0 2 at')) := HB2.out.up ((Up.refl _).alloc _)
  have HTT : Hid (T.size = 2) := hT2
  have HGh : Hid (g < w2.heap.size) := by
    have := World.block_lt_of_cell? _ _ (HB2.out.cell 0 (by rw [HN.out]; decide))
    exact this
  clear HU2 HB2 hT2
  generalize World.alloc w2 _ = w3 at HH3 HU3 HB3 ⊢
  generalize w2.heap.size = hb at HH3 HGh ⊢
  obtain ⟨kN, hkN, kb⟩ : ∃ c : Nat, pickI at' 74 = (c : Int) ∧ c ≤ 73 := by
    obtain ⟨c, hc⟩ := Int.eq_ofNat_of_zero_le (pickI_lo at' 74 (by decide))
    exact ⟨c, hc, by have := pickI_hi at' 74 (by decide); omega⟩
  have HPk : Hid (∀ w, Calls Tryd.prog 14 #[.int .i64 at', .int .i64 74] w fun e w' => e = .returned (.int .i64 (kN : Int)) ∧ w' = w) := fun w => by
    rw [← hkN]
    exact pick_any at' 74 w HI.out.2.1 (by decide) (by decide)
  obtain ⟨vN, hvN, vb⟩ : ∃ c : Nat, pickI bz 255 = (c : Int) ∧ c ≤ 254 := by
    obtain ⟨c, hc⟩ := Int.eq_ofNat_of_zero_le (pickI_lo bz 255 (by decide))
    exact ⟨c, hc, by have := pickI_hi bz 255 (by decide); omega⟩
  have HPv : Hid (∀ w, Calls Tryd.prog 14 #[.int .i64 bz, .int .i64 255] w fun e w' => e = .returned (.int .i64 (vN : Int)) ∧ w' = w) := fun w => by
    rw [← hvN]
    exact pick_any bz 255 w HI.out.2.2 (by decide) (by decide)
  clear hkN hvN
  refine (HPk.out _).mono ?_
  rintro e w' ⟨rfl, hw'⟩
  obtain rfl := hw'.symm
  clear hw' HPk
  go_wp2_with fail
--C
  refine (HPv.out _).mono ?_
  rintro e w' ⟨rfl, hw'⟩
  obtain rfl := hw'.symm
  clear hw' HPv
  obtain ⟨K, hK, K1, K2⟩ : ∃ K : Nat, K = 260 + kN ∧ 260 ≤ K ∧ K ≤ 333 := ⟨_, rfl, by omega, by omega⟩
  have HK : Hid (K = 260 + kN) := hK
  clear hK
  go_upto_if 81 with fail
  obtain ⟨V, hV, V1, V2⟩ : ∃ V : Nat, V = 1 + vN ∧ 1 ≤ V ∧ V ≤ 255 := ⟨_, rfl, by omega, by omega⟩
  have HV : Hid (V = 1 + vN) := hV
  clear hV
  go_cut [12, 13] (fun s r wx => w3 = wx ∧ s = .int .i64 (K : Int) ∧ r = .int .u8 (V : Int))
  case first =>
    by_cases hlt : kN < 48
    · have z : (kN : Int) < 48 := by omega
      go_wp2_with fail
      go_meet
      exact ⟨rfl, by rw [HK.out]; congr 1 <;> omega, by rw [HV.out]; congr 1 <;> omega⟩
    · have z : ¬ (kN : Int) < 48 := by omega
      go_wp2_with fail
      go_meet
      exact ⟨rfl, by rw [HK.out]; congr 1 <;> omega, by rw [HV.out]; congr 1 <;> omega⟩
  case rest =>
  obtain ⟨hwx, rfl, rfl⟩ := hcut
  subst hwx
  clear HK HV kb vb
  have HF8 : Hid (∀ k, 0 ≤ romF ty 0 2 at' k ∧ romF ty 0 2 at' k ≤ 255) := romF_byte _ _ _ _
  obtain ⟨x, hx, x8⟩ : ∃ x : Nat, romF ty 0 2 at' K = (x : Int) ∧ x ≤ 255 := by
    obtain ⟨c, hc⟩ := Int.eq_ofNat_of_zero_le (HF8.out K).1
    exact ⟨c, hc, by have := (HF8.out K).2; omega⟩
  have HXx : Hid (romF ty 0 2 at' K = (x : Int)) := hx
  have kx : w3.cell? ⟨g, K, none⟩ = some (.int .u8 (x : Int)) := by rw [← hx]; exact HB3.out.cell K (by rw [HN.out]; omega)
  have eK : (K : Int) < (N : Int) := by rw [← HnI.out]; omega
  clear hx
  obtain ⟨y, hy, y8, yne, hyx⟩ := xor_turn x8 V1 V2
  have HYx : Hid (bits .xor .u8 (y : Int) (V : Int) = (x : Int)) := hyx
  clear hyx
  have kf : w3.frozen? ⟨g, K, none⟩ = false := HB3.out.fz K
  go_wp2_with fail
--D
  have HU4 : Hid (Up W (w3.setCell ⟨g, K, none⟩ (.int .u8 (y : Int)))) := HU3.out.setCell HG.out _
  have HB4 : Hid (By (w3.setCell ⟨g, K, none⟩ (.int .u8 (y : Int))) g N (putF (romF ty 0 2 at') K 1 (fun _ => (y : Int)))) := HB3.out.set K (by rw [HN.out]; omega) _
  have HH4 : Hid ((w3.setCell ⟨g, K, none⟩ (.int .u8 (y : Int))).heap[hb]? = some (.cells #[.string T, .int .i64 (ty : Int), .int .i64 (R0.mapper : Int), .int .i64 2, .int .i64 rn, .bool R0.bat] 30 (0, 0))) := (((Fr.refl g w3).setCell).block hb (heap_at HH3.out) (by have := HGh.out; omega)).trans HH3.out
  have HNe : Hid ((y : Int) ≠ romF ty 0 2 at' K) := by
    show _ ≠ _
    rw [HXx.out]
    omega
  have hlt : hb < (w3.setCell ⟨g, K, none⟩ (.int .u8 (y : Int))).heap.size := heap_at HH4.out
  clear kx kf hy HU3 HB3 HH3 yne
  generalize World.setCell w3 _ _ = w4 at HU4 HB4 HH4 hlt ⊢
  obtain ⟨fk, hfk, hfc⟩ : ∃ fk, faultK K = fk ∧ (K < 308 ∧ fk = 42 ∨ 308 ≤ K ∧ fk = 43) := by
    refine ⟨_, rfl, ?_⟩
    unfold faultK
    by_cases q : K < 308
    · exact Or.inl ⟨q, by rw [if_pos q]⟩
    · exact Or.inr ⟨by omega, by rw [if_neg q]⟩
  have HFc : Hid (K < 308 ∧ fk = 42 ∨ 308 ≤ K ∧ fk = 43) := hfc
  have HCt : Hid (∀ w, Up w4 w → Calls Tryd.prog 13 #[.slice (some ⟨g, 0, none⟩) N N] w fun e w' => e = .returned (.tuple #[.agg zHead, .int .i64 fk]) ∧ Up w w') := fun w u => by
    rw [← hfk]
    exact check_turn HN.out (HTb.out.up (HU4.out.trans u)) rfl (HB4.out.up u) K1 (by omega) HNe.out (by omega) (by omega)
  have HNt : Hid (∀ w, Up w4 w → Calls Tryd.prog 15 #[.slice (some ⟨g, 0, none⟩) N N, .slice none 0 0] w fun e w' => e = .returned (.tuple #[.pointer none, .int .i64 fk]) ∧ Up w w') := fun w u => by
    rw [← hfk]
    exact new_turn HN.out (HTb.out.up (HU4.out.trans u)) rfl (HB4.out.up u) K1 (by omega) HNe.out (by omega) (by omega)
  have fk0 : (fk == 0) = false := by rw [beq_eq_false_iff_ne]; omega
  clear hfk hfc
  refine (HCt.out _ (Up.refl _)).mono ?_
  rintro e w5 ⟨rfl, u5⟩
  have HU5 : Hid (Up w4 w5) := u5
  clear u5 HCt
  unfold zHead
  go_wp2_with fail
--E
  have HZ6 : Hid ((w5.alloc (.cells #[.string ⟨#[]⟩, .int .i64 0, .int .i64 0, .int .i64 0, .int .i64 0, .bool false] 30)).heap[w5.heap.size]? = some (.cells #[.string ⟨#[]⟩, .int .i64 0, .int .i64 0, .int .i64 0, .int .i64 0, .bool false] 30 (0, 0))) := heap_alloc_new w5 _
  have HU6 : Hid (Up w4 (w5.alloc (.cells #[.string ⟨#[]⟩, .int .i64 0, .int .i64 0, .int .i64 0, .int .i64 0, .bool false] 30))) := HU5.out.alloc _
  clear HU5
  generalize World.alloc w5 _ = w6 at HZ6 HU6 ⊢
  generalize w5.heap.size = gb at HZ6 ⊢
  refine (HNt.out _ HU6.out).mono ?_
  rintro e w7 ⟨rfl, u7⟩
  have HU7 : Hid (Up w4 w7) := HU6.out.trans u7
  have HZ7 : Hid (w7.heap[gb]? = some (.cells #[.string ⟨#[]⟩, .int .i64 0, .int .i64 0, .int .i64 0, .int .i64 0, .bool false] 30 (0, 0))) := (u7.block gb (heap_at HZ6.out)).trans HZ6.out
  have HH7 : Hid (w7.heap[hb]? = some (.cells #[.string T, .int .i64 (ty : Int), .int .i64 (R0.mapper : Int), .int .i64 2, .int .i64 rn, .bool R0.bat] 30 (0, 0))) := (HU7.out.block hb hlt).trans HH4.out
  clear u7 HNt HU6 HZ6
  have HRg : Hid (w7.rangeAt gb 0 [.string ⟨#[]⟩, .int .i64 0, .int .i64 0, .int .i64 0, .int .i64 0, .bool false]) := range_heap HZ7.out
  have HRh : Hid (w7.rangeAt hb 0 [.string T, .int .i64 (ty : Int), .int .i64 (R0.mapper : Int), .int .i64 2, .int .i64 rn, .bool R0.bat]) := range_heap HH7.out
  go_wp2_with (first
    | (refine wpList_on rfl (wp_load_mid 30 _ rfl gb 0 rfl [.string ⟨#[]⟩, .int .i64 0, .int .i64 0, .int .i64 0, .int .i64 0, .bool false] _ HRg.out Tryd.underlying30 rfl (by kernel_rfl) ?_))
    | (refine wpList_on rfl (wp_load_mid 30 _ rfl hb 0 rfl [.string T, .int .i64 (ty : Int), .int .i64 (R0.mapper : Int), .int .i64 2, .int .i64 rn, .bool R0.bat] _ HRh.out Tryd.underlying30 rfl (by kernel_rfl) ?_)))
--F
  refine (sameHead_no HTT.out w7).mono ?_
  rintro e w8 ⟨rfl, u8'⟩
  have HU8 : Hid (Up w4 w8) := HU7.out.trans u8'
  clear u8' HU7 HZ7 HH7 HRg HRh
  have HB8 : Hid (By w8 g N (putF (romF ty 0 2 at') K 1 (fun _ => (y : Int)))) := HB4.out.up HU8.out
  have HUW8 : Hid (Up W w8) := HU4.out.trans HU8.out
  have ky : w8.cell? ⟨g, K, none⟩ = some (.int .u8 (y : Int)) := by
    have := HB8.out.cell K (by rw [HN.out]; omega)
    rwa [putF_in _ _ (by omega) (by omega)] at this
  have kf : w8.frozen? ⟨g, K, none⟩ = false := HB8.out.fz K
  have hyx := HYx.out
  clear HU4 HB4 HH4 hlt HU8
  rcases HFc.out with ⟨q, qf⟩ | ⟨q, qf⟩
  all_goals subst qf
  · have q' : (K : Int) < 308 := by omega
    go_wp2_with fail
    have HB9 : Hid (By (w8.setCell ⟨g, K, none⟩ (.int .u8 (x : Int))) g N (romF ty 0 2 at')) := (HB8.out.set K (by rw [HN.out]; omega) _).congr (fun k hk => by
      by_cases e : k = K
      · rw [e, putF_in _ _ (by omega) (by omega)]
        exact HXx.out.symm
      · rw [putF_out _ _ (by omega), putF_out _ _ (by omega)])
    have HU9 : Hid (Up W (w8.setCell ⟨g, K, none⟩ (.int .u8 (x : Int)))) := HUW8.out.setCell HG.out _
    clear HB8 HUW8 ky kf hyx
    generalize World.setCell w8 _ _ = w9 at HB9 HU9 ⊢
    obtain ⟨fN, hfN, fb⟩ : ∃ c : Nat, pickI bz 32432 = (c : Int) ∧ c ≤ 32431 := by
      obtain ⟨c, hc⟩ := Int.eq_ofNat_of_zero_le (pickI_lo bz 32432 (by decide))
      exact ⟨c, hc, by have := pickI_hi bz 32432 (by decide); omega⟩
    have HPf : Hid (∀ w, Calls Tryd.prog 14 #[.int .i64 bz, .int .i64 32432] w fun e w' => e = .returned (.int .i64 (fN : Int)) ∧ w' = w) := fun w => by
      rw [← hfN]
      exact pick_any bz 32432 w HI.out.2.2 (by decide) (by decide)
    clear hfN
    refine (HPf.out _).mono ?_
    rintro e w' ⟨rfl, hw'⟩
    obtain rfl := hw'.symm
    clear hw' HPf
    obtain ⟨x2, hx2, x28⟩ : ∃ x2 : Nat, romF ty 0 2 at' (336 + fN) = (x2 : Int) ∧ x2 ≤ 255 := by
      obtain ⟨c, hc⟩ := Int.eq_ofNat_of_zero_le (HF8.out (336 + fN)).1
      exact ⟨c, hc, by have := (HF8.out (336 + fN)).2; omega⟩
    obtain ⟨y2, hy2, y28, yne2, hyx2⟩ := xor_turn x28 V1 V2
    have kx2 : w9.cell? ⟨g, 336 + fN, none⟩ = some (.int .u8 (x2 : Int)) := by rw [← hx2]; exact HB9.out.cell (336 + fN) (by rw [HN.out]; omega)
    have kf2 : w9.frozen? ⟨g, 336 + fN, none⟩ = false := HB9.out.fz _
    have e2 : (336 : Int) + (fN : Int) < (N : Int) := by rw [← HnI.out]; omega
    obtain ⟨pN, hpN, pb⟩ : ∃ c : Nat, pickI at' 260 = (c : Int) ∧ c ≤ 259 := by
      obtain ⟨c, hc⟩ := Int.eq_ofNat_of_zero_le (pickI_lo at' 260 (by decide))
      exact ⟨c, hc, by have := pickI_hi at' 260 (by decide); omega⟩
    have HPp : Hid (∀ w, Calls Tryd.prog 14 #[.int .i64 at', .int .i64 260] w fun e w' => e = .returned (.int .i64 (pN : Int)) ∧ w' = w) := fun w => by
      rw [← hpN]
      exact pick_any at' 260 w HI.out.2.1 (by decide) (by decide)
    clear hpN
    clear hx2 hyx2 yne2
    go_wp2_with fail
--H
    have HB10 : Hid (By (w9.setCell ⟨g, 336 + fN, none⟩ (.int .u8 (y2 : Int))) g N (putF (romF ty 0 2 at') (336 + fN) 1 (fun _ => (y2 : Int)))) := HB9.out.set _ (by rw [HN.out]; omega) _
    have HU10 : Hid (Up W (w9.setCell ⟨g, 336 + fN, none⟩ (.int .u8 (y2 : Int)))) := HU9.out.setCell HG.out _
    clear HB9 HU9 kx2 kf2 e2 hy2
    generalize World.setCell w9 _ _ = w10 at HB10 HU10 ⊢
    refine (HPp.out _).mono ?_
    rintro e w' ⟨rfl, hw'⟩
    obtain rfl := hw'.symm
    clear hw' HPp
    have kc : ∃ z, w10.cell? ⟨g, pN, none⟩ = some (.int .u8 z) := ⟨_, HB10.out.cell pN (by rw [HN.out]; omega)⟩
    obtain ⟨z, kz⟩ := kc
    have kf3 : w10.frozen? ⟨g, pN, none⟩ = false := HB10.out.fz _
    have e3 : (pN : Int) < (N : Int) := by rw [← HnI.out]; omega
    go_wp2_with fail
--I
    obtain ⟨f11, B11, D11, E11⟩ : ∃ f11, By (w10.setCell ⟨g, pN, none⟩ (.int .u8 (bz % 256))) g N f11 ∧ Hd f11 (romF ty 0 2 at') ∧ ∀ k, 0 ≤ f11 k ∧ f11 k ≤ 255 :=
      ⟨_, HB10.out.set pN (by rw [HN.out]; omega) _, ((Hd.refl _).put (Or.inr (by omega))).put (Or.inl (by omega)), putF_byte (putF_byte HF8.out (fun _ => by omega)) (fun _ => by omega)⟩
    have HB11 : Hid _ := B11
    have HD11 : Hid (Hd f11 (romF ty 0 2 at')) := D11
    have HE11 : Hid _ := E11
    have HU11 : Hid (Up W (w10.setCell ⟨g, pN, none⟩ (.int .u8 (bz % 256)))) := HU10.out.setCell HG.out _
    clear B11 D11 E11 HB10 HU10 kz kf3 e3
    generalize World.setCell w10 _ _ = w11 at HB11 HU11 ⊢
    refine (check_hd HN.out (HTb.out.up HU11.out) HB0.out HB11.out HE11.out HD11.out).mono ?_
    rintro e w12 ⟨T2, rn2, rfl, _, u12⟩
    have HU12 : Hid (Up w11 w12) := u12
    clear u12
    go_wp2_with fail
--J
    have HU13 : Hid (∀ o, Up w11 (w12.alloc o)) := fun o => HU12.out.alloc o
    have HU13 : Hid _ := HU13.out (.cells #[.string T2, .int .i64 (ty : Int), .int .i64 (R0.mapper : Int), .int .i64 2, .int .i64 rn2, .bool R0.bat] 30)
    generalize World.alloc w12 _ = w13 at HU13 ⊢
    refine (new_hd HN.out (HTb.out.up (HU11.out.trans HU13.out)) HB0.out (HB11.out.up HU13.out) HE11.out HD11.out).mono ?_
    rintro e w14 ⟨A, rfl, hs⟩
    have HS : Hid (Sn A f11 g w14) := hs.sn (HB11.out.up HU13.out).lt
    have HU14 : Hid (Up W w14) := HU11.out.trans (HU13.out.trans hs.up)
    have HB14 : Hid (By w14 g N f11) := HB11.out.up (HU13.out.trans hs.up)
    clear hs HU13 HU12 HB11 HU11
    obtain ⟨x3, hx3, x38⟩ : ∃ x3 : Nat, f11 512 = (x3 : Int) ∧ x3 ≤ 255 := by
      obtain ⟨c, hc⟩ := Int.eq_ofNat_of_zero_le (HE11.out 512).1
      exact ⟨c, hc, by have := (HE11.out 512).2; omega⟩
    have HX3 : Hid (f11 512 = (x3 : Int)) := hx3
    obtain ⟨y3, hy3, y38, yne3, hyx3⟩ := xor_turn x38 V1 V2
    have k3 : w14.cell? ⟨g, 512, none⟩ = some (.int .u8 (x3 : Int)) := by rw [← hx3]; exact HB14.out.cell 512 (by rw [HN.out]; decide)
    have kf4 : w14.frozen? ⟨g, 512, none⟩ = false := HB14.out.fz _
    have e4 : (512 : Int) < (N : Int) := by rw [← HnI.out]; decide
    clear hx3 hyx3 yne3
    go_wp2_with fail
--K
    have HB15 : Hid (By (w14.setCell ⟨g, 512, none⟩ (.int .u8 (y3 : Int))) g N (putF f11 512 1 (fun _ => (y3 : Int)))) := HB14.out.set 512 (by rw [HN.out]; decide) _
    have HU15 : Hid (Up W (w14.setCell ⟨g, 512, none⟩ (.int .u8 (y3 : Int)))) := HU14.out.setCell HG.out _
    have HS15 : Hid (Sn A f11 g (w14.setCell ⟨g, 512, none⟩ (.int .u8 (y3 : Int)))) := HS.out.fr ((Fr.refl g w14).setCell)
    clear HB14 HU14 HS k3 kf4 e4
    generalize World.setCell w14 _ _ = w15 at HB15 HU15 HS15 ⊢
    refine (new_hd HN.out (HTb.out.up HU15.out) HB0.out HB15.out (putF_byte HE11.out (fun _ => by omega)) (Hd.put HD11.out (Or.inr (by decide)))).mono ?_
    rintro e w16 ⟨A2, rfl, hs⟩
    have HS2 : Hid (Sn A2 (putF f11 512 1 (fun _ => (y3 : Int))) g w16) := hs.sn HB15.out.lt
    have HS1 : Hid (Sn A f11 g w16) := HS15.out.up hs.up
    have HU16 : Hid (Up W w16) := HU15.out.trans hs.up
    clear hs HB15 HU15 HS15
    have HR1 : Hid (Calls Tryd.prog 17 #[.pointer (some ⟨A.cb, 0, none⟩), .int .i64 512] w16 fun e w' => e = .returned (.int .u8 (x3 : Int)) ∧ Up w16 w') := by
      show Calls _ _ _ _ _
      rw [← HX3.out]
      exact HS1.out.low
    have HR2 : Hid (∀ w, Up w16 w → Calls Tryd.prog 17 #[.pointer (some ⟨A2.cb, 0, none⟩), .int .i64 512] w fun e w' => e = .returned (.int .u8 (y3 : Int)) ∧ Up w w') := fun w u => by
      refine ((HS2.out.up u).low).mono fun e w' ⟨q1, q2⟩ => ⟨?_, q2⟩
      rw [q1, putF_in _ _ (by omega) (by omega)]
    go_wp2_with fail
--L
    refine HR1.out.mono ?_
    rintro e w17 ⟨rfl, u17⟩
    have HU17 : Hid (Up w16 w17) := u17
    clear u17
    go_wp2_with fail
    refine (HR2.out _ HU17.out).mono ?_
    rintro e w18 ⟨rfl, u18⟩
    have HU18 : Hid (Up W w18) := HU16.out.trans (HU17.out.trans u18)
    clear u18
    go_wp2_with fail
    go_ret
    exact ⟨rfl, HU18.out⟩
  · have q' : ¬ (K : Int) < 308 := by omega
    have q2 : (308 : Int) ≤ (K : Int) := by omega
    go_wp2_with fail
    have HB9 : Hid (By (w8.setCell ⟨g, K, none⟩ (.int .u8 (x : Int))) g N (romF ty 0 2 at')) := (HB8.out.set K (by rw [HN.out]; omega) _).congr (fun k hk => by
      by_cases e : k = K
      · rw [e, putF_in _ _ (by omega) (by omega)]
        exact HXx.out.symm
      · rw [putF_out _ _ (by omega), putF_out _ _ (by omega)])
    have HU9 : Hid (Up W (w8.setCell ⟨g, K, none⟩ (.int .u8 (x : Int)))) := HUW8.out.setCell HG.out _
    clear HB8 HUW8 ky kf hyx
    generalize World.setCell w8 _ _ = w9 at HB9 HU9 ⊢
    obtain ⟨fN, hfN, fb⟩ : ∃ c : Nat, pickI bz 32432 = (c : Int) ∧ c ≤ 32431 := by
      obtain ⟨c, hc⟩ := Int.eq_ofNat_of_zero_le (pickI_lo bz 32432 (by decide))
      exact ⟨c, hc, by have := pickI_hi bz 32432 (by decide); omega⟩
    have HPf : Hid (∀ w, Calls Tryd.prog 14 #[.int .i64 bz, .int .i64 32432] w fun e w' => e = .returned (.int .i64 (fN : Int)) ∧ w' = w) := fun w => by
      rw [← hfN]
      exact pick_any bz 32432 w HI.out.2.2 (by decide) (by decide)
    clear hfN
    refine (HPf.out _).mono ?_
    rintro e w' ⟨rfl, hw'⟩
    obtain rfl := hw'.symm
    clear hw' HPf
    obtain ⟨x2, hx2, x28⟩ : ∃ x2 : Nat, romF ty 0 2 at' (336 + fN) = (x2 : Int) ∧ x2 ≤ 255 := by
      obtain ⟨c, hc⟩ := Int.eq_ofNat_of_zero_le (HF8.out (336 + fN)).1
      exact ⟨c, hc, by have := (HF8.out (336 + fN)).2; omega⟩
    obtain ⟨y2, hy2, y28, yne2, hyx2⟩ := xor_turn x28 V1 V2
    have kx2 : w9.cell? ⟨g, 336 + fN, none⟩ = some (.int .u8 (x2 : Int)) := by rw [← hx2]; exact HB9.out.cell (336 + fN) (by rw [HN.out]; omega)
    have kf2 : w9.frozen? ⟨g, 336 + fN, none⟩ = false := HB9.out.fz _
    have e2 : (336 : Int) + (fN : Int) < (N : Int) := by rw [← HnI.out]; omega
    obtain ⟨pN, hpN, pb⟩ : ∃ c : Nat, pickI at' 260 = (c : Int) ∧ c ≤ 259 := by
      obtain ⟨c, hc⟩ := Int.eq_ofNat_of_zero_le (pickI_lo at' 260 (by decide))
      exact ⟨c, hc, by have := pickI_hi at' 260 (by decide); omega⟩
    have HPp : Hid (∀ w, Calls Tryd.prog 14 #[.int .i64 at', .int .i64 260] w fun e w' => e = .returned (.int .i64 (pN : Int)) ∧ w' = w) := fun w => by
      rw [← hpN]
      exact pick_any at' 260 w HI.out.2.1 (by decide) (by decide)
    clear hpN
    clear hx2 hyx2 yne2
    go_wp2_with fail
--H
    have HB10 : Hid (By (w9.setCell ⟨g, 336 + fN, none⟩ (.int .u8 (y2 : Int))) g N (putF (romF ty 0 2 at') (336 + fN) 1 (fun _ => (y2 : Int)))) := HB9.out.set _ (by rw [HN.out]; omega) _
    have HU10 : Hid (Up W (w9.setCell ⟨g, 336 + fN, none⟩ (.int .u8 (y2 : Int)))) := HU9.out.setCell HG.out _
    clear HB9 HU9 kx2 kf2 e2 hy2
    generalize World.setCell w9 _ _ = w10 at HB10 HU10 ⊢
    refine (HPp.out _).mono ?_
    rintro e w' ⟨rfl, hw'⟩
    obtain rfl := hw'.symm
    clear hw' HPp
    have kc : ∃ z, w10.cell? ⟨g, pN, none⟩ = some (.int .u8 z) := ⟨_, HB10.out.cell pN (by rw [HN.out]; omega)⟩
    obtain ⟨z, kz⟩ := kc
    have kf3 : w10.frozen? ⟨g, pN, none⟩ = false := HB10.out.fz _
    have e3 : (pN : Int) < (N : Int) := by rw [← HnI.out]; omega
    go_wp2_with fail
--I
    obtain ⟨f11, B11, D11, E11⟩ : ∃ f11, By (w10.setCell ⟨g, pN, none⟩ (.int .u8 (bz % 256))) g N f11 ∧ Hd f11 (romF ty 0 2 at') ∧ ∀ k, 0 ≤ f11 k ∧ f11 k ≤ 255 :=
      ⟨_, HB10.out.set pN (by rw [HN.out]; omega) _, ((Hd.refl _).put (Or.inr (by omega))).put (Or.inl (by omega)), putF_byte (putF_byte HF8.out (fun _ => by omega)) (fun _ => by omega)⟩
    have HB11 : Hid _ := B11
    have HD11 : Hid (Hd f11 (romF ty 0 2 at')) := D11
    have HE11 : Hid _ := E11
    have HU11 : Hid (Up W (w10.setCell ⟨g, pN, none⟩ (.int .u8 (bz % 256)))) := HU10.out.setCell HG.out _
    clear B11 D11 E11 HB10 HU10 kz kf3 e3
    generalize World.setCell w10 _ _ = w11 at HB11 HU11 ⊢
    refine (check_hd HN.out (HTb.out.up HU11.out) HB0.out HB11.out HE11.out HD11.out).mono ?_
    rintro e w12 ⟨T2, rn2, rfl, _, u12⟩
    have HU12 : Hid (Up w11 w12) := u12
    clear u12
    go_wp2_with fail
--J
    have HU13 : Hid (∀ o, Up w11 (w12.alloc o)) := fun o => HU12.out.alloc o
    have HU13 : Hid _ := HU13.out (.cells #[.string T2, .int .i64 (ty : Int), .int .i64 (R0.mapper : Int), .int .i64 2, .int .i64 rn2, .bool R0.bat] 30)
    generalize World.alloc w12 _ = w13 at HU13 ⊢
    refine (new_hd HN.out (HTb.out.up (HU11.out.trans HU13.out)) HB0.out (HB11.out.up HU13.out) HE11.out HD11.out).mono ?_
    rintro e w14 ⟨A, rfl, hs⟩
    have HS : Hid (Sn A f11 g w14) := hs.sn (HB11.out.up HU13.out).lt
    have HU14 : Hid (Up W w14) := HU11.out.trans (HU13.out.trans hs.up)
    have HB14 : Hid (By w14 g N f11) := HB11.out.up (HU13.out.trans hs.up)
    clear hs HU13 HU12 HB11 HU11
    obtain ⟨x3, hx3, x38⟩ : ∃ x3 : Nat, f11 512 = (x3 : Int) ∧ x3 ≤ 255 := by
      obtain ⟨c, hc⟩ := Int.eq_ofNat_of_zero_le (HE11.out 512).1
      exact ⟨c, hc, by have := (HE11.out 512).2; omega⟩
    have HX3 : Hid (f11 512 = (x3 : Int)) := hx3
    obtain ⟨y3, hy3, y38, yne3, hyx3⟩ := xor_turn x38 V1 V2
    have k3 : w14.cell? ⟨g, 512, none⟩ = some (.int .u8 (x3 : Int)) := by rw [← hx3]; exact HB14.out.cell 512 (by rw [HN.out]; decide)
    have kf4 : w14.frozen? ⟨g, 512, none⟩ = false := HB14.out.fz _
    have e4 : (512 : Int) < (N : Int) := by rw [← HnI.out]; decide
    clear hx3 hyx3 yne3
    go_wp2_with fail
--K
    have HB15 : Hid (By (w14.setCell ⟨g, 512, none⟩ (.int .u8 (y3 : Int))) g N (putF f11 512 1 (fun _ => (y3 : Int)))) := HB14.out.set 512 (by rw [HN.out]; decide) _
    have HU15 : Hid (Up W (w14.setCell ⟨g, 512, none⟩ (.int .u8 (y3 : Int)))) := HU14.out.setCell HG.out _
    have HS15 : Hid (Sn A f11 g (w14.setCell ⟨g, 512, none⟩ (.int .u8 (y3 : Int)))) := HS.out.fr ((Fr.refl g w14).setCell)
    clear HB14 HU14 HS k3 kf4 e4
    generalize World.setCell w14 _ _ = w15 at HB15 HU15 HS15 ⊢
    refine (new_hd HN.out (HTb.out.up HU15.out) HB0.out HB15.out (putF_byte HE11.out (fun _ => by omega)) (Hd.put HD11.out (Or.inr (by decide)))).mono ?_
    rintro e w16 ⟨A2, rfl, hs⟩
    have HS2 : Hid (Sn A2 (putF f11 512 1 (fun _ => (y3 : Int))) g w16) := hs.sn HB15.out.lt
    have HS1 : Hid (Sn A f11 g w16) := HS15.out.up hs.up
    have HU16 : Hid (Up W w16) := HU15.out.trans hs.up
    clear hs HB15 HU15 HS15
    have HR1 : Hid (Calls Tryd.prog 17 #[.pointer (some ⟨A.cb, 0, none⟩), .int .i64 512] w16 fun e w' => e = .returned (.int .u8 (x3 : Int)) ∧ Up w16 w') := by
      show Calls _ _ _ _ _
      rw [← HX3.out]
      exact HS1.out.low
    have HR2 : Hid (∀ w, Up w16 w → Calls Tryd.prog 17 #[.pointer (some ⟨A2.cb, 0, none⟩), .int .i64 512] w fun e w' => e = .returned (.int .u8 (y3 : Int)) ∧ Up w w') := fun w u => by
      refine ((HS2.out.up u).low).mono fun e w' ⟨q1, q2⟩ => ⟨?_, q2⟩
      rw [q1, putF_in _ _ (by omega) (by omega)]
    go_wp2_with fail
--L
    refine HR1.out.mono ?_
    rintro e w17 ⟨rfl, u17⟩
    have HU17 : Hid (Up w16 w17) := u17
    clear u17
    go_wp2_with fail
    refine (HR2.out _ HU17.out).mono ?_
    rintro e w18 ⟨rfl, u18⟩
    have HU18 : Hid (Up W w18) := HU16.out.trans (HU17.out.trans u18)
    clear u18
    go_wp2_with fail
    go_ret
    exact ⟨rfl, HU18.out⟩
end Go.Proofs.YtfalkkkhhpnffaaDoor
