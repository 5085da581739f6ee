/- PpuSprites: the walk. -/
import Derived.Test.YtgiilodjkcjgdaaWSp0
namespace Go.Proofs.Ytgiilodjkcjgdaa
open Go.RowKit
set_option linter.unusedVariables false
variable {b : Nat} {p : Pic}
set_option maxRecDepth 100000 in
set_option maxHeartbeats 4000000 in
theorem sprites_walkC {W : World} {aa : Option Addr} {ab ao len cap : Nat} {f : Nat → Int} {r0 c0 k0 : Int} (D : Byts W aa ab ao len cap f) (hr : I64 r0) (hc : I64 c0) (hk : I64 k0) (h16 : (bits .and .i64 (pickI k0 256) 16 != 0) = true) (hQ : sprQ (pickI k0 256) = 27) (h64 : bits .and .u8 (pickI k0 256) 64 = 0) :
    Calls Try.prog 11 #[.slice aa len cap, .int .i64 r0, .int .i64 c0, .int .i64 k0] W fun e w' => e = .returned (.bool true) ∧ Up W w' := by
  have HPr : Hid (∀ W, Calls Try.prog 17 #[.int .i64 r0, .int .i64 256] W fun e w' => e = .returned (.int .i64 (pickI r0 256)) ∧ w' = W) := fun W => pick_any r0 256 W hr (by decide) (by decide)
  have HPc : Hid (∀ W, Calls Try.prog 17 #[.int .i64 c0, .int .i64 256] W fun e w' => e = .returned (.int .i64 (pickI c0 256)) ∧ w' = W) := fun W => pick_any c0 256 W hc (by decide) (by decide)
  have HPk : Hid (∀ W, Calls Try.prog 17 #[.int .i64 k0, .int .i64 256] W fun e w' => e = .returned (.int .i64 (pickI k0 256)) ∧ w' = W) := fun W => pick_any k0 256 W hk (by decide) (by decide)
  have hr0 := pickI_lo r0 256 (by decide)
  have hr1 := pickI_hi r0 256 (by decide)
  have hc0 := pickI_lo c0 256 (by decide)
  have hc1 := pickI_hi c0 256 (by decide)
  have hk0 := pickI_lo k0 256 (by decide)
  have hk1 := pickI_hi k0 256 (by decide)
  have HT : Hid (∀ m, 0 ≤ tileOf len f m ∧ tileOf len f m ≤ 255) := tileOf_b D.u8
  have HBl : Hid _ := blob_any D
  clear D hr hc hk
  generalize pickI r0 256 = r at *
  generalize pickI c0 256 = c at *
  generalize pickI k0 256 = k at *
  generalize tileOf len f = T at *
  have HLo : Hid (∀ w tb oa ol oc, NmAt w tb 16 T → Calls Try.prog 29 #[.slice (some ⟨tb, 0, none⟩) 16 16, .slice oa ol oc] w fun e w' => ∃ rg pb tb ty, e = .returned (.agg #[.slice (some ⟨rg, 0, none⟩) 12 12, .slice oa ol oc, .slice (some ⟨pb, 0, none⟩) 1 1]) ∧ RgAt w' rg loneR ∧ NmAt w' tb 16 (tileOf 16 T) ∧ w'.heap[pb]? = some (.cells #[.int .i64 16, .slice (some ⟨tb, 0, none⟩) 16 16] ty (0, 0)) ∧ Up w w') := fun w tb oa ol oc n => lone_any (n.byts (by decide) HT.out) oa ol oc
  have HSh : Hid (∀ (w : World) (rg pb tb ob : Nat) (ty ty2 : TypeId), RgAt w rg loneR → NmAt w tb 16 (tileOf 16 T) → w.heap[pb]? = some (.cells #[.int .i64 16, .slice (some ⟨tb, 0, none⟩) 16 16] ty (0, 0)) → w.heap[ob]? = some (.cells #[.int .u8 r, .int .u8 c, .int .u8 1, .int .u8 k] ty2 (0, 0)) →
    Calls Try.prog 24 #[.agg #[.slice (some ⟨rg, 0, none⟩) 12 12, .slice (some ⟨ob, 0, none⟩) 4 4, .slice (some ⟨pb, 0, none⟩) 1 1]] w fun e w' => ∃ g, e = .returned (.tuple #[.slice (some ⟨g, 0, none⟩) 23040 23040, .bool true]) ∧ w.heap.size ≤ g ∧ NmAt w' g 23040 (fun i => sprPoint T r c k (i / 160) (i % 160)) ∧ Up w w') := fun w rg pb tb ob ty ty2 a1 a2 a3 a4 => sprShot_any ⟨hr0, by omega⟩ ⟨hc0, by omega⟩ ⟨hk0, by omega⟩ HT.out a1 a2 a3 a4
  have er : IntKind.u8.wrap r = r := by simp [IntKind.wrap, IntKind.bits, IntKind.signed]; omega
  have ec : IntKind.u8.wrap c = c := by simp [IntKind.wrap, IntKind.bits, IntKind.signed]; omega
  have ek : IntKind.u8.wrap k = k := by simp [IntKind.wrap, IntKind.bits, IntKind.signed]; omega
  have HE : Hid (IntKind.u8.wrap r = r ∧ IntKind.u8.wrap c = c ∧ IntKind.u8.wrap k = k) := ⟨er, ec, ek⟩
  clear er ec ek
  have HQ0 : Hid (sprQ k = 27) := hQ
  have HF6 : Hid (bits .and .u8 k 64 = 0) := h64
  have Ht1 : Hid ((bits .and .i64 k 16 != 0) = true) := h16
  clear hQ h64 h16
  go_enter Try.func11, Try.ntmps11
  go_wp2_with fail
  refine (HPr.out _).mono ?_
  rintro e w' ⟨rfl, hw'⟩
  obtain rfl := hw'.symm
  go_wp2_with fail
  refine (HPc.out _).mono ?_
  rintro e w' ⟨rfl, hw'⟩
  obtain rfl := hw'.symm
  go_wp2_with fail
  refine (HPk.out _).mono ?_
  rintro e w' ⟨rfl, hw'⟩
  obtain rfl := hw'.symm
  go_wp2_with fail
  refine Calls.mono HBl.out ?_
  rintro e w2 ⟨rfl, n2, u2⟩
  have H2 : Hid (NmAt w2 W.heap.size 16 T ∧ Up W w2) := ⟨n2, u2⟩
  clear n2 u2 HBl HPr HPc HPk
  generalize W.heap.size = tb at H2 ⊢
  go_wp2_with fail
  -- REST
  have u3 : Up w2 (w2.alloc (Obj.cells #[.int .u8 r, .int .u8 c, .int .u8 1, .int .u8 k] 5)) := (Up.refl w2).alloc _
  have g3 := heap_alloc_new w2 (Obj.cells #[.int .u8 r, .int .u8 c, .int .u8 1, .int .u8 k] 5)
  generalize World.alloc w2 _ = w3 at u3 g3 ⊢
  generalize w2.heap.size = ob at g3 ⊢
  have H3 : Hid (w3.heap[ob]? = some (.cells #[.int .u8 r, .int .u8 c, .int .u8 1, .int .u8 k] 5 (0, 0)) ∧ NmAt w3 tb 16 T ∧ Up W w3) := ⟨g3, H2.out.1.of_block (u3.block _ H2.out.1.lt), H2.out.2.trans u3⟩
  clear u3 g3 H2
  refine (HLo.out _ _ _ _ _ H3.out.2.1).mono ?_
  rintro e w4 ⟨rg, pb, tb2, ty, rfl, R4, N4, P4, u4⟩
  have H4 : Hid (RgAt w4 rg loneR ∧ NmAt w4 tb2 16 (tileOf 16 T) ∧ w4.heap[pb]? = some (.cells #[.int .i64 16, .slice (some ⟨tb2, 0, none⟩) 16 16] ty (0, 0)) ∧ w4.heap[ob]? = some (.cells #[.int .u8 r, .int .u8 c, .int .u8 1, .int .u8 k] 5 (0, 0)) ∧ NmAt w4 tb 16 T ∧ Up W w4) := ⟨R4, N4, P4, (u4.block _ (Array.getElem?_eq_some_iff.1 H3.out.1).1).trans H3.out.1, H3.out.2.1.of_block (u4.block _ H3.out.2.1.lt), H3.out.2.2.trans u4⟩
  clear R4 N4 P4 u4 H3 HLo
  go_wp2_with fail
  refine (HSh.out _ _ _ _ _ _ _ H4.out.1 H4.out.2.1 H4.out.2.2.1 H4.out.2.2.2.1).mono ?_
  rintro e w5 ⟨q, rfl, hq, n5, u5⟩
  have H5 : Hid (NmAt w5 q 23040 (fun i => sprPoint T r c k (i / 160) (i % 160)) ∧ NmAt w5 tb 16 T ∧ Up W w5) := ⟨n5, H4.out.2.2.2.2.1.of_block (u5.block _ H4.out.2.2.2.2.1.lt), H4.out.2.2.2.2.2.trans u5⟩
  clear n5 u5 hq H4 HSh
  have HF : Hid (∀ (y x : Nat), y < 144 → x < 160 → w5.cell? ⟨q, y * 160 + x, none⟩ = some (.int .u8 (sprPoint T r c k y x))) := fun y x hy hx => by
    have c2 := H5.out.1.cell (y * 160 + x) (by omega)
    have e3 : (y * 160 + x) / 160 = y := by omega
    have e4 : (y * 160 + x) % 160 = x := by omega
    try dsimp only at c2
    rw [e3, e4] at c2
    exact c2
  have HTc : Hid (∀ m, m < 16 → w5.cell? ⟨tb, m, none⟩ = some (.int .u8 (T m))) := fun m hm => H5.out.2.1.cell m hm
  have HUp : Hid (∀ n, Up W (w5.drewN n)) := fun n => H5.out.2.2.trans (Up.drewN _ n)
  clear H5
  have g6 : bits .and .i64 k 64 = bits .and .u8 k 64 := and64_i64 k hk0 (by omega)
  have g3 : bits .and .i64 k 32 = bits .and .u8 k 32 := and32_i64 k hk0 (by omega)
  have g1 : bits .and .i64 k 16 = bits .and .u8 k 16 := and16_i64 k hk0 (by omega)
  have HG : Hid (bits .and .i64 k 64 = bits .and .u8 k 64 ∧ bits .and .i64 k 32 = bits .and .u8 k 32) := ⟨g6, g3⟩
  clear g6 g3
  · clear g1
    have HQ := HQ0
    have t1 := Ht1.out
    clear HQ0 Ht1
    go_wp2_with fail
    clear t1
    go_loopw [16] (fun I wr => ∃ (y n : Nat), y ≤ 144 ∧ I = .int .i64 y ∧ wr = w5.drewN n) (fun I _ => 144 - (intOf I).toNat)
    case atStart => exact ⟨0, 0, by omega, rfl, rfl⟩
    case round =>
      obtain ⟨y, n, hy, rfl, rfl⟩ := hrel
      by_cases hly : y < 144
      · have d1 : decide ((y : Int) < 144) = true := decide_eq_true (by omega)
        have e1 : (y : Int) < 144 := by omega
        go_wp2_with fail
        go_loopw [17] (fun I wr => ∃ (x m : Nat), x ≤ 160 ∧ I = .int .i64 x ∧ wr = w5.drewN m) (fun I _ => 160 - (intOf I).toNat)
        case atStart => exact ⟨0, n, by omega, rfl, rfl⟩
        case round =>
          obtain ⟨x, m, hx, rfl, rfl⟩ := hrel
          by_cases hlx : x < 160
          · have d2 : decide ((x : Int) < 160) = true := decide_eq_true (by omega)
            have e2 : (x : Int) < 160 := by omega
            have kf := HF.out y x hly hlx
            have i2 : ((y : Int) * 160 + (x : Int)).toNat = y * 160 + x := by omega
            by_cases hbox : (0 ≤ (y : Int) + 16 - r ∧ (y : Int) + 16 - r < 8) ∧ 0 ≤ (x : Int) + 8 - c ∧ (x : Int) + 8 - c < 8
            · obtain ⟨vn, ev⟩ := Int.eq_ofNat_of_zero_le hbox.1.1
              obtain ⟨hn, eh⟩ := Int.eq_ofNat_of_zero_le hbox.2.1
              have hv : vn < 8 := by omega
              have hh : hn < 8 := by omega
              clear hbox
              have f6 := HF6.out
              by_cases f3 : bits .and .u8 k 32 = 0
              · have t6 : (bits .and .i64 k 64 != 0) = false := by rw [HG.out.1]; rw [f6]; rfl
                have t3 : (bits .and .i64 k 32 != 0) = false := by rw [HG.out.2]; rw [f3]; rfl
                obtain ⟨un, eu⟩ : ∃ un, un = vn := ⟨_, rfl⟩
                obtain ⟨sn, es⟩ : ∃ sn, sn = 7 - hn := ⟨_, rfl⟩
                have ku := spr_in (k := k) HT.out y x vn hn un sn hv hh ev eh (by rw [if_pos f6]; exact eu) (by rw [if_pos f3]; exact es)
                have k0 := HTc.out (2 * un) (by omega)
                have k1 := HTc.out (2 * un + 1) (by omega)
                have hu8 : un < 8 := by omega
                have hs8 : sn < 8 := by omega
                have j1 : (2 * (un : Int)).toNat = 2 * un := by omega
                have j2 : (2 * (un : Int) + 1).toNat = 2 * un + 1 := by omega
                have hu8b := hu8
                have eu2 : (vn : Int) = (un : Int) := by omega
                have es2 : (7 : Int) - ((hn : Int)) = (sn : Int) := by omega
                clear eu es hu8b
                have x0 := HT.out (2 * un)
                have x1 := HT.out (2 * un + 1)
                generalize T (2 * un) = L0 at k0 ku x0
                generalize T (2 * un + 1) = L1 at k1 ku x1
                obtain ⟨x00, x01⟩ := x0
                obtain ⟨x10, x11⟩ := x1
                have da := div_b x00 x01 sn
                have db := div_b x10 x11 sn
                have a1 := and1_i64 _ da.1 da.2
                have b1 := and1_i64 _ db.1 db.2
                have hA : L0 / 2 ^ sn % 2 = 0 ∨ L0 / 2 ^ sn % 2 = 1 := by omega
                have hB : L1 / 2 ^ sn % 2 = 0 ∨ L1 / 2 ^ sn % 2 = 1 := by omega
                obtain ⟨da0, da1⟩ := da
                obtain ⟨db0, db1⟩ := db
                rw [ku _ _ rfl rfl, HQ.out] at kf
                clear ku HTc HG f6 f3
                rcases hA with eA | eA <;> rcases hB with eB | eB <;> rw [eA] at a1 kf <;> rw [eB] at b1 kf <;> clear eA eB
                · rw [show (if (0 : Int) + 2 * 0 = 0 then (0 : Int) else colourI 27 (0 + 2 * 0)) = 0 by decide] at kf
                  go_wp2_with fail
                  go_quiet (fail)
                  go_wp2_with fail
                  refine ⟨⟨x + 1, m + nq, by omega, ?_, rfl⟩, ?_⟩
                  · first | rfl | (simp; done)
                  · simp [intOf]
                    omega
                · rw [show (if (0 : Int) + 2 * 1 = 0 then (0 : Int) else colourI 27 (0 + 2 * 1)) = 1 by decide] at kf
                  go_wp2_with fail
                  go_quiet (fail)
                  go_wp2_with fail
                  refine ⟨⟨x + 1, m + nq, by omega, ?_, rfl⟩, ?_⟩
                  · first | rfl | (simp; done)
                  · simp [intOf]
                    omega
                · rw [show (if (1 : Int) + 2 * 0 = 0 then (0 : Int) else colourI 27 (1 + 2 * 0)) = 2 by decide] at kf
                  go_wp2_with fail
                  go_quiet (fail)
                  go_wp2_with fail
                  refine ⟨⟨x + 1, m + nq, by omega, ?_, rfl⟩, ?_⟩
                  · first | rfl | (simp; done)
                  · simp [intOf]
                    omega
                · rw [show (if (1 : Int) + 2 * 1 = 0 then (0 : Int) else colourI 27 (1 + 2 * 1)) = 0 by decide] at kf
                  go_wp2_with fail
                  go_quiet (fail)
                  go_wp2_with fail
                  refine ⟨⟨x + 1, m + nq, by omega, ?_, rfl⟩, ?_⟩
                  · first | rfl | (simp; done)
                  · simp [intOf]
                    omega
              · have t6 : (bits .and .i64 k 64 != 0) = false := by rw [HG.out.1]; rw [f6]; rfl
                have t3 : (bits .and .i64 k 32 != 0) = true := by rw [HG.out.2]; exact bne_iff_ne.2 f3
                obtain ⟨un, eu⟩ : ∃ un, un = vn := ⟨_, rfl⟩
                obtain ⟨sn, es⟩ : ∃ sn, sn = hn := ⟨_, rfl⟩
                have ku := spr_in (k := k) HT.out y x vn hn un sn hv hh ev eh (by rw [if_pos f6]; exact eu) (by rw [if_neg f3]; exact es)
                have k0 := HTc.out (2 * un) (by omega)
                have k1 := HTc.out (2 * un + 1) (by omega)
                have hu8 : un < 8 := by omega
                have hs8 : sn < 8 := by omega
                have j1 : (2 * (un : Int)).toNat = 2 * un := by omega
                have j2 : (2 * (un : Int) + 1).toNat = 2 * un + 1 := by omega
                have hu8b := hu8
                have eu2 : (vn : Int) = (un : Int) := by omega
                have es2 : (7 : Int) - (7 - (hn : Int)) = (sn : Int) := by omega
                clear eu es hu8b
                have x0 := HT.out (2 * un)
                have x1 := HT.out (2 * un + 1)
                generalize T (2 * un) = L0 at k0 ku x0
                generalize T (2 * un + 1) = L1 at k1 ku x1
                obtain ⟨x00, x01⟩ := x0
                obtain ⟨x10, x11⟩ := x1
                have da := div_b x00 x01 sn
                have db := div_b x10 x11 sn
                have a1 := and1_i64 _ da.1 da.2
                have b1 := and1_i64 _ db.1 db.2
                have hA : L0 / 2 ^ sn % 2 = 0 ∨ L0 / 2 ^ sn % 2 = 1 := by omega
                have hB : L1 / 2 ^ sn % 2 = 0 ∨ L1 / 2 ^ sn % 2 = 1 := by omega
                obtain ⟨da0, da1⟩ := da
                obtain ⟨db0, db1⟩ := db
                rw [ku _ _ rfl rfl, HQ.out] at kf
                clear ku HTc HG f6 f3
                rcases hA with eA | eA <;> rcases hB with eB | eB <;> rw [eA] at a1 kf <;> rw [eB] at b1 kf <;> clear eA eB
                · rw [show (if (0 : Int) + 2 * 0 = 0 then (0 : Int) else colourI 27 (0 + 2 * 0)) = 0 by decide] at kf
                  go_wp2_with fail
                  go_quiet (fail)
                  go_wp2_with fail
                  refine ⟨⟨x + 1, m + nq, by omega, ?_, rfl⟩, ?_⟩
                  · first | rfl | (simp; done)
                  · simp [intOf]
                    omega
                · rw [show (if (0 : Int) + 2 * 1 = 0 then (0 : Int) else colourI 27 (0 + 2 * 1)) = 1 by decide] at kf
                  go_wp2_with fail
                  go_quiet (fail)
                  go_wp2_with fail
                  refine ⟨⟨x + 1, m + nq, by omega, ?_, rfl⟩, ?_⟩
                  · first | rfl | (simp; done)
                  · simp [intOf]
                    omega
                · rw [show (if (1 : Int) + 2 * 0 = 0 then (0 : Int) else colourI 27 (1 + 2 * 0)) = 2 by decide] at kf
                  go_wp2_with fail
                  go_quiet (fail)
                  go_wp2_with fail
                  refine ⟨⟨x + 1, m + nq, by omega, ?_, rfl⟩, ?_⟩
                  · first | rfl | (simp; done)
                  · simp [intOf]
                    omega
                · rw [show (if (1 : Int) + 2 * 1 = 0 then (0 : Int) else colourI 27 (1 + 2 * 1)) = 0 by decide] at kf
                  go_wp2_with fail
                  go_quiet (fail)
                  go_wp2_with fail
                  refine ⟨⟨x + 1, m + nq, by omega, ?_, rfl⟩, ?_⟩
                  · first | rfl | (simp; done)
                  · simp [intOf]
                    omega
            · rw [spr_out y x hbox] at kf
              clear HTc HG
              by_cases b1 : 0 ≤ (y : Int) + 16 - r
              · by_cases b2 : (y : Int) + 16 - r < 8
                · by_cases b3 : 0 ≤ (x : Int) + 8 - c
                  · by_cases b4 : (x : Int) + 8 - c < 8
                    · exact absurd ⟨⟨b1, b2⟩, b3, b4⟩ hbox
                    · clear hbox
                      go_wp2_with fail
                      refine ⟨⟨x + 1, m, by omega, ?_, rfl⟩, ?_⟩
                      · first | rfl | (simp; done)
                      · simp [intOf]
                        omega
                  · clear hbox
                    go_wp2_with fail
                    refine ⟨⟨x + 1, m, by omega, ?_, rfl⟩, ?_⟩
                    · first | rfl | (simp; done)
                    · simp [intOf]
                      omega
                · clear hbox
                  go_wp2_with fail
                  refine ⟨⟨x + 1, m, by omega, ?_, rfl⟩, ?_⟩
                  · first | rfl | (simp; done)
                  · simp [intOf]
                    omega
              · clear hbox
                go_wp2_with fail
                refine ⟨⟨x + 1, m, by omega, ?_, rfl⟩, ?_⟩
                · first | rfl | (simp; done)
                · simp [intOf]
                  omega
          · have d2 : decide ((x : Int) < 160) = false := decide_eq_false (by omega)
            go_wp2_with fail
            refine ⟨⟨y + 1, m, by omega, ?_, rfl⟩, ?_⟩
            · first | rfl | (simp; done)
            · simp [intOf]
              omega
      · have d1 : decide ((y : Int) < 144) = false := decide_eq_false (by omega)
        go_wp2_with fail
        go_ret
        exact ⟨rfl, HUp.out _⟩
end Go.Proofs.Ytgiilodjkcjgdaa
