import Derived.Test.YtojlappgmckokaaDoorXmB
import Derived.Deep.DeepCutAuto
import Derived.Test.YtojlappgmckokaaDoorCaU
/- Cart: the ROM of any box. -/
namespace Go.Proofs.YtojlappgmckokaaDoor
open Go.Shelf Go.RowKit
set_option linter.unusedVariables false
set_option linter.unusedSimpArgs false
variable {w w' W : World} {g n : Nat} {f : Nat → Int}
/-- a ROM on its way: the box as it came, some bytes -/
structure MkG (W2 : World) (bb g N : Nat) (bx : Array Value) (w : World) : Prop where
  fr : Fr g W2 w
  by' : ∃ f, By w g N f ∧ ∀ k, 0 ≤ f k ∧ f k ≤ 255
  bx : w.heap[bb]? = some (.cells bx 27 (0, 0))
theorem MkG.set {W2 : World} {bb N : Nat} {bx : Array Value} {x : Int} (h : MkG W2 bb g N bx w) (hb : bb ≠ g) (hx : 0 ≤ x ∧ x ≤ 255) (i : Nat) (hi : i < N) : MkG W2 bb g N bx (w.setCell ⟨g, i, none⟩ (.int .u8 x)) := by
  have fr : Fr g w (w.setCell ⟨g, i, none⟩ (.int .u8 x)) := (Fr.refl g w).setCell
  obtain ⟨f, h1, h2⟩ := h.by'
  exact ⟨h.fr.trans fr, ⟨_, h1.set i hi x, putF_byte h2 (fun _ => hx)⟩, (fr.block bb (heap_at h.bx) hb).trans h.bx⟩
theorem MkG.up {W2 : World} {bb N : Nat} {bx : Array Value} (h : MkG W2 bb g N bx w) (u : Up w w') : MkG W2 bb g N bx w' := by
  obtain ⟨f, h1, h2⟩ := h.by'
  exact ⟨h.fr.trans (Fr.ofUp u), ⟨f, h1.up u, h2⟩, (u.block bb (heap_at h.bx)).trans h.bx⟩
theorem MkG.cell {W2 : World} {bb N : Nat} {bx : Array Value} (h : MkG W2 bb g N bx w) (i : Nat) (hi : i < N) : (∃ v, w.cell? ⟨g, i, none⟩ = some v) ∧ w.frozen? ⟨g, i, none⟩ = false := by
  obtain ⟨f, h1, h2⟩ := h.by'
  exact ⟨⟨_, h1.cell i hi⟩, h1.fz i⟩
def RomAns (W : World) (e : Ending) (w' : World) : Prop := ∃ g N f, e = .returned (.slice (some ⟨g, 0, none⟩) N N) ∧ W.heap.size ≤ g ∧ By w' g N f ∧ (∀ k, 0 ≤ f k ∧ f k ≤ 255) ∧ 32468 ≤ N ∧ N ≤ 2097451 ∧ Up W w'
set_option maxRecDepth 100000 in
set_option maxHeartbeats 2000000 in
theorem romG_any {ty rc rm sd mo : Int} {raw : Bool} {pa ba : Option Addr} {pb po pn pc bb' bo bn bc : Nat} {pf bf : Nat → Int} (i1 : I64 ty) (i2 : I64 rc) (i3 : I64 rm) (i4 : I64 sd) (i5 : I64 mo) (hP : Ints W pa pb po pn pc pf) (hB : Ints W ba bb' bo bn bc bf) : Calls Tryd.prog 12 #[.agg #[.int .i64 ty, .int .i64 rc, .int .i64 rm, .int .i64 sd, .int .i64 mo, .slice pa pn pc, .slice ba bn bc, .bool raw]] W (RomAns W) := by
  obtain ⟨c, hc⟩ := Int.eq_ofNat_of_zero_le (pickI_lo rc 7 (by decide))
  have c6 := pickI_hi rc 7 (by decide)
  obtain ⟨pm, hpm⟩ := Int.eq_ofNat_of_zero_le (pickI_lo mo 600 (by decide))
  have m6 := pickI_hi mo 600 (by decide)
  have HP : Hid (∀ w, Calls Tryd.prog 14 #[.int .i64 rc, .int .i64 7] w fun e w' => e = .returned (.int .i64 (c : Int)) ∧ w' = w) := fun w => by rw [← hc]; exact pick_any rc 7 w i2 (by decide) (by decide)
  have HPm : Hid (∀ w, Calls Tryd.prog 14 #[.int .i64 mo, .int .i64 600] w fun e w' => e = .returned (.int .i64 (pm : Int)) ∧ w' = w) := fun w => by rw [← hpm]; exact pick_any mo 600 w i5 (by decide) (by decide)
  have HP26 : Hid (∀ w, Calls Tryd.prog 14 #[.int .i64 sd, .int .i64 26] w fun e w' => e = .returned (.int .i64 (pickI sd 26)) ∧ w' = w) := fun w => pick_any sd 26 w i4 (by decide) (by decide)
  have HPk : Hid (∀ (c : Int) (n : Nat) w, I64 c → 0 < n → n ≤ 2097451 → Calls Tryd.prog 14 #[.int .i64 c, .int .i64 (n : Int)] w fun e w' => e = .returned (.int .i64 (pickI c n)) ∧ w' = w) := fun c n w h1 h2 h3 => pick_any c n w h1 (by omega) (by omega)
  have HPl : Hid (Ints W pa pb po pn pc pf) := hP
  have HBl : Hid (Ints W ba bb' bo bn bc bf) := hB
  have HI4 : Hid (I64 sd) := i4
  obtain ⟨N, n1, n2, eN⟩ : ∃ N : Nat, 32768 ≤ N ∧ N ≤ 2097152 ∧ wrap64 ((32768 : Int) * 2 ^ c) = (N : Int) := by
    have : c = 0 ∨ c = 1 ∨ c = 2 ∨ c = 3 ∨ c = 4 ∨ c = 5 ∨ c = 6 := by omega
    rcases this with rfl | rfl | rfl | rfl | rfl | rfl | rfl
    · exact ⟨32768, by decide +kernel⟩
    · exact ⟨65536, by decide +kernel⟩
    · exact ⟨131072, by decide +kernel⟩
    · exact ⟨262144, by decide +kernel⟩
    · exact ⟨524288, by decide +kernel⟩
    · exact ⟨1048576, by decide +kernel⟩
    · exact ⟨2097152, by decide +kernel⟩
  have p1 := pickI_lo sd 26 (by decide)
  have p2 := pickI_hi sd 26 (by decide)
  have c7 : c ≤ 6 := by omega
  have pm6 : pm < 600 := by omega
  have plc := hP.lc
  have pcm : pc ≤ 9223372036854775807 := by have := hP.cm; unfold maxLen at this; omega
  have blc := hB.lc
  have bcm : bc ≤ 9223372036854775807 := by have := hB.cm; unfold maxLen at this; omega
  clear hc hpm i1 i2 i3 i4 i5 c6 m6 hP hB
  go_enter Tryd.func12, Tryd.ntmps12
  go_wp2_with fail
  refine (HP.out _).mono ?_
  rintro e w' ⟨rfl, hw'⟩
  obtain rfl := hw'.symm
  clear hw'
  have HX1 : Hid ((W.alloc (.cells #[.int .i64 ty, .int .i64 rc, .int .i64 rm, .int .i64 sd, .int .i64 mo, .slice pa pn pc, .slice ba bn bc, .bool raw] 27)).heap[W.heap.size]? = some (.cells #[.int .i64 ty, .int .i64 rc, .int .i64 rm, .int .i64 sd, .int .i64 mo, .slice pa pn pc, .slice ba bn bc, .bool raw] 27 (0, 0))) := heap_alloc_new W _
  have HU1 : Hid (Up W (W.alloc (.cells #[.int .i64 ty, .int .i64 rc, .int .i64 rm, .int .i64 sd, .int .i64 mo, .slice pa pn pc, .slice ba bn bc, .bool raw] 27))) := (Up.refl W).alloc _
  generalize World.alloc W _ = W1 at HX1 HU1 ⊢
  obtain ⟨bx, hbx⟩ : ∃ b, b = W.heap.size := ⟨_, rfl⟩
  have HBX : Hid (bx = W.heap.size) := hbx
  rw [← hbx] at HX1 ⊢
  clear hbx
  have kb4 : W1.cell? ⟨bx, 4, none⟩ = some (.int .i64 mo) := heap_cell HX1.out rfl
  go_upto_if 15 with fail
  go_cut [3] (fun v wx => wx = W1 ∧ ∃ M : Nat, 32468 ≤ M ∧ M ≤ 2097451 ∧ v = .int .i64 (M : Int))
  case first =>
    by_cases hm : mo = 0
    · have z : (mo != 0) = false := by rw [hm]; rfl
      clear hm
      go_wp2_with fail
      go_meet
      exact ⟨rfl, N, by omega, by omega, by rw [eN]⟩
    · have z : (mo != 0) = true := by rw [bne_iff_ne]; exact hm
      clear hm
      rw [eN]
      go_wp2_with fail
      refine (HPm.out _).mono ?_
      rintro e w' ⟨rfl, hw'⟩
      obtain rfl := hw'.symm
      clear hw'
      go_wp2_with fail
      go_meet
      exact ⟨rfl, N + pm - 300, by omega, by omega, by congr 1; omega⟩
  case rest =>
  obtain ⟨hwx, M, m1, m2, rfl⟩ := hcut
  subst hwx
  clear kb4 eN n1 n2 HP HPm
  have hmk : ∀ w : World, (Instr.makeSlice 24 (.int .i64 (M : Int)) (.int .i64 (M : Int))).run Tryd.prog w = .ok (.slice (some ⟨w.heap.size, 0, none⟩) M M) (w.alloc (.cells (madeCells #[.int .u8 0] M) 5)) := fun w => mkB w M (by omega)
  have HBA : Hid (∀ i : Nat, i < M → ∀ w, Calls Tryd.prog 31 #[.int .i64 (i : Int), .int .i64 sd] w fun e w' => e = .returned (.int .u8 (byteF i sd)) ∧ w' = w) := fun i hi w => byteAt_any (by omega) HI4.out
  go_wp2_with fail
  have HM0 : Hid (MkG (wc.alloc (.cells (madeCells #[.int .u8 0] M) 5)) bx wc.heap.size M #[.int .i64 ty, .int .i64 rc, .int .i64 rm, .int .i64 sd, .int .i64 mo, .slice pa pn pc, .slice ba bn bc, .bool raw] (wc.alloc (.cells (madeCells #[.int .u8 0] M) 5))) := ⟨Fr.refl _ _, ⟨_, made_by wc M 5, fun _ => ⟨Int.le_refl 0, by decide⟩⟩, (((Up.refl _).alloc _).block _ (heap_at HX1.out)).trans HX1.out⟩
  have HU2 : Hid (Up W (wc.alloc (.cells (madeCells #[.int .u8 0] M) 5)) ∧ bx < wc.heap.size ∧ W.heap.size ≤ wc.heap.size) := ⟨HU1.out.alloc _, heap_at HX1.out, HU1.out.size⟩
  clear HX1 HU1 hmk
  generalize World.alloc wc _ = W2 at HM0 HU2 ⊢
  generalize wc.heap.size = gg at HM0 HU2 ⊢
  have hne : bx ≠ gg := by have := HU2.out.2.1; omega
  go_loopw [5] (fun I wr => ∃ i : Nat, i ≤ M ∧ I = .int .i64 (i : Int) ∧ Hid (MkG W2 bx gg M #[.int .i64 ty, .int .i64 rc, .int .i64 rm, .int .i64 sd, .int .i64 mo, .slice pa pn pc, .slice ba bn bc, .bool raw] wr)) (fun I _ => M - (intOf I).toNat)
  case atStart => exact ⟨0, Nat.zero_le _, rfl, HM0⟩
  case round =>
    obtain ⟨i, hi, rfl, HM⟩ := hrel
    clear HM0
    by_cases hlt : i < M
    · have e1 : (i : Int) < (M : Int) := by omega
      have kb : wr.cell? ⟨bx, 3, none⟩ = some (.int .i64 sd) := heap_cell HM.out.bx rfl
      obtain ⟨⟨vk, kc⟩, kf⟩ := HM.out.cell i hlt
      go_wp2_with fail
      refine (HBA.out i hlt _).mono ?_
      rintro e w' ⟨rfl, hw'⟩
      obtain rfl := hw'.symm
      clear hw' kb
      have HN : Hid (MkG W2 bx gg M #[.int .i64 ty, .int .i64 rc, .int .i64 rm, .int .i64 sd, .int .i64 mo, .slice pa pn pc, .slice ba bn bc, .bool raw] (wr.setCell ⟨gg, i, none⟩ (.int .u8 (byteF i sd)))) := HM.out.set hne ⟨byteF_lo i sd, byteF_hi i sd⟩ i hlt
      clear HM
      go_wp2_with fail
      go_round
      case rel => exact ⟨i + 1, by omega, by go_num, HN⟩
      case measure => simp [intOf]; omega
    · have e1 : ¬ (i : Int) < (M : Int) := by omega
      obtain rfl : i = M := by omega
      clear hlt hi HBA
      obtain ⟨wq, hwq⟩ : ∃ x, x = wr := ⟨_, rfl⟩
      rw [← hwq] at HM ⊢
      clear hwq
      have e335 : (335 : Int) < (i : Int) := by omega
      have kb7 : wq.cell? ⟨bx, 7, none⟩ = some (.bool raw) := heap_cell HM.out.bx rfl
      go_upto_if 42 with fail
      go_cut [6] (fun v wx => Hid (MkG W2 bx gg i #[.int .i64 ty, .int .i64 rc, .int .i64 rm, .int .i64 sd, .int .i64 mo, .slice pa pn pc, .slice ba bn bc, .bool raw] wx))
      case first =>
        cases raw with
        | true =>
          go_wp2_with fail
          go_meet
          exact HM
        | false =>
          clear kb7
          go_wp2_with fail
          go_loopw [6] (fun I wr => ∃ j : Nat, j ≤ 48 ∧ I = .int .i64 (j : Int) ∧ Hid (MkG W2 bx gg i #[.int .i64 ty, .int .i64 rc, .int .i64 rm, .int .i64 sd, .int .i64 mo, .slice pa pn pc, .slice ba bn bc, .bool false] wr)) (fun I _ => 48 - (intOf I).toNat)
          case atStart => exact ⟨0, Nat.zero_le _, rfl, HM⟩
          case round =>
            obtain ⟨j, hj, rfl, HMj⟩ := hrel
            clear HM
            by_cases hlt : j < 48
            · have e2 : (j : Int) < 48 := by omega
              obtain ⟨⟨vk, kc⟩, kf⟩ := HMj.out.cell (260 + j) (by omega)
              have e3 : (260 : Int) + (j : Int) < (i : Int) := by omega
              have HN : Hid (MkG W2 bx gg i #[.int .i64 ty, .int .i64 rc, .int .i64 rm, .int .i64 sd, .int .i64 mo, .slice pa pn pc, .slice ba bn bc, .bool false] (wr.setCell ⟨gg, 260 + j, none⟩ (.int .u8 (wrap64 (wrap64 (wrap64 (7 * (j : Int) * (j : Int)) + 13 * (j : Int)) + 206) % 256)))) := HMj.out.set hne (mod_byte _) (260 + j) (by omega)
              clear HMj
              go_wp2_with fail
              go_round
              case rel => exact ⟨j + 1, by omega, by go_num, HN⟩
              case measure => simp [intOf]; omega
            · have e2 : ¬ (j : Int) < 48 := by omega
              go_wp2_with fail
              go_loopw [7] (fun I wr => ∃ j : Nat, j ≤ 15 ∧ I = .int .i64 ((308 + j : Nat) : Int) ∧ Hid (MkG W2 bx gg i #[.int .i64 ty, .int .i64 rc, .int .i64 rm, .int .i64 sd, .int .i64 mo, .slice pa pn pc, .slice ba bn bc, .bool false] wr)) (fun I _ => 323 - (intOf I).toNat)
              case atStart => exact ⟨0, Nat.zero_le _, rfl, HMj⟩
              case round =>
                obtain ⟨l, hl, rfl, HL⟩ := hrel
                clear HMj
                by_cases hlt : l < 15
                · have e3 : ((308 + l : Nat) : Int) < 323 := by omega
                  have e4 : ((308 + l : Nat) : Int) < (i : Int) := by omega
                  obtain ⟨⟨vk, kc⟩, kf⟩ := HL.out.cell (308 + l) (by omega)
                  have HN : Hid (MkG W2 bx gg i #[.int .i64 ty, .int .i64 rc, .int .i64 rm, .int .i64 sd, .int .i64 mo, .slice pa pn pc, .slice ba bn bc, .bool false] (wr.setCell ⟨gg, 308 + l, none⟩ (.int .u8 0))) := HL.out.set hne (by decide) (308 + l) (by omega)
                  clear HL
                  go_wp2_with fail
                  go_round
                  case rel => exact ⟨l + 1, by omega, by go_num, HN⟩
                  case measure => simp [intOf]; omega
                · have e3 : ¬ ((308 + l : Nat) : Int) < 323 := by omega
                  obtain rfl : l = 15 := by omega
                  have kb3 : wr.cell? ⟨bx, 3, none⟩ = some (.int .i64 sd) := heap_cell HL.out.bx rfl
                  have HL1 : Hid (MkG W2 bx gg i #[.int .i64 ty, .int .i64 rc, .int .i64 rm, .int .i64 sd, .int .i64 mo, .slice pa pn pc, .slice ba bn bc, .bool false] ((((((wr.setCell ⟨gg, 308, none⟩ (.int .u8 (65 + pickI sd 26))).setCell ⟨gg, 309, none⟩ (.int .u8 98)).setCell ⟨gg, 323, none⟩ (.int .u8 0)).setCell ⟨gg, 327, none⟩ (.int .u8 (ty % 256))).setCell ⟨gg, 328, none⟩ (.int .u8 (rc % 256))).setCell ⟨gg, 329, none⟩ (.int .u8 (rm % 256)))) :=
                    (((((HL.out.set hne (x := 65 + pickI sd 26) (by omega) 308 (by omega)).set hne (x := 98) (by decide) 309 (by omega)).set hne (x := 0) (by decide) 323 (by omega)).set hne (x := ty % 256) (mod_byte _) 327 (by omega)).set hne (x := rc % 256) (mod_byte _) 328 (by omega)).set hne (x := rm % 256) (mod_byte _) 329 (by omega)
                  have kf : ∀ k, k < i → wr.frozen? ⟨gg, k, none⟩ = false := fun k hk => (HL.out.cell k hk).2
                  have kf0 := kf 308 (by omega)
                  have kf1 := kf 309 (by omega)
                  have kf2 := kf 323 (by omega)
                  have kf3 := kf 327 (by omega)
                  have kf4 := kf 328 (by omega)
                  have kf5 := kf 329 (by omega)
                  obtain ⟨d0, k0⟩ := (HL.out.cell 308 (by omega)).1
                  obtain ⟨d1, k1⟩ := (HL.out.cell 309 (by omega)).1
                  obtain ⟨d2, k2⟩ := (HL.out.cell 323 (by omega)).1
                  obtain ⟨d3, k3⟩ := (HL.out.cell 327 (by omega)).1
                  obtain ⟨d4, k4⟩ := (HL.out.cell 328 (by omega)).1
                  obtain ⟨d5, k5⟩ := (HL.out.cell 329 (by omega)).1
                  have kb0 : wr.cell? ⟨bx, 0, none⟩ = some (.int .i64 ty) := heap_cell HL.out.bx rfl
                  have kb1 : wr.cell? ⟨bx, 1, none⟩ = some (.int .i64 rc) := heap_cell HL.out.bx rfl
                  have kb2 : wr.cell? ⟨bx, 2, none⟩ = some (.int .i64 rm) := heap_cell HL.out.bx rfl
                  clear HL kf
                  go_wp2_with fail
                  refine (HP26.out _).mono ?_
                  rintro e w' ⟨rfl, hw'⟩
                  obtain rfl := hw'.symm
                  clear hw'
                  go_wp2_with fail
                  go_meet
                  exact HL1
      case rest =>
      have HMc : Hid (MkG W2 bx gg i #[.int .i64 ty, .int .i64 rc, .int .i64 rm, .int .i64 sd, .int .i64 mo, .slice pa pn pc, .slice ba bn bc, .bool raw] wc) := hcut
      clear hcut HM kb7 HP26 p1 p2
      go_wp2_with fail
      go_loopw [8] (fun I wr => ∃ k : Nat, (k ≤ pn ∧ k ≤ bn) ∧ I = .int .i64 (k : Int) ∧ Hid (MkG W2 bx gg i #[.int .i64 ty, .int .i64 rc, .int .i64 rm, .int .i64 sd, .int .i64 mo, .slice pa pn pc, .slice ba bn bc, .bool raw] wr)) (fun I _ => pn - (intOf I).toNat)
      case atStart => exact ⟨0, ⟨Nat.zero_le _, Nat.zero_le _⟩, rfl, HMc⟩
      case round =>
        obtain ⟨k, ⟨hk1, hk2⟩, rfl, HMk⟩ := hrel
        clear HMc
        have kb5 : wr.cell? ⟨bx, 5, none⟩ = some (.slice pa pn pc) := heap_cell HMk.out.bx rfl
        have kb6 : wr.cell? ⟨bx, 6, none⟩ = some (.slice ba bn bc) := heap_cell HMk.out.bx rfl
        by_cases hlt : k < pn ∧ k < bn
        · have e1 : (k : Int) < (pn : Int) := by omega
          have e2 : (k : Int) < (bn : Int) := by omega
          obtain rfl : pa = some ⟨pb, po, none⟩ := HPl.out.ad (by omega)
          obtain rfl : ba = some ⟨bb', bo, none⟩ := HBl.out.ad (by omega)
          go_wp2_with fail
          clear kb5 kb6
          have HSw : Hid (∀ w, MkG W2 bx gg i #[.int .i64 ty, .int .i64 rc, .int .i64 rm, .int .i64 sd, .int .i64 mo, .slice (some ⟨pb, po, none⟩) pn pc, .slice (some ⟨bb', bo, none⟩) bn bc, .bool raw] w → w.cell? ⟨bx, 5, none⟩ = some (.slice (some ⟨pb, po, none⟩) pn pc) ∧ w.cell? ⟨bx, 6, none⟩ = some (.slice (some ⟨bb', bo, none⟩) bn bc) ∧ w.cell? ⟨pb, po + k, none⟩ = some (.int .i64 (pf k)) ∧ w.cell? ⟨bb', bo + k, none⟩ = some (.int .i64 (bf k))) := fun w h => by
            have hW : ∀ b o v, W.cell? ⟨b, o, none⟩ = some v → w.cell? ⟨b, o, none⟩ = some v := fun b o v hv => by
              have hb := World.block_lt_of_cell? _ _ hv
              have hb : b < W.heap.size := hb
              rw [h.fr.cell (Nat.lt_of_lt_of_le hb HU2.out.1.size) (by have := HU2.out.2.2; omega), HU2.out.1.cell hb]
              exact hv
            exact ⟨heap_cell h.bx rfl, heap_cell h.bx rfl, hW _ _ _ (HPl.out.cell k hlt.1), hW _ _ _ (HBl.out.cell k hlt.2)⟩
          obtain ⟨pk, hpk, lpk⟩ : ∃ p : Nat, pickI (pf k) (i : Int) = (p : Int) ∧ p < i := by
            obtain ⟨p, hp⟩ := Int.eq_ofNat_of_zero_le (pickI_lo (pf k) (i : Int) (by omega))
            exact ⟨p, hp, by have := pickI_hi (pf k) (i : Int) (by omega); omega⟩
          have HKp : Hid (∀ w, Calls Tryd.prog 14 #[.int .i64 (pf k), .int .i64 (i : Int)] w fun e w' => e = .returned (.int .i64 (pk : Int)) ∧ w' = w) := fun w => by rw [← hpk]; exact HPk.out (pf k) i w (HPl.out.i64 k) (by omega) (by omega)
          have epk : (pk : Int) < (i : Int) := by omega
          have ewu : IntKind.u8.wrap (bf k) = bf k % 256 := by first | rfl | exact IntKind.wrap_u8 _
          clear hpk
          refine wp_region_held_drew (S := fun w => w.cell? ⟨bx, 5, none⟩ = some (.slice (some ⟨pb, po, none⟩) pn pc) ∧ w.cell? ⟨bx, 6, none⟩ = some (.slice (some ⟨bb', bo, none⟩) bn bc) ∧ w.cell? ⟨pb, po + k, none⟩ = some (.int .i64 (pf k)) ∧ w.cell? ⟨bb', bo + k, none⟩ = some (.int .i64 (bf k))) (by kernel_rfl) ?_ (fun hHeld => ?_)
          · exact HSw.out _ (HMk.out.up (Up.refl _).drew)
          have HMd : Hid (MkG W2 bx gg i #[.int .i64 ty, .int .i64 rc, .int .i64 rm, .int .i64 sd, .int .i64 mo, .slice (some ⟨pb, po, none⟩) pn pc, .slice (some ⟨bb', bo, none⟩) bn bc, .bool raw] wr.drew) := HMk.out.up (Up.refl _).drew
          generalize World.drew wr = wd at HMd hHeld ⊢
          refine wpAnyH_take (i := 0) (v := ?_) (by simp only [List.getElem?_toArray, List.getElem?_cons_zero]; rfl) (by kernel_rfl) (by kernel_rfl) (by kernel_rfl) (by intro _ _ _ h; exact h) (Or.inl ⟨by rfl, ?_⟩) (by assumption) ?_
          rotate_left
          · (intro w hSw; (try dsimp only at hSw); go_simp <;> with_reducible rfl)
          try simp only [Act.put, List.setIfInBounds_toArray, List.set_cons_zero, List.set_cons_succ]
          refine wpAnyH_take (i := 1) (v := ?_) (by simp only [List.getElem?_toArray, List.getElem?_cons_succ, List.getElem?_cons_zero]; rfl) (by kernel_rfl) (by kernel_rfl) (by kernel_rfl) (by intro _ _ _ h; exact h) (Or.inl ⟨by rfl, ?_⟩) (by assumption) ?_
          rotate_left
          · (intro w hSw; (try dsimp only at hSw); go_simp <;> with_reducible rfl)
          try simp only [Act.put, List.setIfInBounds_toArray, List.set_cons_zero, List.set_cons_succ]
          refine wpAnyH_take (i := 2) (v := ?_) (by simp only [List.getElem?_toArray, List.getElem?_cons_succ, List.getElem?_cons_zero]; rfl) (by kernel_rfl) (by kernel_rfl) (by kernel_rfl) (by intro _ _ _ h; exact h) (Or.inl ⟨by rfl, ?_⟩) (by assumption) ?_
          rotate_left
          · (intro w hSw; (try dsimp only at hSw); go_simp <;> with_reducible rfl)
          try simp only [Act.put, List.setIfInBounds_toArray, List.set_cons_zero, List.set_cons_succ]
          refine wpAnyH_take (i := 3) (v := ?_) (by simp only [List.getElem?_toArray, List.getElem?_cons_succ, List.getElem?_cons_zero]; rfl) (by kernel_rfl) (by kernel_rfl) (by kernel_rfl) (by intro _ _ _ h; exact h) (Or.inl ⟨by rfl, ?_⟩) (by assumption) ?_
          rotate_left
          · (intro w hSw; (try dsimp only at hSw); go_simp <;> with_reducible rfl)
          try simp only [Act.put, List.setIfInBounds_toArray, List.set_cons_zero, List.set_cons_succ]
          refine wpAnyH_take (i := 4) (v := ?_) (by simp only [List.getElem?_toArray, List.getElem?_cons_succ, List.getElem?_cons_zero]; rfl) (by kernel_rfl) (by kernel_rfl) (by kernel_rfl) (by intro _ _ _ h; exact h) (Or.inl ⟨by rfl, ?_⟩) (by assumption) ?_
          rotate_left
          · (intro w hSw; (try dsimp only at hSw); go_simp <;> with_reducible rfl)
          try simp only [Act.put, List.setIfInBounds_toArray, List.set_cons_zero, List.set_cons_succ]
          refine wpAnyH_take (i := 5) (v := ?_) (by simp only [List.getElem?_toArray, List.getElem?_cons_succ, List.getElem?_cons_zero]; rfl) (by kernel_rfl) (by kernel_rfl) (by kernel_rfl) (by intro _ _ _ h; exact h) (Or.inl ⟨by rfl, ?_⟩) (by assumption) ?_
          rotate_left
          · (intro w hSw; (try dsimp only at hSw); go_simp <;> with_reducible rfl)
          try simp only [Act.put, List.setIfInBounds_toArray, List.set_cons_zero, List.set_cons_succ]
          refine wpAnyH_take (i := 6) (v := ?_) (by simp only [List.getElem?_toArray, List.getElem?_cons_succ, List.getElem?_cons_zero]; rfl) (by kernel_rfl) (by kernel_rfl) (by kernel_rfl) (by intro _ _ _ h; exact h) (Or.inl ⟨by rfl, ?_⟩) (by assumption) ?_
          rotate_left
          · (intro w hSw; (try dsimp only at hSw); go_simp <;> with_reducible rfl)
          try simp only [Act.put, List.setIfInBounds_toArray, List.set_cons_zero, List.set_cons_succ]
          refine wpAnyH_take (i := 8) (v := ?_) (by simp only [List.getElem?_toArray, List.getElem?_cons_succ, List.getElem?_cons_zero]; rfl) (by kernel_rfl) (by kernel_rfl) (by kernel_rfl) (by intro _ _ _ h; exact h) (Or.inl ⟨by rfl, ?_⟩) (by assumption) ?_
          rotate_left
          · (intro w hSw; (try dsimp only at hSw); go_simp <;> with_reducible rfl)
          try simp only [Act.put, List.setIfInBounds_toArray, List.set_cons_zero, List.set_cons_succ]
          refine wpAnyH_take (i := 9) (v := ?_) (by simp only [List.getElem?_toArray, List.getElem?_cons_succ, List.getElem?_cons_zero]; rfl) (by kernel_rfl) (by kernel_rfl) (by kernel_rfl) (by intro _ _ _ h; exact h) (Or.inl ⟨by rfl, ?_⟩) (by assumption) ?_
          rotate_left
          · (intro w hSw; (try dsimp only at hSw); go_simp <;> with_reducible rfl)
          try simp only [Act.put, List.setIfInBounds_toArray, List.set_cons_zero, List.set_cons_succ]
          refine wpAnyH_take (i := 10) (v := ?_) (by simp only [List.getElem?_toArray, List.getElem?_cons_succ, List.getElem?_cons_zero]; rfl) (by kernel_rfl) (by kernel_rfl) (by kernel_rfl) (by intro _ _ _ h; exact h) (Or.inl ⟨by rfl, ?_⟩) (by assumption) ?_
          rotate_left
          · (intro w hSw; (try dsimp only at hSw); go_simp <;> with_reducible rfl)
          try simp only [Act.put, List.setIfInBounds_toArray, List.set_cons_zero, List.set_cons_succ]
          refine wpAnyH_take (i := 11) (v := ?_) (by simp only [List.getElem?_toArray, List.getElem?_cons_succ, List.getElem?_cons_zero]; rfl) (by kernel_rfl) (by kernel_rfl) (by kernel_rfl) (by intro _ _ _ h; exact h) (Or.inl ⟨by rfl, ?_⟩) (by assumption) ?_
          rotate_left
          · (intro w hSw; (try dsimp only at hSw); go_simp <;> with_reducible rfl)
          try simp only [Act.put, List.setIfInBounds_toArray, List.set_cons_zero, List.set_cons_succ]
          refine wpAnyH_take (i := 12) (v := ?_) (by simp only [List.getElem?_toArray, List.getElem?_cons_succ, List.getElem?_cons_zero]; rfl) (by kernel_rfl) (by kernel_rfl) (by kernel_rfl) (by intro _ _ _ h; exact h) (Or.inl ⟨by rfl, ?_⟩) (by assumption) ?_
          rotate_left
          · (intro w hSw; (try dsimp only at hSw); go_simp <;> with_reducible rfl)
          try simp only [Act.put, List.setIfInBounds_toArray, List.set_cons_zero, List.set_cons_succ]
          refine wpAnyH_take (i := 13) (v := ?_) (by simp only [List.getElem?_toArray, List.getElem?_cons_succ, List.getElem?_cons_zero]; rfl) (by kernel_rfl) (by kernel_rfl) (by kernel_rfl) (by intro _ _ _ h; exact h) (Or.inl ⟨by rfl, ?_⟩) (by assumption) ?_
          rotate_left
          · (intro w hSw; (try dsimp only at hSw); go_simp <;> with_reducible rfl)
          try simp only [Act.put, List.setIfInBounds_toArray, List.set_cons_zero, List.set_cons_succ]
          refine wpAnyH_ready (rs := [7]) (by kernel_rfl) (by simp) ?_
          refine AllReadyH.cons (by simp only [List.getElem?_toArray, List.getElem?_cons_succ, List.getElem?_cons_zero]; rfl) (fun KK hK => ?_) AllReadyH.nil
          go_simp
          refine (HKp.out wd).mono ?_
          rintro e w' ⟨rfl, hw'⟩
          obtain rfl := hw'.symm
          clear hw'
          refine hK.out _ _ (HSw.out _ HMd.out) (fun hHeld => ?_)
          clear hK KK
          try simp only [Act.put, List.setIfInBounds_toArray, List.set_cons_zero, List.set_cons_succ]
          refine wpAnyH_take (i := 14) (v := ?_) (by simp only [List.getElem?_toArray, List.getElem?_cons_succ, List.getElem?_cons_zero]; rfl) (by kernel_rfl) (by kernel_rfl) (by kernel_rfl) (by intro _ _ _ h; exact h) (Or.inl ⟨by rfl, ?_⟩) (by assumption) ?_
          rotate_left
          · (intro w hSw; (try dsimp only at hSw); go_simp <;> with_reducible rfl)
          try simp only [Act.put, List.setIfInBounds_toArray, List.set_cons_zero, List.set_cons_succ]
          obtain ⟨⟨vk, kc⟩, kf⟩ := HMd.out.cell pk lpk
          refine wpAnyH_ready (rs := [15]) (by kernel_rfl) (by simp) ?_
          refine AllReadyH.cons (by simp only [List.getElem?_toArray, List.getElem?_cons_succ, List.getElem?_cons_zero]; rfl) (fun KK hK => ?_) AllReadyH.nil
          go_simp
          have HMe : Hid (MkG W2 bx gg i #[.int .i64 ty, .int .i64 rc, .int .i64 rm, .int .i64 sd, .int .i64 mo, .slice (some ⟨pb, po, none⟩) pn pc, .slice (some ⟨bb', bo, none⟩) bn bc, .bool raw] (wd.setCell ⟨gg, pk, none⟩ (.int .u8 (bf k % 256)))) := HMd.out.set hne (mod_byte _) pk lpk
          generalize World.setCell wd _ _ = we at HMe ⊢
          refine hK.out _ _ (HSw.out _ HMe.out) (fun hHeld => ?_)
          clear hK KK kc kf
          try simp only [Act.put, List.setIfInBounds_toArray, List.set_cons_zero, List.set_cons_succ]
          refine wpAnyH_done (by kernel_rfl) ?_ _
          clear hHeld HSw HMd HMk
          go_wp2_with fail
          go_round
          case rel => exact ⟨k + 1, ⟨by omega, by omega⟩, by go_num, HMe⟩
          case measure => simp [intOf]; omega
        · have kb7 : wr.cell? ⟨bx, 7, none⟩ = some (.bool raw) := heap_cell HMk.out.bx rfl
          have HFin : Hid (∀ w, MkG W2 bx gg i #[.int .i64 ty, .int .i64 rc, .int .i64 rm, .int .i64 sd, .int .i64 mo, .slice pa pn pc, .slice ba bn bc, .bool raw] w → ∃ f, W.heap.size ≤ gg ∧ By w gg i f ∧ (∀ k, 0 ≤ f k ∧ f k ≤ 255) ∧ 32468 ≤ i ∧ i ≤ 2097451 ∧ Up W w) := fun w h => by
            obtain ⟨f, h1, h2⟩ := h.by'
            exact ⟨f, HU2.out.2.2, h1, h2, m1, m2, Fr.up HU2.out.1 HU2.out.2.2 h.fr⟩
          have hz : ¬ (k : Int) < (pn : Int) ∨ ((k : Int) < (pn : Int) ∧ ¬ (k : Int) < (bn : Int)) := by
            by_cases h1 : k < pn
            · exact Or.inr ⟨by omega, by omega⟩
            · exact Or.inl (by omega)
          rcases hz with hz | hz
          · have z1 := hz
            clear hlt
            cases raw with
            | true =>
              go_wp2_with fail
              go_ret
              obtain ⟨f, hf⟩ := HFin.out _ HMk.out
              exact ⟨gg, i, f, by first | rfl | (simp; done), hf⟩
            | false =>
              obtain ⟨f9, hb9, h89⟩ := HMk.out.by'
              have HS : Hid _ := lawSum_any (c := i) hb9 (by omega) (Nat.le_refl _) (by omega) h89
              have HE : Hid (MkG W2 bx gg i #[.int .i64 ty, .int .i64 rc, .int .i64 rm, .int .i64 sd, .int .i64 mo, .slice pa pn pc, .slice ba bn bc, .bool false] (wr.setCell ⟨gg, 333, none⟩ (.int .u8 ((231 - sig f9 25) % 256)))) := HMk.out.set hne (mod_byte _) 333 (by omega)
              obtain ⟨⟨vk, kc⟩, kf⟩ := HMk.out.cell 333 (by omega)
              have e333 : (333 : Int) < (i : Int) := by omega
              clear hb9 h89
              go_wp2_with fail
              refine Calls.mono HS.out ?_
              rintro e w' ⟨rfl, hw'⟩
              obtain rfl := hw'.symm
              clear hw' HS
              generalize (231 - sig f9 25) % 256 = SM at *
              go_wp2_with fail
              go_ret
              obtain ⟨f, hf⟩ := HFin.out _ HE.out
              exact ⟨gg, i, f, by first | rfl | (simp; done), hf⟩
          · obtain ⟨z0, z1⟩ := hz
            clear hlt
            cases raw with
            | true =>
              go_wp2_with fail
              go_ret
              obtain ⟨f, hf⟩ := HFin.out _ HMk.out
              exact ⟨gg, i, f, by first | rfl | (simp; done), hf⟩
            | false =>
              obtain ⟨f9, hb9, h89⟩ := HMk.out.by'
              have HS : Hid _ := lawSum_any (c := i) hb9 (by omega) (Nat.le_refl _) (by omega) h89
              have HE : Hid (MkG W2 bx gg i #[.int .i64 ty, .int .i64 rc, .int .i64 rm, .int .i64 sd, .int .i64 mo, .slice pa pn pc, .slice ba bn bc, .bool false] (wr.setCell ⟨gg, 333, none⟩ (.int .u8 ((231 - sig f9 25) % 256)))) := HMk.out.set hne (mod_byte _) 333 (by omega)
              obtain ⟨⟨vk, kc⟩, kf⟩ := HMk.out.cell 333 (by omega)
              have e333 : (333 : Int) < (i : Int) := by omega
              clear hb9 h89
              go_wp2_with fail
              refine Calls.mono HS.out ?_
              rintro e w' ⟨rfl, hw'⟩
              obtain rfl := hw'.symm
              clear hw' HS
              generalize (231 - sig f9 25) % 256 = SM at *
              go_wp2_with fail
              go_ret
              obtain ⟨f, hf⟩ := HFin.out _ HE.out
              exact ⟨gg, i, f, by first | rfl | (simp; done), hf⟩
end Go.Proofs.YtojlappgmckokaaDoor
/- What the cards of boxes and steps share: how a box, boxes and steps come in. -/
namespace Go.Proofs.YtojlappgmckokaaDoor
open Go.ChangeShapes Go.WideShapes Go.ChangeAt Go.RowKit Go.Deep
set_option linter.unusedVariables false
theorem up_same {W W' : World} (h : Up W W') {p : MemPlace} (hp : p.block < W.heap.size) : W.sameAt W' p := by
  cases p with
  | cell b off => exact h.cell hp
  | map b => exact h.block b hp
set_option maxRecDepth 100000 in
/-- Numbers as they come in. -/
theorem ints_of {H : Type} {enc : TypeId × Value → H} {W : World} {n : Nat} {aa : Option Addr} {len cap : Nat} {x : DataW H × List MemPlace}
    (h2 : DataW.trod enc Tryd.prog W 0 (fun _ => true) true n 25 [.slice aa len cap] = some x) :
    ∃ (ab ao : Nat) (f : Nat → Int), Ints W aa ab ao len cap f := by
  have z0 : I64 0 := by unfold I64; decide
  rcases open_ints Tryd.underlying25 Tryd.underlying3 cells3 h2 with ⟨hcs, hx⟩ | ⟨a, len', cap', zs, hcs, _, hl, hm, hz, hx, hcell, hwz⟩
  · simp at hcs
    obtain ⟨rfl, rfl, rfl⟩ := hcs
    exact ⟨0, 0, fun _ => 0, Nat.le_refl _, Nat.zero_le _, fun h => by omega, fun _ => z0, fun k hk => by omega⟩
  · simp at hcs
    obtain ⟨rfl, rfl, rfl⟩ := hcs
    simp only [if_true] at hz
    by_cases h0 : len = 0
    · subst h0
      exact ⟨0, 0, fun _ => 0, hl, hm, fun h => by omega, fun _ => z0, fun k hk => by omega⟩
    · obtain ⟨b, off, spot⟩ := a
      have hspot : spot = none := by simpa [Addr.add] using World.cell?_spot (hcell 0 (by omega))
      subst hspot
      refine ⟨b, off, fun k => zs.getD k 0, hl, hm, fun _ => rfl, fun k => ?_, fun k hk => by have hc := hcell k (by omega); rw [show (⟨b, off, none⟩ : Addr).add k = ⟨b, off + k, none⟩ by unfold Addr.add; split <;> simp_all] at hc; exact hc⟩
      show I64 (zs.getD k 0)
      rw [List.getD_eq_getElem?_getD]
      cases h : zs[k]? with
      | none => exact z0
      | some y => exact i64Of (hwz y (List.mem_of_getElem? h))
theorem addOf {b off k : Nat} : (⟨b, off, none⟩ : Addr).add k = ⟨b, off + k, none⟩ := by unfold Addr.add; split <;> simp_all
theorem cBl : Tryd.prog.cellsOf 4 = 1 := by kernel_rfl
theorem cLi : Tryd.prog.cellsOf 25 = 1 := by kernel_rfl
theorem cBx : Tryd.prog.cellsOf 27 = 8 := by kernel_rfl
/-- a box -/
structure Bx where
  ty : Int
  rc : Int
  rm : Int
  sd : Int
  mo : Int
  pa : Option Addr
  pb : Nat
  po : Nat
  pn : Nat
  pc : Nat
  pf : Nat → Int
  ba : Option Addr
  bb : Nat
  bo : Nat
  bn : Nat
  bc : Nat
  bf : Nat → Int
  raw : Bool
def Bx.cells (b : Bx) : List Value := [.int .i64 b.ty, .int .i64 b.rc, .int .i64 b.rm, .int .i64 b.sd, .int .i64 b.mo, .slice b.pa b.pn b.pc, .slice b.ba b.bn b.bc, .bool b.raw]
structure BxAt (W : World) (b : Bx) : Prop where
  i1 : I64 b.ty
  i2 : I64 b.rc
  i3 : I64 b.rm
  i4 : I64 b.sd
  i5 : I64 b.mo
  hP : Ints W b.pa b.pb b.po b.pn b.pc b.pf
  hB : Ints W b.ba b.bb b.bo b.bn b.bc b.bf
theorem list8 {α : Type} : ∀ (l : List α), l.length = 8 → ∃ a b c d e f g h, l = [a, b, c, d, e, f, g, h]
  | [a, b, c, d, e, f, g, h], _ => ⟨a, b, c, d, e, f, g, h, rfl⟩
set_option maxRecDepth 100000 in
/-- A box as it comes in. -/
theorem box_of {H : Type} {enc : TypeId × Value → H} {W : World} {n : Nat} {cs : List Value} {x : DataW H × List MemPlace} (hs : cs.length = 8)
    (h2 : DataW.trod enc Tryd.prog W 0 (fun _ => true) true n 27 cs = some x) : ∃ b : Bx, cs = b.cells ∧ BxAt W b := by
  obtain ⟨xs, k, hk, hxy, _, hxl, hf⟩ := DataW.trod_struct Tryd.underlying27 h2
  obtain ⟨v0, v1, v2, v3, v4, v5, v6, v7, rfl⟩ := list8 cs hs
  obtain ⟨y0, y1, y2, y3, y4, y5, y6, y7, rfl⟩ := list8 xs hxl
  have g0 := hf 0 _ rfl
  have g1 := hf 1 _ rfl
  have g2 := hf 2 _ rfl
  have g3 := hf 3 _ rfl
  have g4 := hf 4 _ rfl
  have g5 := hf 5 _ rfl
  have g6 := hf 6 _ rfl
  have g7 := hf 7 _ rfl
  clear hf hxl hxy hk h2
  simp [cells3, cLi, cBl] at g0 g1 g2 g3 g4 g5 g6 g7
  obtain ⟨a0, e0, f0, w0⟩ := DataW.trod_int Tryd.underlying3 g0
  obtain ⟨a1, e1, f1, w1⟩ := DataW.trod_int Tryd.underlying3 g1
  obtain ⟨a2, e2, f2, w2⟩ := DataW.trod_int Tryd.underlying3 g2
  obtain ⟨a3, e3, f3, w3⟩ := DataW.trod_int Tryd.underlying3 g3
  obtain ⟨a4, e4, f4, w4⟩ := DataW.trod_int Tryd.underlying3 g4
  obtain ⟨a7, e7, f7⟩ := DataW.trod_bool Tryd.underlying4 g7
  simp at e0 e1 e2 e3 e4 e7
  have sl : ∀ {v : Value} {y : DataW H × List MemPlace}, DataW.trod enc Tryd.prog W 0 (fun _ => true) true k 25 [v] = some y → ∃ aa len cap, v = .slice aa len cap := by
    intro v y t1
    rcases open_slice Tryd.underlying25 t1 with ⟨h, _⟩ | ⟨a', l', c', _, _, _, _, h, _⟩
    · simp at h
      exact ⟨_, _, _, h⟩
    · simp at h
      exact ⟨_, _, _, h⟩
  obtain ⟨pa, pn, pc, rfl⟩ := sl g5
  obtain ⟨ba, bn, bc, rfl⟩ := sl g6
  obtain ⟨pb, po, pf, hP⟩ := ints_of g5
  obtain ⟨bb, bo, bf, hB⟩ := ints_of g6
  subst e0 e1 e2 e3 e4 e7
  exact ⟨⟨a0, a1, a2, a3, a4, pa, pb, po, pn, pc, pf, ba, bb, bo, bn, bc, bf, a7⟩, rfl, i64Of w0, i64Of w1, i64Of w2, i64Of w3, i64Of w4, hP, hB⟩
/-- boxes as they come in -/
structure Boxes (W : World) (oa : Option Addr) (ob oo on oc : Nat) (q : Nat → Bx) : Prop where
  lc : on ≤ oc
  cm : oc ≤ maxLen
  ad : 0 < on → oa = some ⟨ob, oo, none⟩
  box : ∀ k, k < on → BxAt W (q k)
  cell : ∀ k, k < on → W.rangeAt ob (oo + k * 8) (q k).cells
set_option maxRecDepth 100000 in
theorem boxes_of {H : Type} {enc : TypeId × Value → H} {W : World} {n : Nat} {aa : Option Addr} {len cap : Nat} {x : DataW H × List MemPlace}
    (h2 : DataW.trod enc Tryd.prog W 0 (fun _ => true) true n 22 [.slice aa len cap] = some x) :
    ∃ (ob oo : Nat) (q : Nat → Bx), Boxes W aa ob oo len cap q := by
  have dflt : Bx := ⟨0, 0, 0, 0, 0, none, 0, 0, 0, 0, fun _ => 0, none, 0, 0, 0, 0, fun _ => 0, false⟩
  rcases open_slice Tryd.underlying22 h2 with ⟨hcs, hx⟩ | ⟨a, len', cap', m, n', D, Pl, hcs, _, hl, hm, hmm, hx, hxx⟩
  · simp at hcs
    obtain ⟨rfl, rfl, rfl⟩ := hcs
    exact ⟨0, 0, fun _ => dflt, Nat.le_refl _, Nat.zero_le _, fun h => by omega, fun k hk => by omega, fun k hk => by omega⟩
  · simp at hcs
    obtain ⟨rfl, rfl, rfl⟩ := hcs
    simp only [if_true] at hmm
    rw [hmm] at hxx
    have each : ∀ i, i < len → ∃ b : Bx, BxAt W b ∧ ∀ (j : Nat) (v : Value), b.cells[j]? = some v → W.cell? (a.add (i * 8 + j)) = some v := by
      intro i hi
      obtain ⟨cs', h1, h3⟩ := hxx i (by omega)
      rw [cBx] at h1
      obtain ⟨_, hlen, hcell⟩ := World.cells?_some h1
      obtain ⟨b, rfl, hb⟩ := box_of hlen h3
      refine ⟨b, hb, fun j v hj => ?_⟩
      have hj8 : j < 8 := (List.getElem?_eq_some_iff.1 hj).1
      have c := hcell j hj8
      rw [add_add] at c
      rw [c]
      exact hj
    have all : ∀ i, ∃ b : Bx, i < len → BxAt W b ∧ ∀ (j : Nat) (v : Value), b.cells[j]? = some v → W.cell? (a.add (i * 8 + j)) = some v := fun i => by
      by_cases hi : i < len
      · obtain ⟨z, h1⟩ := each i hi
        exact ⟨z, fun _ => h1⟩
      · exact ⟨dflt, fun h => absurd h hi⟩
    obtain ⟨q, hq⟩ : ∃ q : Nat → Bx, ∀ i, i < len → BxAt W (q i) ∧ ∀ (j : Nat) (v : Value), (q i).cells[j]? = some v → W.cell? (a.add (i * 8 + j)) = some v := ⟨fun i => Classical.choose (all i), fun i => Classical.choose_spec (all i)⟩
    by_cases h0 : len = 0
    · subst h0
      exact ⟨0, 0, q, hl, hm, fun h => by omega, fun k hk => by omega, fun k hk => by omega⟩
    · obtain ⟨b, off, spot⟩ := a
      have hspot : spot = none := by simpa [Addr.add] using World.cell?_spot ((hq 0 (by omega)).2 0 _ rfl)
      subst hspot
      refine ⟨b, off, q, hl, hm, fun _ => rfl, fun k hk => (hq k hk).1, fun k hk j v hj => ?_⟩
      have := (hq k hk).2 j v hj
      rw [addOf, ← Nat.add_assoc] at this
      exact this
end Go.Proofs.YtojlappgmckokaaDoor
