import Derived.Test.YtojlappgmckokaaDoorXmH
import Derived.Test.YtojlappgmckokaaDoorXmF
import Derived.Deep.CutBlock
/- Cart: the document's Load. -/
namespace Go.Proofs.YtojlappgmckokaaDoor
open Go.Shelf Go.RowKit
set_option linter.unusedVariables false
set_option linter.unusedSimpArgs false
variable {w w' W : World} {C : Ct} {Y : Yd}
theorem cell_block {b o : Nat} (h : w'.heap[b]? = w.heap[b]?) (s : Unit) : w'.cell? ⟨b, o, none⟩ = w.cell? ⟨b, o, none⟩ := by
  unfold World.cell?
  simp only [h]
def bndL (g : Nat → Nat → Nat) (kd : Nat) : Array Value := #[.int .i64 ((g kd 0 : Nat) : Int), .int .i64 ((g kd 1 : Nat) : Int), .int .i64 ((g kd 2 : Nat) : Int), .int .i64 ((g kd 3 : Nat) : Int), .int .i64 ((g kd 4 : Nat) : Int)]
theorem bndL_at (g : Nat → Nat → Nat) (kd i : Nat) (hi : i < 5) : (bndL g kd)[i]? = some (.int .i64 ((g kd i : Nat) : Int)) := by
  match i, hi with
  | 0, _ => rfl
  | 1, _ => rfl
  | 2, _ => rfl
  | 3, _ => rfl
  | 4, _ => rfl
/-- registers of which the first i are loaded -/
def mpL (m : Mp) (f : Nat → Int) (i : Nat) : Mp := ⟨m.kd, if 0 < i then (f 0).toNat else m.on, if 1 < i then (f 1).toNat else m.low, if 2 < i then (f 2).toNat else m.high, if 3 < i then (f 3).toNat else m.pick, if 4 < i then (f 4).toNat else m.mode⟩
theorem mpL_zero (m : Mp) (f : Nat → Int) : mpL m f 0 = m := rfl
theorem mpL_std {m : Mp} {f : Nat → Int} (h : m.Std) (hr : ∀ k, k < 5 → (loB m.kd k : Int) ≤ f k ∧ f k ≤ (hiB m.kd k : Int)) (i : Nat) : (mpL m f i).Std := by
  have key : ∀ k, k < 5 → loB m.kd k ≤ (f k).toNat ∧ (f k).toNat ≤ hiB m.kd k := fun k hk => by have := hr k hk; omega
  refine ⟨h.kd, ?_, ?_, ?_, ?_, ?_⟩
  · show loB m.kd 0 ≤ (if 0 < i then (f 0).toNat else m.on) ∧ (if 0 < i then (f 0).toNat else m.on) ≤ hiB m.kd 0
    split
    · exact key 0 (by decide)
    · exact h.on
  · show loB m.kd 1 ≤ (if 1 < i then (f 1).toNat else m.low) ∧ (if 1 < i then (f 1).toNat else m.low) ≤ hiB m.kd 1
    split
    · exact key 1 (by decide)
    · exact h.low
  · show loB m.kd 2 ≤ (if 2 < i then (f 2).toNat else m.high) ∧ (if 2 < i then (f 2).toNat else m.high) ≤ hiB m.kd 2
    split
    · exact key 2 (by decide)
    · exact h.high
  · show loB m.kd 3 ≤ (if 3 < i then (f 3).toNat else m.pick) ∧ (if 3 < i then (f 3).toNat else m.pick) ≤ hiB m.kd 3
    split
    · exact key 3 (by decide)
    · exact h.pick
  · show loB m.kd 4 ≤ (if 4 < i then (f 4).toNat else m.mode) ∧ (if 4 < i then (f 4).toNat else m.mode) ≤ hiB m.kd 4
    split
    · exact key 4 (by decide)
    · exact h.mode
theorem mpL_set {f : Nat → Int} (h0 : ∀ k, 0 ≤ f k) (i : Nat) (hi : i < 5) : (rtCells Y { C with m := mpL C.m f i }).setIfInBounds (8 + i) (.int .i64 (f i)) = rtCells Y { C with m := mpL C.m f (i + 1) } := by
  have e : ∀ k, ((f k).toNat : Int) = f k := fun k => Int.toNat_of_nonneg (h0 k)
  match i, hi with
  | 0, _ => rw [← e 0]; rfl
  | 1, _ => rw [← e 1]; rfl
  | 2, _ => rw [← e 2]; rfl
  | 3, _ => rw [← e 3]; rfl
  | 4, _ => rw [← e 4]; rfl
/-- what Load takes -/
def Ct.Takes (C : Ct) (n : Nat) (f : Nat → Int) : Prop := n = 5 + C.rm ∧ (∀ k, k < 5 → (loB C.m.kd k : Int) ≤ f k ∧ f k ≤ (hiB C.m.kd k : Int)) ∧ ∀ k, k < C.rm → f (5 + k) ≤ (C.m.kp : Int)
set_option maxRecDepth 100000 in
set_option maxHeartbeats 1000000 in
theorem loadR_len {n c ab ao : Nat} {aa : Option Addr} {f : Nat → Int} (h : RtAt W Y C) (hL : Byts W aa ab ao n c f) (hn : n ≠ 5 + C.rm) : Calls Tryd.prog 53 #[.pointer (some ⟨Y.yb, 0, none⟩), .slice aa n c] W fun e w' => e = .returned (.int .i64 49) ∧ Up W w' := by
  have c7 : W.cell? ⟨Y.yb, 7, none⟩ = some (.slice (some ⟨Y.rb, 0, none⟩) C.rm Y.rc) := heap_cell h.blk rfl
  have rcl := h.rc.1
  have rcm := h.rc.2
  have hrm := h.rm.1
  have lc := hL.lc
  have cm : c ≤ 9223372036854775807 := by have := hL.cm; unfold maxLen at this; omega
  have z : ((n : Int) != 5 + (C.rm : Int)) = true := by rw [bne_iff_ne]; omega
  clear h hL hn
  go_enter Tryd.func53, Tryd.ntmps53
  go_wp2_with fail
  go_ret
  exact ⟨by first | rfl | (simp; done), Up.refl _⟩
set_option maxRecDepth 100000 in
set_option maxHeartbeats 4000000 in
theorem loadR_any {n c ab ao : Nat} {aa : Option Addr} {f : Nat → Int} (h : RtAt W Y C) (hL : Byts W aa ab ao n c f) (hn : n = 5 + C.rm) (hK : Y.K ab) : Calls Tryd.prog 53 #[.pointer (some ⟨Y.yb, 0, none⟩), .slice aa n c] W fun e w' => (¬ C.Takes n f ∧ e = .returned (.int .i64 49) ∧ Up W w') ∨ (C.Takes n f ∧ e = .returned (.int .i64 0) ∧ RtAt w' Y (C.loaded f) ∧ FK Y.K W w') := by
  have c7 : W.cell? ⟨Y.yb, 7, none⟩ = some (.slice (some ⟨Y.rb, 0, none⟩) C.rm Y.rc) := heap_cell h.blk rfl
  have c2 : W.cell? ⟨Y.yb, 2, none⟩ = some (.int .i64 (C.m.kd : Int)) := by rw [← h.mp]; exact heap_cell h.blk rfl
  have HC2 : Hid (∀ w, Up W w → w.cell? ⟨Y.yb, 2, none⟩ = some (.int .i64 (C.m.kd : Int)) ∧ w.cell? ⟨Y.yb, 7, none⟩ = some (.slice (some ⟨Y.rb, 0, none⟩) C.rm Y.rc)) := fun w u => ⟨by rw [← h.mp]; exact heap_cell (h.up u).blk rfl, heap_cell (h.up u).blk rfl⟩
  have rcl := h.rc.1
  have rcm := h.rc.2
  have hrm := h.rm.1
  have lc := hL.lc
  have cm : c ≤ 9223372036854775807 := by have := hL.cm; unfold maxLen at this; omega
  obtain rfl := hL.ad (by omega)
  have z : ((n : Int) != 5 + (C.rm : Int)) = false := by rw [bne_eq_false_iff_eq]; omega
  have HRt : Hid (RtAt W Y C) := h
  have HLs : Hid (Byts W (some ⟨ab, ao, none⟩) ab ao n c f) := hL
  have HN : Hid (n = 5 + C.rm) := hn
  have HK : Hid (Y.K ab) := hK
  have hkd := h.std.kd
  have hyl := heap_at h.blk
  clear h hL hn hK
  go_enter Tryd.func53, Tryd.ntmps53
  have HUa : Hid (∀ x y, Up W ((W.alloc x).alloc y)) := fun x y => ((Up.refl W).alloc _).alloc _
  go_upto_block 0 with fail
  go_cut [25] (fun _ wx => wx = (W.alloc (.cells (bndL loB C.m.kd) 94)).alloc (.cells (bndL hiB C.m.kd) 94))
  case first =>
    obtain ⟨KD, hKD⟩ : ∃ k, k = C.m.kd := ⟨_, rfl⟩
    rw [← hKD] at hkd c2 ⊢
    have HKD : Hid (C.m.kd = KD) := hKD.symm
    clear hKD HC2
    rcases hkd with rfl | rfl | rfl | rfl | rfl
    all_goals (go_wp2_with fail; go_meet; rw [HKD.out]; rfl)
  case rest =>
  rw [hcut]
  clear hcut
  obtain ⟨lb, hlb⟩ : ∃ b, b = W.heap.size := ⟨_, rfl⟩
  obtain ⟨mb, hmb⟩ : ∃ b, b = W.heap.size + 1 := ⟨_, rfl⟩
  have HW1 : Hid (Up W ((W.alloc (.cells (bndL loB C.m.kd) 94)).alloc (.cells (bndL hiB C.m.kd) 94)) ∧ ((W.alloc (.cells (bndL loB C.m.kd) 94)).alloc (.cells (bndL hiB C.m.kd) 94)).heap[lb]? = some (.cells (bndL loB C.m.kd) 94 (0, 0)) ∧ ((W.alloc (.cells (bndL loB C.m.kd) 94)).alloc (.cells (bndL hiB C.m.kd) 94)).heap[mb]? = some (.cells (bndL hiB C.m.kd) 94 (0, 0))) := by
    refine ⟨HUa.out _ _, by rw [hlb]; exact (heap_two W _ _).trans (heap_alloc_new W _), ?_⟩
    have h := heap_alloc_new (W.alloc (.cells (bndL loB C.m.kd) 94)) (.cells (bndL hiB C.m.kd) 94)
    rw [alloc_size'] at h
    rw [hmb]
    exact h
  rw [← hmb, ← hlb]
  have hlm : lb ≠ mb := by omega
  clear hlb hmb HUa c2 c7
  generalize World.alloc _ _ = w1 at HW1 ⊢
  have HLo : Hid (∀ w, Up w1 w → ∀ i, i < 5 → w.cell? ⟨lb, i, none⟩ = some (.int .i64 ((loB C.m.kd i : Nat) : Int)) ∧ w.cell? ⟨mb, i, none⟩ = some (.int .i64 ((hiB C.m.kd i : Nat) : Int))) := fun w u i hi => ⟨cell_up u (heap_cell HW1.out.2.1 (bndL_at loB _ i hi)), cell_up u (heap_cell HW1.out.2.2 (bndL_at hiB _ i hi))⟩
  have HU1 : Hid (Up W w1) := HW1.out.1
  clear HW1
  go_upto_block 1 with fail
  go_cut [7] (fun _ wx => Hid (Up w1 wx ∧ ∀ k, k < 5 → (loB C.m.kd k : Int) ≤ f k ∧ f k ≤ (hiB C.m.kd k : Int)))
  case first =>
    go_wp2_with fail
    go_loopw [7] (fun I wr => ∃ i : Nat, i ≤ 5 ∧ I = .int .i64 (i : Int) ∧ Hid (Up w1 wr ∧ ∀ k, k < i → (loB C.m.kd k : Int) ≤ f k ∧ f k ≤ (hiB C.m.kd k : Int))) (fun I _ => 5 - (intOf I).toNat)
    case atStart => exact ⟨0, Nat.zero_le _, rfl, Up.refl _, fun k hk => by omega⟩
    case round =>
      obtain ⟨i, hi, rfl, HI⟩ := hrel
      by_cases hlt : i < 5
      · have e1 : (i : Int) < 5 := by omega
        have i5 : (i : Int) < (n : Int) := by have := HN.out; omega
        have ks := cell_up (HU1.out.trans HI.out.1) (HLs.out.cell i (by have := HN.out; omega))
        obtain ⟨kl, km⟩ := HLo.out wr HI.out.1 i hlt
        have f8 := HLs.out.u8 i
        have HTk : Hid (¬ ((loB C.m.kd i : Int) ≤ f i ∧ f i ≤ (hiB C.m.kd i : Int)) → ¬ C.Takes n f) := fun hno ht => hno (ht.2.1 i hlt)
        have HNx : Hid (((loB C.m.kd i : Int) ≤ f i ∧ f i ≤ (hiB C.m.kd i : Int)) → ∀ k, k < i + 1 → (loB C.m.kd k : Int) ≤ f k ∧ f k ≤ (hiB C.m.kd k : Int)) := fun hy k hk => by
          by_cases e : k = i
          · subst e; exact hy
          · exact HI.out.2 k (by omega)
        have HUr : Hid (Up w1 wr) := HI.out.1
        clear HI
        generalize f i = FV at *
        generalize ((loB C.m.kd i : Nat) : Int) = LV at *
        generalize ((hiB C.m.kd i : Nat) : Int) = HV at *
        by_cases h1 : FV < LV
        · have d1 : decide (FV < LV) = true := decide_eq_true h1
          have HT2 : Hid (¬ C.Takes n f) := HTk.out (by omega)
          clear HTk HNx
          go_wp2_with fail
          go_quiet (fail)
          go_wp2_with fail
          go_ret
          exact Or.inl ⟨HT2.out, by first | rfl | (simp; done), HU1.out.trans (HUr.out.trans (Up.drewN _ _))⟩
        have d1 : decide (FV < LV) = false := decide_eq_false h1
        by_cases h2 : HV < FV
        · have d2 : decide (HV < FV) = true := decide_eq_true h2
          have HT2 : Hid (¬ C.Takes n f) := HTk.out (by omega)
          clear HTk HNx
          go_wp2_with fail
          go_quiet (fail)
          go_wp2_with fail
          go_ret
          exact Or.inl ⟨HT2.out, by first | rfl | (simp; done), HU1.out.trans (HUr.out.trans (Up.drewN _ _))⟩
        · have d2 : decide (HV < FV) = false := decide_eq_false h2
          have HN2 : Hid _ := HNx.out (by omega)
          clear HTk HNx
          go_wp2_with fail
          go_quiet (fail)
          have HUn : Hid (Up w1 (wr.drewN nq)) := HUr.out.trans (Up.drewN _ _)
          clear HUr ks kl km
          go_wp2_with fail
          go_round
          case rel => exact ⟨i + 1, by omega, by go_num, HUn.out, HN2.out⟩
          case measure => simp [intOf]; omega
      · have e1 : ¬ (i : Int) < 5 := by omega
        obtain rfl : i = 5 := by omega
        go_wp2_with fail
        go_meet
        exact HI
  case rest =>
  have HRg : Hid (∀ k, k < 5 → (loB C.m.kd k : Int) ≤ f k ∧ f k ≤ (hiB C.m.kd k : Int)) := hcut.out.2
  have HU2 : Hid (Up W wc) := HU1.out.trans hcut.out.1
  clear hcut HU1 HLo
  obtain ⟨w2, hw2⟩ : ∃ x, x = wc := ⟨_, rfl⟩
  rw [← hw2] at HU2 ⊢
  clear hw2
  go_upto_block 3 with fail
  go_cut [8] (fun _ wx => wx = w2 ∧ Hid (∀ k, k < C.rm → f (5 + k) ≤ (C.m.kp : Int)))
  case first =>
    obtain ⟨c2, _⟩ := HC2.out w2 HU2.out
    have hnn : (n : Int) = 5 + (C.rm : Int) := by have := HN.out; omega
    go_wp2_with fail
    go_loopw [8] (fun I wr => wr = w2 ∧ ∃ i : Nat, i ≤ C.rm ∧ I = .int .i64 ((5 + i : Nat) : Int) ∧ Hid (∀ k, k < i → f (5 + k) ≤ (C.m.kp : Int))) (fun I _ => n - (intOf I).toNat)
    case atStart => exact ⟨rfl, 0, Nat.zero_le _, rfl, fun k hk => by omega⟩
    case round =>
      obtain ⟨hwr, i, hi, rfl, HI⟩ := hrel
      subst hwr
      by_cases hlt : i < C.rm
      · have e1 : ((5 + i : Nat) : Int) < (n : Int) := by omega
        have ks := cell_up HU2.out (HLs.out.cell (5 + i) (by omega))
        have f8 := HLs.out.u8 (5 + i)
        have HTk : Hid (¬ f (5 + i) ≤ (C.m.kp : Int) → ¬ C.Takes n f) := fun hno ht => hno (ht.2.2 i hlt)
        have HNx : Hid (f (5 + i) ≤ (C.m.kp : Int) → ∀ k, k < i + 1 → f (5 + k) ≤ (C.m.kp : Int)) := fun hy k hk => by
          by_cases e : k = i
          · subst e; exact hy
          · exact HI.out k (by omega)
        clear HI
        generalize f (5 + i) = FV at *
        by_cases hk2 : C.m.kd = 2
        · have z2 : ((C.m.kd : Int) == 2) = true := by rw [beq_iff_eq, hk2]; rfl
          have kp : C.m.kp = 15 := by unfold Mp.kp; rw [if_pos hk2]
          rw [kp] at HTk HNx
          by_cases h15 : (15 : Int) < FV
          · have HT2 : Hid (¬ C.Takes n f) := HTk.out (by omega)
            clear HTk HNx hk2 kp
            go_wp2_with fail
            go_ret
            exact Or.inl ⟨HT2.out, by first | rfl | (simp; done), HU2.out⟩
          · have HN2 : Hid (∀ k, k < i + 1 → f (5 + k) ≤ ((15 : Nat) : Int)) := HNx.out (by omega)
            have HKp : Hid (C.m.kp = 15) := kp
            clear HTk HNx hk2 kp
            go_wp2_with fail
            go_round
            case rel => exact ⟨by trivial, i + 1, by omega, by go_num, by rw [HKp.out]; exact HN2.out⟩
            case measure => simp [intOf]; omega
        · have z2 : ((C.m.kd : Int) == 2) = false := by rw [beq_eq_false_iff_ne]; omega
          have kp : C.m.kp = 255 := by unfold Mp.kp; rw [if_neg hk2]
          have HN2 : Hid (∀ k, k < i + 1 → f (5 + k) ≤ (C.m.kp : Int)) := HNx.out (by rw [kp]; omega)
          clear HTk HNx hk2 kp
          go_wp2_with fail
          go_round
          case rel => exact ⟨by trivial, i + 1, by omega, by go_num, HN2⟩
          case measure => simp [intOf]; omega
      · have e1 : ¬ ((5 + i : Nat) : Int) < (n : Int) := by omega
        have HI2 : Hid (∀ k, k < C.rm → f (5 + k) ≤ (C.m.kp : Int)) := fun k hk => HI.out k (by omega)
        clear HI
        go_wp2_with fail
        go_meet
        exact ⟨rfl, HI2⟩
  case rest =>
  obtain ⟨hwx, HFt⟩ := hcut
  rw [hwx]
  clear hwx
  have HTk : Hid (C.Takes n f) := ⟨HN.out, HRg.out, HFt.out⟩
  have HSc : Hid (∀ w, FK Y.K w2 w → ∀ k, k < n → w.cell? ⟨ab, ao + k, none⟩ = some (.int .u8 (f k))) := fun w q k hk => by
    have hc := cell_up HU2.out (HLs.out.cell k hk)
    rw [← hc]
    exact cell_block (q.block ab (World.block_lt_of_cell? _ _ hc) HK.out) ()
  have H8 : Hid (∀ k, 0 ≤ f k ∧ f k ≤ 255) := HLs.out.u8
  have HR2 : Hid (RtAt w2 Y { C with m := mpL C.m f 0 }) := HRt.out.up HU2.out
  go_upto_block 5 with fail
  go_cut [9] (fun _ wx => Hid (RtAt wx Y { C with m := mpL C.m f 5 } ∧ FK Y.K w2 wx))
  case first =>
    go_wp2_with fail
    go_loopw [9] (fun I wr => ∃ i : Nat, i ≤ 5 ∧ I = .int .i64 (i : Int) ∧ Hid (RtAt wr Y { C with m := mpL C.m f i } ∧ FK Y.K w2 wr)) (fun I _ => 5 - (intOf I).toNat)
    case atStart => exact ⟨0, Nat.zero_le _, rfl, HR2.out, FK.ofUp (Up.refl _)⟩
    case round =>
      clear HR2
      obtain ⟨i, hi, rfl, HI⟩ := hrel
      by_cases hlt : i < 5
      · have e1 : (i : Int) < 5 := by omega
        have i5 : (i : Int) < (n : Int) := by have := HN.out; omega
        go_wp2_with fail
        refine wp_still2 10 (by kernel_rfl) (by decide +kernel) ?_
        intro w3 hw3
        have u3' : Up wr w3 := by rw [hw3]; exact (Up.refl wr).drew
        have HU3 : Hid (Up wr w3) := u3'
        have ks := cell_up u3' (HSc.out wr HI.out.2 i (by have := HN.out; omega))
        have kr := (HI.out.1.up u3').reg hlt
        have kf : w3.frozen? ⟨Y.yb, 8 + i, none⟩ = false := heap_fz (HI.out.1.up u3').blk
        have f8 := H8.out i
        have HSt : Hid (RtAt (w3.setCell ⟨Y.yb, 8 + i, none⟩ (.int .i64 (f i))) Y { C with m := mpL C.m f (i + 1) } ∧ FK Y.K w2 (w3.setCell ⟨Y.yb, 8 + i, none⟩ (.int .i64 (f i)))) := by
          have h := HI.out.1.regs (k := 8 + i) (v := .int .i64 (f i)) (m := mpL C.m f (i + 1)) u3' (mpL_std HRt.out.std HRg.out (i + 1)) rfl (mpL_set (fun k => (H8.out k).1) i hlt)
          exact ⟨h.1, HI.out.2.trans h.2⟩
        clear HI hw3 u3'
        generalize f i = FV at *
        generalize Mp.rgF (mpL C.m f i) i = OV at kr
        simp only [List.take_succ_cons, List.take_zero, List.drop_succ_cons, List.drop_zero]
        repeat (go_big_quiet_step (fail))
        refine wpQuiet_nil ?_
        go_wp2_with fail
        go_round
        case rel => exact ⟨i + 1, by omega, by go_num, HSt⟩
        case measure => simp [intOf]; omega
      · have e1 : ¬ (i : Int) < 5 := by omega
        obtain rfl : i = 5 := by omega
        go_wp2_with fail
        go_meet
        exact HI
  case rest =>
  have H5 : Hid (RtAt wc Y { C with m := mpL C.m f 5 } ∧ FK Y.K w2 wc) := hcut
  clear hcut HR2
  obtain ⟨w3, hw3⟩ : ∃ x, x = wc := ⟨_, rfl⟩
  rw [← hw3] at H5 ⊢
  clear hw3
  have hnn : (n : Int) = 5 + (C.rm : Int) := by have := HN.out; omega
  go_wp2_with fail
  by_cases hc5 : c = 5
  · have hr0 : C.rm = 0 := by have := HN.out; omega
    have hn5 : n = 5 := by have := HN.out; omega
    subst hc5 hn5
    have HR0 : Hid (C.rm = 0) := hr0
    clear hr0 hnn z
    refine wp_still2 6 (by kernel_rfl) (by decide +kernel) ?_
    intro w4 hw4
    have u4' : Up w3 w4 := by rw [hw4]; exact (Up.refl w3).drew
    have c7 : w4.cell? ⟨Y.yb, 7, none⟩ = some (.slice (some ⟨Y.rb, 0, none⟩) C.rm Y.rc) := heap_cell (H5.out.1.up u4').blk rfl
    have HCp : Hid (∀ ty, (Builtin.copy_ #[24, 24] ty #[.slice (some ⟨Y.rb, 0, none⟩) C.rm Y.rc, .slice (some ⟨ab, ao, none⟩) 0 0]).run Tryd.prog w4 = .ok (goInt C.rm) (w4.setCells Y.rb 0 (byL (fun k => f (5 + k)) C.rm))) := fun ty => copy_run (k := C.rm) (m := 0) (c := C.rm) (h := fun k => f (5 + k)) (H5.out.1.up u4').ram (by show 0 + C.rm ≤ C.rm; omega) (by rw [HR0.out]; rfl) (fun j hj => absurd hj (by rw [HR0.out]; omega)) Y.rc 0 ty
    have HFn : Hid (RtAt (w4.setCells Y.rb 0 (byL (fun k => f (5 + k)) C.rm)) Y (C.loaded f) ∧ FK Y.K W (w4.setCells Y.rb 0 (byL (fun k => f (5 + k)) C.rm))) := by
      have h5 := H5.out.1.up u4'
      have fr : Fr Y.rb w4 (w4.setCells Y.rb 0 (byL (fun k => f (5 + k)) C.rm)) := fr_setCells _ _ _ _
      refine ⟨⟨(fr.block _ (heap_at h5.blk) h5.d2).trans h5.blk, h5.rom.of_block (fr.block _ h5.rom.lt h5.d3), ?_, mpL_std HRt.out.std HRg.out 5, ?_, h5.mp, h5.nb, h5.nc, h5.rc, h5.rm, h5.d1, h5.d2, h5.d3⟩, (FK.ofUp HU2.out).trans (H5.out.2.trans ((FK.ofUp u4').trans (Yd.ofFr fr (Or.inr rfl))))⟩
      · exact (h5.ram.setCells 0 C.rm (fun k => f (5 + k)) (by show 0 + C.rm ≤ C.rm; omega)).congr (fun k hk => by
          have hk : k < C.rm := hk
          show putF C.rf 0 C.rm (fun k => f (5 + k)) k = (if k < C.rm then f (5 + k) else 0)
          rw [if_pos hk, putF_in _ _ (by omega) (by omega), Nat.sub_zero])
      · intro k
        show 0 ≤ (if k < C.rm then f (5 + k) else 0) ∧ (if k < C.rm then f (5 + k) else 0) ≤ (C.m.kp : Int)
        split
        · rename_i hk
          exact ⟨(H8.out _).1, HFt.out k hk⟩
        · exact ⟨Int.le_refl 0, Int.natCast_nonneg _⟩
    clear hw4 u4'
    simp only [List.take_succ_cons, List.take_zero, List.drop_succ_cons, List.drop_zero]
    repeat (go_big_quiet_step (fail))
    refine wpQuiet_nil ?_
    go_wp2_with (refine wpList_copy_runI _ rfl _ _ 24 24 rfl _ _ rfl rfl (HCp.out _) ?_)
    go_ret
    exact Or.inr ⟨HTk.out, by first | rfl | (simp; done), HFn.out⟩
  have hc6 : 5 < c := by have := HN.out; omega
  have e56 : (5 : Int) ≤ (n : Int) := by omega
  have e57 : n - 5 = C.rm := by have := HN.out; omega
  have e58 : (n : Int) - 5 = (C.rm : Int) := by omega
  refine wp_still2 6 (by kernel_rfl) (by decide +kernel) ?_
  intro w4 hw4
  have u4' : Up w3 w4 := by rw [hw4]; exact (Up.refl w3).drew
  have c7 : w4.cell? ⟨Y.yb, 7, none⟩ = some (.slice (some ⟨Y.rb, 0, none⟩) C.rm Y.rc) := heap_cell (H5.out.1.up u4').blk rfl
  have HCp : Hid (∀ ty, (Builtin.copy_ #[24, 24] ty #[.slice (some ⟨Y.rb, 0, none⟩) C.rm Y.rc, .slice (some ⟨ab, ao + 5, none⟩) C.rm (c - 5)]).run Tryd.prog w4 = .ok (goInt C.rm) (w4.setCells Y.rb 0 (byL (fun k => f (5 + k)) C.rm))) := fun ty => copy_run (k := C.rm) (m := C.rm) (c := C.rm) (h := fun k => f (5 + k)) (H5.out.1.up u4').ram (by show 0 + C.rm ≤ C.rm; omega) (Nat.min_self _).symm (fun j hj => by rw [Addr.add_lit, Nat.add_assoc]; exact cell_up u4' (HSc.out w3 H5.out.2 (5 + j) (by have := HN.out; omega))) Y.rc (c - 5) ty
  have HFn : Hid (RtAt (w4.setCells Y.rb 0 (byL (fun k => f (5 + k)) C.rm)) Y (C.loaded f) ∧ FK Y.K W (w4.setCells Y.rb 0 (byL (fun k => f (5 + k)) C.rm))) := by
    have h5 := H5.out.1.up u4'
    have fr : Fr Y.rb w4 (w4.setCells Y.rb 0 (byL (fun k => f (5 + k)) C.rm)) := fr_setCells _ _ _ _
    refine ⟨⟨(fr.block _ (heap_at h5.blk) h5.d2).trans h5.blk, h5.rom.of_block (fr.block _ h5.rom.lt h5.d3), ?_, mpL_std HRt.out.std HRg.out 5, ?_, h5.mp, h5.nb, h5.nc, h5.rc, h5.rm, h5.d1, h5.d2, h5.d3⟩, (FK.ofUp HU2.out).trans (H5.out.2.trans ((FK.ofUp u4').trans (Yd.ofFr fr (Or.inr rfl))))⟩
    · exact (h5.ram.setCells 0 C.rm (fun k => f (5 + k)) (by show 0 + C.rm ≤ C.rm; omega)).congr (fun k hk => by
        have hk : k < C.rm := hk
        show putF C.rf 0 C.rm (fun k => f (5 + k)) k = (if k < C.rm then f (5 + k) else 0)
        rw [if_pos hk, putF_in _ _ (by omega) (by omega), Nat.sub_zero])
    · intro k
      show 0 ≤ (if k < C.rm then f (5 + k) else 0) ∧ (if k < C.rm then f (5 + k) else 0) ≤ (C.m.kp : Int)
      split
      · rename_i hk
        exact ⟨(H8.out _).1, HFt.out k hk⟩
      · exact ⟨Int.le_refl 0, Int.natCast_nonneg _⟩
  clear hw4 u4'
  simp only [List.take_succ_cons, List.take_zero, List.drop_succ_cons, List.drop_zero]
  repeat (go_big_quiet_step (fail))
  refine wpQuiet_nil ?_
  go_wp2_with (refine wpList_copy_runI _ rfl _ _ 24 24 rfl _ _ rfl rfl (HCp.out _) ?_)
  go_ret
  exact Or.inr ⟨HTk.out, by first | rfl | (simp; done), HFn.out⟩
end Go.Proofs.YtojlappgmckokaaDoor
