import Derived.Test.YtojlappgmckokaaDoorXmI
import Derived.Test.YtojlappgmckokaaDoorXmJ
import Derived.Test.YtojlappgmckokaaDoorXmA
import Derived.Test.YtojlappgmckokaaDoorXmD
import Derived.Laws.IdiomCopy
import Derived.Test.YtojlappgmckokaaDoorXmB
/- Cart: the document's New. -/
namespace Go.Proofs.YtojlappgmckokaaDoor
open Go.Shelf Go.RowKit
set_option linter.unusedVariables false
set_option linter.unusedSimpArgs false
variable {w w' W : World} {C : Ct} {Y : Yd} {g n : Nat} {f : Nat → Int}
/-- bytes behind an empty list of one's own -/
theorem app_all {eb c base : Nat} (hB : By w g n f) (hn : 1 ≤ n) (hn2 : n ≤ 4194304) (he : w.heap[eb]? = some (.cells #[] 5 (0, 0))) (hb : base ≤ eb) (hbw : base ≤ w.heap.size) : ∃ g' cap' w', (∀ ty, (Builtin.append_ #[24, 24] ty #[.slice (some ⟨eb, 0, none⟩) 0 0, .slice (some ⟨g, 0, none⟩) n c]).run Tryd.prog w = .ok (.slice (some ⟨g', 0, none⟩) n cap') w') ∧ By w' g' n f ∧ n ≤ cap' ∧ cap' ≤ maxLen ∧ base ≤ g' ∧ (g' = eb ∨ g' = w.heap.size) ∧ (∀ k, k < w.heap.size → k ≠ eb → w'.heap[k]? = w.heap[k]?) ∧ w.heap.size ≤ w'.heap.size ∧ g' < w'.heap.size ∧ w'.os = w.os ∧ w'.output = w.output := by
  have ho : w.ownsRow base 5 1 (.slice (some ⟨eb, 0, none⟩) 0 0) 0 [] := own_of he hb (Nat.le_refl _) (Nat.zero_le _) rfl rfl (fun k hk => by omega)
  obtain ⟨v', w', hr, h2, h3, _, h5⟩ := run_append_own_at (P := Tryd.prog) w base 24 24 5 Tryd.t5 (.int .u8 0) 1 1 Tryd.underlying24 (by kernel_rfl) (by kernel_rfl) (by kernel_rfl) (by kernel_rfl) rfl (by decide) _ 0 [] ho ⟨g, 0, none⟩ n c (byL f n) (by rw [byL_len, Nat.mul_one]) (by_cells hB) (byL_one f n) (by unfold maxLen; omega) (by omega) hbw
  rw [Nat.zero_add, List.nil_append] at h2
  rcases h2.2 with ⟨_, hz⟩ | ⟨g', cap', cur, hv, hbase, hg, hn', hcm, hcs, htk⟩
  · omega
  · subst hv
    refine ⟨g', cap', w', fun ty => ?_, ⟨cur, 5, hg, by omega, fun k hk => ?_⟩, hn', hcm, hbase, ?_, fun k hk hne => h3.block k hk (fun e => hne (by injection e)), h3.size, (Array.getElem?_eq_some_iff.1 hg).1, h3.os, h3.output⟩
    · exact hr
    · rw [own_at htk k (by omega)]
      exact byL_at hk
    · rcases h5 with h5 | h5
      · left; injection h5
      · right; injection h5

/-- a cartridge as New has made it, its registers still 0 -/
structure RtNew (T : ByteArray) (KD MN BK RN : Nat) (BT : Bool) (n : Nat) (f rf : Nat → Int) (yb rg nc rb : Nat) (w : World) : Prop where
  blk : w.heap[yb]? = some (.cells #[.string T, .int .i64 (KD : Int), .int .i64 (MN : Int), .int .i64 (BK : Int), .int .i64 (RN : Int), .bool BT, .slice (some ⟨rg, 0, none⟩) n nc, .slice (some ⟨rb, 0, none⟩) RN RN, .int .i64 0, .int .i64 0, .int .i64 0, .int .i64 0, .int .i64 0] 96 (0, 0))
  rom : By w rg n f
  nc : n ≤ nc ∧ nc ≤ maxLen
  ram : By w rb RN rf
  d : yb ≠ rg ∧ yb ≠ rb ∧ rg ≠ rb
  mp : MN = 0 ∨ MN = 1 ∨ MN = 2 ∨ MN = 3 ∨ MN = 5
  rm : (MN = 2 → RN = 512) ∧ (MN ≠ 2 → RN % 8192 = 0)
  bk : n = BK * 16384 ∧ 1 ≤ BK ∧ BK ≤ 128
  rn : RN ≤ 131072
  ok : ∀ k, 0 ≤ rf k ∧ rf k ≤ ((Mp.new MN).kp : Int)
theorem RtNew.zero {T : ByteArray} {KD MN BK RN : Nat} {BT : Bool} {rf : Nat → Int} {yb rg nc rb : Nat} (h : RtNew T KD MN BK RN BT n f rf yb rg nc rb w) (h0 : MN = 0) : RtAt w ⟨yb, rg, nc, rb, RN⟩ ⟨T, KD, MN, BK, RN, BT, n, f, rf, Mp.new MN⟩ := by
  have hm := h.nc.2
  unfold maxLen at hm
  have hr := h.rn
  refine ⟨?_, h.rom, h.ram, Mp.new_std h.mp, h.ok, rfl, h.bk, ⟨h.nc.1, by omega⟩, ⟨Nat.le_refl _, by show RN ≤ 9223372036854775807; omega⟩, ⟨h.rn, h.rm⟩, h.d.1, h.d.2.1, h.d.2.2⟩
  subst h0
  exact h.blk
theorem RtNew.one {T : ByteArray} {KD MN BK RN : Nat} {BT : Bool} {rf : Nat → Int} {yb rg nc rb : Nat} (h : RtNew T KD MN BK RN BT n f rf yb rg nc rb w) (h0 : ¬ MN = 0) : RtAt (w.setCell ⟨yb, 9, none⟩ (.int .i64 1)) ⟨yb, rg, nc, rb, RN⟩ ⟨T, KD, MN, BK, RN, BT, n, f, rf, Mp.new MN⟩ := by
  have hm := h.nc.2
  unfold maxLen at hm
  have hr := h.rn
  have fr : Fr yb w (w.setCell ⟨yb, 9, none⟩ (.int .i64 1)) := (Fr.refl yb w).setCell
  refine ⟨?_, h.rom.of_block (fr.block _ h.rom.lt h.d.1.symm), h.ram.of_block (fr.block _ h.ram.lt h.d.2.1.symm), Mp.new_std h.mp, h.ok, rfl, h.bk, ⟨h.nc.1, by omega⟩, ⟨Nat.le_refl _, by show RN ≤ 9223372036854775807; omega⟩, ⟨h.rn, h.rm⟩, h.d.1, h.d.2.1, h.d.2.2⟩
  rw [heap_setCell_same w yb 9 _ _ _ h.blk]
  have e : (Mp.new MN).low = 1 := by show (if MN = 0 then 0 else 1) = 1; rw [if_neg h0]
  show _ = some (Obj.cells #[.string T, .int .i64 (KD : Int), .int .i64 (MN : Int), .int .i64 (BK : Int), .int .i64 (RN : Int), .bool BT, .slice (some ⟨rg, 0, none⟩) n nc, .slice (some ⟨rb, 0, none⟩) RN RN, .int .i64 0, .int .i64 ((Mp.new MN).low : Int), .int .i64 0, .int .i64 0, .int .i64 0] _ _)
  rw [e]
  rfl
theorem ramN_mod (R : Rw) (c : Nat) (h : R.mapper ≠ 2) : ramN R c % 8192 = 0 := by
  unfold ramN
  rw [if_neg h]
  match c with
  | 0 => rfl
  | 1 => rfl
  | 2 => rfl
  | 3 => rfl
  | 4 => rfl
  | 5 => rfl
  | c + 6 => rw [List.getD_eq_getElem?_getD, List.getElem?_eq_none (by simp)]; rfl
theorem fault_zero {mk b : Bool} {R : Rw} (h : faultI mk f R b n = 0) : 2 * 2 ^ (f 328).toNat * 16384 = n ∧ (f 328).toNat ≤ 6 ∧ b = true ∧ (R.lo ≤ (f 329).toNat ∧ (f 329).toNat ≤ R.hi) := by
  unfold faultI at h
  split at h
  · cases h
  split at h
  · cases h
  split at h
  · cases h
  split at h
  · cases h
  split at h
  · cases h
  split at h
  · cases h
  rename_i hb ht hl
  have ht : takesB R (f 328).toNat n = true := by simpa using ht
  unfold takesB at ht
  simp at ht
  have h6 := ht.1.1
  exact ⟨ht.2, by omega, by simpa using hb, by omega⟩
/-- what New makes -/
def ctOf (f : Nat → Int) (n m : Nat) (R : Rw) (sn : Nat) (sf : Nat → Int) : Ct := { ctNew f n m R (f 328).toNat (f 329).toNat with rf := fun k => if k < sn then sf k else 0 }
def NewRAns (W : World) (f : Nat → Int) (n sn : Nat) (sf : Nat → Int) (e : Ending) (w' : World) : Prop := ∃ R b mk, RowIs (f 327).toNat R b ∧ MarkIs f mk ∧ Up W w' ∧ ((faultI mk f R b n ≠ 0 ∧ e = .returned (.tuple #[.pointer none, .int .i64 (faultI mk f R b n)])) ∨ (faultI mk f R b n = 0 ∧ 1 ≤ sn ∧ ¬ SaveFits R (ramN R (f 329).toNat) sn sf ∧ e = .returned (.tuple #[.pointer none, .int .i64 48])) ∨ (faultI mk f R b n = 0 ∧ (1 ≤ sn → SaveFits R (ramN R (f 329).toNat) sn sf) ∧ ∃ m Y, TitleIs f m ∧ (∃ C, C = ctOf f n m R sn sf ∧ By w' Y.rg n f ∧ RtAt w' Y C) ∧ (W.heap.size ≤ Y.yb ∧ W.heap.size ≤ Y.rg ∧ W.heap.size ≤ Y.rb) ∧ e = .returned (.tuple #[.pointer (some ⟨Y.yb, 0, none⟩), .int .i64 0])))
set_option maxRecDepth 100000 in
set_option maxHeartbeats 4000000 in
theorem newR_any {c sn sc sb so : Nat} {sa : Option Addr} {sf : Nat → Int} (hS : Byts W sa sb so sn sc sf) (h : By W g n f) (hn : 32768 ≤ n) (hn2 : n ≤ 2097152) (hc : n ≤ c) (hm : c ≤ 9223372036854775807) (h8 : ∀ k, 0 ≤ f k ∧ f k ≤ 255) : Calls Tryd.prog 47 #[.slice (some ⟨g, 0, none⟩) n c, .slice sa sn sc] W (NewRAns W f n sn sf) := by
  have HCk : Hid _ := checkR_any h hn hn2 hc hm h8
  have HB : Hid (By W g n f) := h
  have HS : Hid (Byts W sa sb so sn sc sf) := hS
  have slc := hS.lc
  have scm : sc ≤ 9223372036854775807 := by have := hS.cm; unfold maxLen at this; omega
  clear h h8 hS
  go_enter Tryd.func47, Tryd.ntmps47
  go_wp2_with fail
  refine Calls.mono HCk.out ?_
  rintro e w2 ⟨R, b, mk, hr, hk, u2, hcs⟩
  have HRw : Hid (RowIs (f 327).toNat R b ∧ MarkIs f mk ∧ Up W w2) := ⟨hr, hk, u2⟩
  clear HCk hr hk u2
  rcases hcs with ⟨hx, rfl⟩ | ⟨hx, m, ht, rfl⟩
  · obtain ⟨x, hxx⟩ : ∃ x, faultI mk f R b n = x := ⟨_, rfl⟩
    have hx0 : ¬ x = 0 := by rw [← hxx]; exact hx
    have HXX : Hid (faultI mk f R b n = x) := hxx
    rw [hxx]
    unfold zHead
    clear hx hxx
    go_wp2_with fail
    go_ret2
    exact ⟨R, b, mk, HRw.out.1, HRw.out.2.1, HRw.out.2.2.alloc _, Or.inl ⟨by rw [HXX.out]; exact hx0, by rw [HXX.out]; first | rfl | (simp; done)⟩⟩
  obtain ⟨c8, hc8⟩ : ∃ c8, (f 328).toNat = c8 := ⟨_, rfl⟩
  obtain ⟨c9, hc9⟩ : ∃ c9, (f 329).toNat = c9 := ⟨_, rfl⟩
  have htk : 2 * 2 ^ (f 328).toNat * 16384 = n ∧ (f 328).toNat ≤ 6 ∧ b = true ∧ (R.lo ≤ c9 ∧ c9 ≤ R.hi) := by
    rw [← hc9]
    exact fault_zero hx
  rw [hc8, hc9]
  rw [hc8] at htk
  have HF : Hid (faultI mk f R b n = 0 ∧ TitleIs f m ∧ (f 328).toNat = c8 ∧ (f 329).toNat = c9) := ⟨hx, ht, hc8, hc9⟩
  have hRm : R ∈ rowsT := by
    rcases HRw.out.1 with ⟨_, h, _⟩ | ⟨h, _⟩
    · exact h
    · rw [htk.2.2.1] at h; cases h
  clear hx ht hc8 hc9
  have hmp := rowsT_mp R hRm
  have hrn : ramN R c9 ≤ 131072 := ramN_le R c9
  have HRm : Hid ((R.mapper = 2 → ramN R c9 = 512) ∧ (R.mapper ≠ 2 → ramN R c9 % 8192 = 0)) := ⟨fun h => by unfold ramN; rw [if_pos h], fun h => ramN_mod R c9 h⟩
  have HSv : Hid (SaveFits R (ramN R c9) sn sf ↔ (R.bat = true ∧ sn = ramN R c9 ∧ ∀ k, k < sn → sf k ≤ ((Mp.new R.mapper).kp : Int))) := Iff.rfl
  have HCt : Hid (∀ rf, ({ ctNew f n m R c8 c9 with rf := rf } : Ct) = ⟨strF f 308 m, R.kind, R.mapper, 2 * 2 ^ c8, ramN R c9, R.bat, n, f, rf, Mp.new R.mapper⟩) := fun rf => rfl
  have HBk : Hid (n = (2 * 2 ^ c8) * 16384 ∧ 1 ≤ 2 * 2 ^ c8 ∧ 2 * 2 ^ c8 ≤ 128) := ⟨htk.1.symm, by have := Nat.two_pow_pos c8; omega, by omega⟩
  have hmk : ∀ w : World, (Instr.makeSlice 24 (.int .i64 (ramN R c9 : Int)) (.int .i64 (ramN R c9 : Int))).run Tryd.prog w = .ok (.slice (some ⟨w.heap.size, 0, none⟩) (ramN R c9) (ramN R c9)) (w.alloc (.cells (madeCells #[.int .u8 0] (ramN R c9)) 5)) := fun w => mkB w _ (by omega)
  clear htk hRm
  unfold headC
  dsimp only
  generalize strF f 308 m = T at HCt ⊢
  generalize hKD : R.kind = KD at HCt ⊢
  generalize hMN : R.mapper = MN at HCt hmp HRm HSv ⊢
  generalize 2 * 2 ^ c8 = BK at HCt HBk ⊢
  generalize hRN : ramN R c9 = RN at HCt hrn hmk HRm HSv ⊢
  generalize hBT : R.bat = BT at HCt HSv ⊢
  have HEq : Hid (R.kind = KD ∧ R.mapper = MN ∧ ramN R c9 = RN ∧ R.bat = BT) := ⟨hKD, hMN, hRN, hBT⟩
  clear hKD hMN hRN hBT
  go_upto_if 20 with fail
  have HU3 : Hid (Up W (w2.alloc (Obj.cells #[.string T, .int .i64 (KD : Int), .int .i64 (MN : Int), .int .i64 (BK : Int), .int .i64 (RN : Int), .bool BT] 30))) := HRw.out.2.2.alloc _
  have HB3 : Hid ((w2.alloc (Obj.cells #[.string T, .int .i64 (KD : Int), .int .i64 (MN : Int), .int .i64 (BK : Int), .int .i64 (RN : Int), .bool BT] 30)).heap[w2.heap.size]? = some (.cells #[.string T, .int .i64 (KD : Int), .int .i64 (MN : Int), .int .i64 (BK : Int), .int .i64 (RN : Int), .bool BT] 30 (0, 0))) := heap_alloc_new w2 _
  generalize World.alloc w2 _ = w3 at HU3 HB3 ⊢
  generalize w2.heap.size = hb at HB3 ⊢
  have hh3 := heap_at HB3.out
  have HSw : Hid (∀ w, Up w3 w → w.rangeAt hb 0 [.string T, .int .i64 (KD : Int), .int .i64 (MN : Int), .int .i64 (BK : Int), .int .i64 (RN : Int), .bool BT] ∧ w.cell? ⟨hb, 4, none⟩ = some (.int .i64 (RN : Int)) ∧ w.cell? ⟨hb, 2, none⟩ = some (.int .i64 (MN : Int)) ∧ w.cell? ⟨hb, 5, none⟩ = some (.bool BT)) := fun w u => ⟨range_up u (range_heap HB3.out), cell_up u (heap_cell HB3.out rfl), cell_up u (heap_cell HB3.out rfl), cell_up u (heap_cell HB3.out rfl)⟩
  have HNo : Hid (1 ≤ sn → ¬ (BT = true ∧ sn = RN ∧ ∀ k, k < sn → sf k ≤ ((Mp.new MN).kp : Int)) → ∀ w', Up w3 w' → NewRAns W f n sn sf (.returned (.tuple #[.pointer none, .int .i64 48])) w') := fun h1 h2 w' u => ⟨R, b, mk, HRw.out.1, HRw.out.2.1, HU3.out.trans u, Or.inr (Or.inl ⟨HF.out.1, h1, by rw [HF.out.2.2.2, HEq.out.2.2.1]; exact fun q => h2 (HSv.out.1 q), rfl⟩)⟩
  go_cut [8] (fun _ wx => wx = w3 ∧ Hid (1 ≤ sn → (BT = true ∧ sn = RN ∧ ∀ k, k < sn → sf k ≤ ((Mp.new MN).kp : Int))))
  case first =>
    obtain ⟨_, c4, c2, c5⟩ := HSw.out w3 (Up.refl _)
    by_cases hs0 : sn = 0
    · have e0 : ¬ (0 : Int) < (sn : Int) := by omega
      have HX : Hid (1 ≤ sn → (BT = true ∧ sn = RN ∧ ∀ k, k < sn → sf k ≤ ((Mp.new MN).kp : Int))) := fun h => by omega
      clear hs0
      go_wp2_with fail
      go_meet
      exact ⟨rfl, HX⟩
    have e0 : (0 : Int) < (sn : Int) := by omega
    have hs1 : 1 ≤ sn := by omega
    have HN1 : Hid _ := HNo.out hs1
    clear hs0
    cases BT with
    | false =>
      have HN2 : Hid _ := HN1.out (fun q => by cases q.1)
      go_wp2_with fail
      go_ret2
      exact HN2.out _ (Up.refl _)
    | true =>
      by_cases hsr : ¬ sn = RN
      · have zr : ((sn : Int) != (RN : Int)) = true := by rw [bne_iff_ne]; omega
        have HN2 : Hid _ := HN1.out (fun q => hsr q.2.1)
        clear hsr
        go_wp2_with fail
        go_ret2
        exact HN2.out _ (Up.refl _)
      have hsr : sn = RN := Decidable.not_not.1 hsr
      have zr : ((sn : Int) != (RN : Int)) = false := by rw [bne_eq_false_iff_eq]; omega
      have HSR : Hid (sn = RN) := hsr
      clear hsr
      obtain rfl := HS.out.ad (by omega)
      go_wp2_with fail
      go_loopw [8] (fun I wr => wr = w3 ∧ ∃ i : Nat, i ≤ sn ∧ I = .int .i64 (i : Int) ∧ Hid (∀ k, k < i → sf k ≤ ((Mp.new MN).kp : Int))) (fun I _ => sn - (intOf I).toNat)
      case atStart => exact ⟨rfl, 0, Nat.zero_le _, rfl, fun k hk => by omega⟩
      case round =>
        obtain ⟨hwr, i, hi, rfl, HI⟩ := hrel
        subst hwr
        by_cases hlt : i < sn
        · have e1 : (i : Int) < (sn : Int) := by omega
          have ks := cell_up HU3.out (HS.out.cell i hlt)
          have f8 := HS.out.u8 i
          have HTk : Hid (¬ sf i ≤ ((Mp.new MN).kp : Int) → ∀ w', Up wr w' → NewRAns W f n sn sf (.returned (.tuple #[.pointer none, .int .i64 48])) w') := fun hno => HN1.out (fun q => hno (q.2.2 i hlt))
          have HNx : Hid (sf i ≤ ((Mp.new MN).kp : Int) → ∀ k, k < i + 1 → sf k ≤ ((Mp.new MN).kp : Int)) := fun hy k hk => by
            by_cases e : k = i
            · subst e; exact hy
            · exact HI.out k (by omega)
          clear HI
          generalize sf i = FV at *
          by_cases hk2 : MN = 2
          · have z2 : ((MN : Int) == 2) = true := by rw [beq_iff_eq, hk2]; rfl
            have kp : (Mp.new MN).kp = 15 := by rw [hk2]; rfl
            by_cases h15 : (15 : Int) < FV
            · have HT2 : Hid _ := HTk.out (by rw [kp]; omega)
              clear HTk HNx hk2 kp
              go_wp2_with fail
              go_ret2
              exact HT2.out _ (Up.refl _)
            · have HN2 : Hid _ := HNx.out (by rw [kp]; omega)
              clear HTk HNx hk2 kp
              go_wp2_with fail
              go_round
              case rel => exact ⟨by trivial, i + 1, by omega, by go_num, HN2.out⟩
              case measure => simp [intOf]; omega
          · have z2 : ((MN : Int) == 2) = false := by rw [beq_eq_false_iff_ne]; omega
            have kp : (Mp.new MN).kp = 255 := by show (if MN = 2 then 15 else 255) = 255; rw [if_neg hk2]
            have HN2 : Hid _ := HNx.out (by rw [kp]; omega)
            clear HTk HNx hk2 kp
            go_wp2_with fail
            go_round
            case rel => exact ⟨by trivial, i + 1, by omega, by go_num, HN2.out⟩
            case measure => simp [intOf]; omega
        · have e1 : ¬ (i : Int) < (sn : Int) := by omega
          have HX : Hid (1 ≤ sn → (true = true ∧ sn = RN ∧ ∀ k, k < sn → sf k ≤ ((Mp.new MN).kp : Int))) := fun _ => ⟨rfl, HSR.out, fun k hk => HI.out k (by omega)⟩
          clear HI
          go_wp2_with fail
          go_meet
          exact ⟨rfl, HX⟩
  case rest =>
  obtain ⟨hwx, HSf⟩ := hcut
  rw [hwx]
  clear hwx HNo
  go_upto_region 12 with fail
  have HSx : Hid (∀ w, Up w3 w → w.rangeAt hb 0 [.string T, .int .i64 (KD : Int), .int .i64 (MN : Int), .int .i64 (BK : Int), .int .i64 (RN : Int), .bool BT] ∧ w.cell? ⟨hb, 4, none⟩ = some (.int .i64 (RN : Int))) := fun w u => ⟨(HSw.out w u).1, (HSw.out w u).2.1⟩
  have HB4 : Hid (∀ w, Up w3 w → By w g n f) := fun w u => HB.out.up (HU3.out.trans u)
  have hg3 : g < w3.heap.size := (HB4.out w3 (Up.refl _)).lt
  go_cut [9] (fun X wy => ∃ (yb rg nc rb : Nat), X = .pointer (some ⟨yb, 0, none⟩) ∧ Hid (wy.heap[yb]? = some (.cells #[.string T, .int .i64 (KD : Int), .int .i64 (MN : Int), .int .i64 (BK : Int), .int .i64 (RN : Int), .bool BT, .slice (some ⟨rg, 0, none⟩) n nc, .slice (some ⟨rb, 0, none⟩) RN RN, .int .i64 0, .int .i64 0, .int .i64 0, .int .i64 0, .int .i64 0] 96 (0, 0)) ∧ By wy rg n f ∧ (n ≤ nc ∧ nc ≤ maxLen) ∧ By wy rb RN (fun _ => 0) ∧ Up w3 wy ∧ (w3.heap.size ≤ yb ∧ w3.heap.size ≤ rg ∧ w3.heap.size ≤ rb) ∧ yb ≠ rg ∧ yb ≠ rb ∧ rg ≠ rb))
  case first =>
    refine wp_region_held_drew (S := fun w => w.rangeAt hb 0 [.string T, .int .i64 (KD : Int), .int .i64 (MN : Int), .int .i64 (BK : Int), .int .i64 (RN : Int), .bool BT] ∧ w.cell? ⟨hb, 4, none⟩ = some (.int .i64 (RN : Int))) (by kernel_rfl) ?_ (fun hHeld => ?_)
    · exact HSx.out _ (Up.refl w3).drew
    have u6 : Up w3 w3.drew := (Up.refl w3).drew
    generalize World.drew w3 = wd at u6 hHeld ⊢
    have hsd := u6.size
    refine wpAnyH_take (i := 0) (v := .agg [.string T, .int .i64 (KD : Int), .int .i64 (MN : Int), .int .i64 (BK : Int), .int .i64 (RN : Int), .bool BT].toArray) (by simp only [List.getElem?_toArray, List.getElem?_cons_zero]; rfl) (by kernel_rfl) (by kernel_rfl) (by kernel_rfl) (by intro _ _ _ h; exact h) (yieldsIf_load_mid (by rfl) 30 _ rfl hb 0 rfl [.string T, .int .i64 (KD : Int), .int .i64 (MN : Int), .int .i64 (BK : Int), .int .i64 (RN : Int), .bool BT] _ (fun w hw => hw.1) Tryd.underlying30 rfl (by kernel_rfl)) (by assumption) ?_
    simp only [Act.put, List.setIfInBounds_toArray, List.set_cons_zero, List.set_cons_succ]
    refine wpAnyH_take (i := 2) (v := ?_) (by simp only [List.getElem?_toArray, List.getElem?_cons_succ, List.getElem?_cons_zero]; rfl) (by kernel_rfl) (by kernel_rfl) (by kernel_rfl) (by intro _ _ _ h; exact h) (Or.inl ⟨by rfl, ?_⟩) (by assumption) ?_
    rotate_left
    · (intro w hSw; (try dsimp only at hSw); go_simp <;> with_reducible rfl)
    try simp only [Act.put, List.setIfInBounds_toArray, List.set_cons_zero, List.set_cons_succ]
    refine wpAnyH_take (i := 4) (v := ?_) (by simp only [List.getElem?_toArray, List.getElem?_cons_succ, List.getElem?_cons_zero]; rfl) (by kernel_rfl) (by kernel_rfl) (by kernel_rfl) (by intro _ _ _ h; exact h) (Or.inl ⟨by rfl, ?_⟩) (by assumption) ?_
    rotate_left
    · (intro w hSw; (try dsimp only at hSw); go_simp <;> with_reducible rfl)
    try simp only [Act.put, List.setIfInBounds_toArray, List.set_cons_zero, List.set_cons_succ]
    refine wpAnyH_take (i := 5) (v := ?_) (by simp only [List.getElem?_toArray, List.getElem?_cons_succ, List.getElem?_cons_zero]; rfl) (by kernel_rfl) (by kernel_rfl) (by kernel_rfl) (by intro _ _ _ h; exact h) (Or.inl ⟨by rfl, ?_⟩) (by assumption) ?_
    rotate_left
    · (intro w hSw; (try dsimp only at hSw); go_simp <;> with_reducible rfl)
    try simp only [Act.put, List.setIfInBounds_toArray, List.set_cons_zero, List.set_cons_succ]
    refine wpAnyH_ready (rs := [1, 6]) (by kernel_rfl) (by simp) ?_
    refine AllReadyH.cons (by simp only [List.getElem?_toArray, List.getElem?_cons_succ, List.getElem?_cons_zero]; rfl) (fun KK hK => ?_) (AllReadyH.cons (by simp only [List.getElem?_toArray, List.getElem?_cons_succ, List.getElem?_cons_zero]; rfl) (fun KK hK => ?_) AllReadyH.nil)
    · skip
      go_simp
      have ua_eb : Up wd (wd.alloc (Obj.cells #[] 5)) := (Up.refl wd).alloc _
      have hb_eb : (wd.alloc (Obj.cells #[] 5)).heap[wd.heap.size]? = some (.cells #[] 5 (0, 0)) := heap_alloc_new wd _
      have HS_eb : Hid ((wd.alloc (Obj.cells #[] 5)).heap.size = wd.heap.size + 1) := alloc_size' _ _
      have H_eb : Hid (Up wd (wd.alloc (Obj.cells #[] 5)) ∧ (wd.alloc (Obj.cells #[] 5)).heap[wd.heap.size]? = some (.cells #[] 5 (0, 0))) := ⟨ua_eb, hb_eb⟩
      clear ua_eb hb_eb
      generalize World.alloc wd _ = we at H_eb HS_eb ⊢
      obtain ⟨eb, he_eb⟩ : ∃ x, x = wd.heap.size := ⟨_, rfl⟩
      rw [← he_eb] at H_eb ⊢
      have HE_eb : Hid (eb = wd.heap.size) := he_eb
      clear he_eb
      have U_we : Up w3 we := u6.trans H_eb.out.1
      refine hK.out _ _ (HSx.out _ U_we) (fun hHeld => ?_)
      clear hK KK
      try simp only [Act.put, List.setIfInBounds_toArray, List.set_cons_zero, List.set_cons_succ]
      refine wpAnyH_ready (rs := [3, 6]) (by kernel_rfl) (by simp) ?_
      refine AllReadyH.cons (by simp only [List.getElem?_toArray, List.getElem?_cons_succ, List.getElem?_cons_zero]; rfl) (fun KK hK => ?_) (AllReadyH.cons (by simp only [List.getElem?_toArray, List.getElem?_cons_succ, List.getElem?_cons_zero]; rfl) (fun KK hK => ?_) AllReadyH.nil)
      · skip
        have q1 := HE_eb.out
        have q2 := HS_eb.out
        skip
        skip
        obtain ⟨rg, nc, wa, hrun, hrb, n1, n2, hrg0, hrg1, hkeep, hsz, hrgl, hos, hou⟩ := app_all (c := c) (base := w3.heap.size) (HB4.out we U_we) (by omega) (by omega) H_eb.out.2 (by have := U_we.size; omega) U_we.size
        refine Lib.wp_append_run _ _ _ _ _ rfl _ _ rfl rfl _ _ (hrun _) ?_
        have U_wa : Up w3 wa := ⟨hos.trans U_we.os, hou.trans U_we.output, Nat.le_trans U_we.size hsz, fun k hk => (hkeep k (Nat.lt_of_lt_of_le hk U_we.size) (by omega)).trans (U_we.block k hk)⟩
        refine hK.out _ _ (HSx.out _ U_wa) (fun hHeld => ?_)
        clear hK KK hrun q1 q2
        try simp only [Act.put, List.setIfInBounds_toArray, List.set_cons_zero, List.set_cons_succ]
        refine wpAnyH_ready (rs := [6]) (by kernel_rfl) (by simp) ?_
        refine AllReadyH.cons (by simp only [List.getElem?_toArray, List.getElem?_cons_succ, List.getElem?_cons_zero]; rfl) (fun KK hK => ?_) AllReadyH.nil
        go_simp
        have ua_rb : Up wa (wa.alloc (Obj.cells (madeCells #[.int .u8 0] RN) 5)) := (Up.refl wa).alloc _
        have hb_rb := made_by wa RN 5
        have HS_rb : Hid ((wa.alloc (Obj.cells (madeCells #[.int .u8 0] RN) 5)).heap.size = wa.heap.size + 1) := alloc_size' _ _
        have H_rb : Hid (Up wa (wa.alloc (Obj.cells (madeCells #[.int .u8 0] RN) 5)) ∧ By (wa.alloc (Obj.cells (madeCells #[.int .u8 0] RN) 5)) wa.heap.size RN (fun _ => 0)) := ⟨ua_rb, hb_rb⟩
        clear ua_rb hb_rb
        generalize World.alloc wa _ = wm at H_rb HS_rb ⊢
        obtain ⟨rb, he_rb⟩ : ∃ x, x = wa.heap.size := ⟨_, rfl⟩
        rw [← he_rb] at H_rb ⊢
        have HE_rb : Hid (rb = wa.heap.size) := he_rb
        clear he_rb
        have U_wm : Up w3 wm := U_wa.trans H_rb.out.1
        refine hK.out _ _ (HSx.out _ U_wm) (fun hHeld => ?_)
        clear hK KK
        try simp only [Act.put, List.setIfInBounds_toArray, List.set_cons_zero, List.set_cons_succ]
        refine wpAnyH_take (i := 7) (v := ?_) (by simp only [List.getElem?_toArray, List.getElem?_cons_succ, List.getElem?_cons_zero]; rfl) (by kernel_rfl) (by kernel_rfl) (by kernel_rfl) (by intro _ _ _ h; exact h) (Or.inl ⟨by rfl, ?_⟩) (by assumption) ?_
        rotate_left
        · (intro w hSw; (try dsimp only at hSw); go_simp <;> with_reducible rfl)
        try simp only [Act.put, List.setIfInBounds_toArray, List.set_cons_zero, List.set_cons_succ]
        refine wpAnyH_ready (rs := [8]) (by kernel_rfl) (by simp) ?_
        refine AllReadyH.cons (by simp only [List.getElem?_toArray, List.getElem?_cons_succ, List.getElem?_cons_zero]; rfl) (fun KK hK => ?_) AllReadyH.nil
        rw [if_pos (by rfl)]
        go_simp
        have hbx : (wm.alloc (Obj.cells #[.string T, .int .i64 (KD : Int), .int .i64 (MN : Int), .int .i64 (BK : Int), .int .i64 (RN : Int), .bool BT, .slice (some ⟨rg, 0, none⟩) n nc, .slice (some ⟨rb, 0, none⟩) RN RN, .int .i64 0, .int .i64 0, .int .i64 0, .int .i64 0, .int .i64 0] 96)).heap[wm.heap.size]? = some (.cells #[.string T, .int .i64 (KD : Int), .int .i64 (MN : Int), .int .i64 (BK : Int), .int .i64 (RN : Int), .bool BT, .slice (some ⟨rg, 0, none⟩) n nc, .slice (some ⟨rb, 0, none⟩) RN RN, .int .i64 0, .int .i64 0, .int .i64 0, .int .i64 0, .int .i64 0] 96 (0, 0)) := heap_alloc_new wm _
        have ux : Up wm (wm.alloc (Obj.cells #[.string T, .int .i64 (KD : Int), .int .i64 (MN : Int), .int .i64 (BK : Int), .int .i64 (RN : Int), .bool BT, .slice (some ⟨rg, 0, none⟩) n nc, .slice (some ⟨rb, 0, none⟩) RN RN, .int .i64 0, .int .i64 0, .int .i64 0, .int .i64 0, .int .i64 0] 96)) := (Up.refl wm).alloc _
        refine hK.out _ _ (HSx.out _ (U_wm.trans ux)) (fun hHeld => ?_)
        clear hK KK
        try simp only [Act.put, List.setIfInBounds_toArray, List.set_cons_zero, List.set_cons_succ]
        refine wpAnyH_take (i := 9) (v := ?_) (by simp only [List.getElem?_toArray, List.getElem?_cons_succ, List.getElem?_cons_zero]; rfl) (by kernel_rfl) (by kernel_rfl) (by kernel_rfl) (by intro _ _ _ h; exact h) (Or.inl ⟨by rfl, ?_⟩) (by assumption) ?_
        rotate_left
        · (intro w hSw; (try dsimp only at hSw); go_simp <;> with_reducible rfl)
        try simp only [Act.put, List.setIfInBounds_toArray, List.set_cons_zero, List.set_cons_succ]
        refine wpAnyH_done (by kernel_rfl) ?_ _
        first | go_meet | (go_wp2_with fail; go_meet)
        have q1 := HE_eb.out
        have q2 := HS_eb.out
        have q3 := HE_rb.out
        have q4 := HS_rb.out
        have q5 := hrb.lt
        have q6 := H_rb.out.2.lt
        exact ⟨wm.heap.size, rg, nc, rb, rfl, hbx, (hrb.up H_rb.out.1).up ux, ⟨n1, n2⟩, H_rb.out.2.up ux, U_wm.trans ux, ⟨U_wm.size, hrg0, by have := u6.size; omega⟩, by omega, by omega, by omega⟩
      · skip
        go_simp
        have ua_rb : Up we (we.alloc (Obj.cells (madeCells #[.int .u8 0] RN) 5)) := (Up.refl we).alloc _
        have hb_rb := made_by we RN 5
        have HS_rb : Hid ((we.alloc (Obj.cells (madeCells #[.int .u8 0] RN) 5)).heap.size = we.heap.size + 1) := alloc_size' _ _
        have H_rb : Hid (Up we (we.alloc (Obj.cells (madeCells #[.int .u8 0] RN) 5)) ∧ By (we.alloc (Obj.cells (madeCells #[.int .u8 0] RN) 5)) we.heap.size RN (fun _ => 0)) := ⟨ua_rb, hb_rb⟩
        clear ua_rb hb_rb
        generalize World.alloc we _ = wm at H_rb HS_rb ⊢
        obtain ⟨rb, he_rb⟩ : ∃ x, x = we.heap.size := ⟨_, rfl⟩
        rw [← he_rb] at H_rb ⊢
        have HE_rb : Hid (rb = we.heap.size) := he_rb
        clear he_rb
        have U_wm : Up w3 wm := U_we.trans H_rb.out.1
        refine hK.out _ _ (HSx.out _ U_wm) (fun hHeld => ?_)
        clear hK KK
        try simp only [Act.put, List.setIfInBounds_toArray, List.set_cons_zero, List.set_cons_succ]
        refine wpAnyH_ready (rs := [3]) (by kernel_rfl) (by simp) ?_
        refine AllReadyH.cons (by simp only [List.getElem?_toArray, List.getElem?_cons_succ, List.getElem?_cons_zero]; rfl) (fun KK hK => ?_) AllReadyH.nil
        have q1 := HE_eb.out
        have q2 := HS_eb.out
        have q3 := HE_rb.out
        have q4 := HS_rb.out
        obtain ⟨rg, nc, wa, hrun, hrb, n1, n2, hrg0, hrg1, hkeep, hsz, hrgl, hos, hou⟩ := app_all (c := c) (base := w3.heap.size) (HB4.out wm U_wm) (by omega) (by omega) ((H_rb.out.1.block eb (heap_at H_eb.out.2)).trans H_eb.out.2) (by have := U_wm.size; omega) U_wm.size
        refine Lib.wp_append_run _ _ _ _ _ rfl _ _ rfl rfl _ _ (hrun _) ?_
        have U_wa : Up w3 wa := ⟨hos.trans U_wm.os, hou.trans U_wm.output, Nat.le_trans U_wm.size hsz, fun k hk => (hkeep k (Nat.lt_of_lt_of_le hk U_wm.size) (by omega)).trans (U_wm.block k hk)⟩
        refine hK.out _ _ (HSx.out _ U_wa) (fun hHeld => ?_)
        clear hK KK hrun q1 q2 q3 q4
        try simp only [Act.put, List.setIfInBounds_toArray, List.set_cons_zero, List.set_cons_succ]
        refine wpAnyH_take (i := 7) (v := ?_) (by simp only [List.getElem?_toArray, List.getElem?_cons_succ, List.getElem?_cons_zero]; rfl) (by kernel_rfl) (by kernel_rfl) (by kernel_rfl) (by intro _ _ _ h; exact h) (Or.inl ⟨by rfl, ?_⟩) (by assumption) ?_
        rotate_left
        · (intro w hSw; (try dsimp only at hSw); go_simp <;> with_reducible rfl)
        try simp only [Act.put, List.setIfInBounds_toArray, List.set_cons_zero, List.set_cons_succ]
        refine wpAnyH_ready (rs := [8]) (by kernel_rfl) (by simp) ?_
        refine AllReadyH.cons (by simp only [List.getElem?_toArray, List.getElem?_cons_succ, List.getElem?_cons_zero]; rfl) (fun KK hK => ?_) AllReadyH.nil
        rw [if_pos (by rfl)]
        go_simp
        have hbx : (wa.alloc (Obj.cells #[.string T, .int .i64 (KD : Int), .int .i64 (MN : Int), .int .i64 (BK : Int), .int .i64 (RN : Int), .bool BT, .slice (some ⟨rg, 0, none⟩) n nc, .slice (some ⟨rb, 0, none⟩) RN RN, .int .i64 0, .int .i64 0, .int .i64 0, .int .i64 0, .int .i64 0] 96)).heap[wa.heap.size]? = some (.cells #[.string T, .int .i64 (KD : Int), .int .i64 (MN : Int), .int .i64 (BK : Int), .int .i64 (RN : Int), .bool BT, .slice (some ⟨rg, 0, none⟩) n nc, .slice (some ⟨rb, 0, none⟩) RN RN, .int .i64 0, .int .i64 0, .int .i64 0, .int .i64 0, .int .i64 0] 96 (0, 0)) := heap_alloc_new wa _
        have ux : Up wa (wa.alloc (Obj.cells #[.string T, .int .i64 (KD : Int), .int .i64 (MN : Int), .int .i64 (BK : Int), .int .i64 (RN : Int), .bool BT, .slice (some ⟨rg, 0, none⟩) n nc, .slice (some ⟨rb, 0, none⟩) RN RN, .int .i64 0, .int .i64 0, .int .i64 0, .int .i64 0, .int .i64 0] 96)) := (Up.refl wa).alloc _
        refine hK.out _ _ (HSx.out _ (U_wa.trans ux)) (fun hHeld => ?_)
        clear hK KK
        try simp only [Act.put, List.setIfInBounds_toArray, List.set_cons_zero, List.set_cons_succ]
        refine wpAnyH_take (i := 9) (v := ?_) (by simp only [List.getElem?_toArray, List.getElem?_cons_succ, List.getElem?_cons_zero]; rfl) (by kernel_rfl) (by kernel_rfl) (by kernel_rfl) (by intro _ _ _ h; exact h) (Or.inl ⟨by rfl, ?_⟩) (by assumption) ?_
        rotate_left
        · (intro w hSw; (try dsimp only at hSw); go_simp <;> with_reducible rfl)
        try simp only [Act.put, List.setIfInBounds_toArray, List.set_cons_zero, List.set_cons_succ]
        refine wpAnyH_done (by kernel_rfl) ?_ _
        first | go_meet | (go_wp2_with fail; go_meet)
        have q1 := HE_eb.out
        have q2 := HS_eb.out
        have q3 := HE_rb.out
        have q4 := HS_rb.out
        have q5 := hrb.lt
        have q6 := H_rb.out.2.lt
        exact ⟨wa.heap.size, rg, nc, rb, rfl, hbx, hrb.up ux, ⟨n1, n2⟩, (H_rb.out.2.of_block (hkeep rb H_rb.out.2.lt (by omega))).up ux, U_wa.trans ux, ⟨U_wa.size, hrg0, by have := u6.size; omega⟩, by omega, by omega, by omega⟩
    · skip
      go_simp
      have ua_rb : Up wd (wd.alloc (Obj.cells (madeCells #[.int .u8 0] RN) 5)) := (Up.refl wd).alloc _
      have hb_rb := made_by wd RN 5
      have HS_rb : Hid ((wd.alloc (Obj.cells (madeCells #[.int .u8 0] RN) 5)).heap.size = wd.heap.size + 1) := alloc_size' _ _
      have H_rb : Hid (Up wd (wd.alloc (Obj.cells (madeCells #[.int .u8 0] RN) 5)) ∧ By (wd.alloc (Obj.cells (madeCells #[.int .u8 0] RN) 5)) wd.heap.size RN (fun _ => 0)) := ⟨ua_rb, hb_rb⟩
      clear ua_rb hb_rb
      generalize World.alloc wd _ = wm at H_rb HS_rb ⊢
      obtain ⟨rb, he_rb⟩ : ∃ x, x = wd.heap.size := ⟨_, rfl⟩
      rw [← he_rb] at H_rb ⊢
      have HE_rb : Hid (rb = wd.heap.size) := he_rb
      clear he_rb
      have U_wm : Up w3 wm := u6.trans H_rb.out.1
      refine hK.out _ _ (HSx.out _ U_wm) (fun hHeld => ?_)
      clear hK KK
      try simp only [Act.put, List.setIfInBounds_toArray, List.set_cons_zero, List.set_cons_succ]
      refine wpAnyH_ready (rs := [1]) (by kernel_rfl) (by simp) ?_
      refine AllReadyH.cons (by simp only [List.getElem?_toArray, List.getElem?_cons_succ, List.getElem?_cons_zero]; rfl) (fun KK hK => ?_) AllReadyH.nil
      go_simp
      have ua_eb : Up wm (wm.alloc (Obj.cells #[] 5)) := (Up.refl wm).alloc _
      have hb_eb : (wm.alloc (Obj.cells #[] 5)).heap[wm.heap.size]? = some (.cells #[] 5 (0, 0)) := heap_alloc_new wm _
      have HS_eb : Hid ((wm.alloc (Obj.cells #[] 5)).heap.size = wm.heap.size + 1) := alloc_size' _ _
      have H_eb : Hid (Up wm (wm.alloc (Obj.cells #[] 5)) ∧ (wm.alloc (Obj.cells #[] 5)).heap[wm.heap.size]? = some (.cells #[] 5 (0, 0))) := ⟨ua_eb, hb_eb⟩
      clear ua_eb hb_eb
      generalize World.alloc wm _ = we at H_eb HS_eb ⊢
      obtain ⟨eb, he_eb⟩ : ∃ x, x = wm.heap.size := ⟨_, rfl⟩
      rw [← he_eb] at H_eb ⊢
      have HE_eb : Hid (eb = wm.heap.size) := he_eb
      clear he_eb
      have U_we : Up w3 we := U_wm.trans H_eb.out.1
      refine hK.out _ _ (HSx.out _ U_we) (fun hHeld => ?_)
      clear hK KK
      try simp only [Act.put, List.setIfInBounds_toArray, List.set_cons_zero, List.set_cons_succ]
      refine wpAnyH_ready (rs := [3]) (by kernel_rfl) (by simp) ?_
      refine AllReadyH.cons (by simp only [List.getElem?_toArray, List.getElem?_cons_succ, List.getElem?_cons_zero]; rfl) (fun KK hK => ?_) AllReadyH.nil
      have q1 := HE_eb.out
      have q2 := HS_eb.out
      have q3 := HE_rb.out
      have q4 := HS_rb.out
      obtain ⟨rg, nc, wa, hrun, hrb, n1, n2, hrg0, hrg1, hkeep, hsz, hrgl, hos, hou⟩ := app_all (c := c) (base := w3.heap.size) (HB4.out we U_we) (by omega) (by omega) H_eb.out.2 (by have := U_we.size; omega) U_we.size
      refine Lib.wp_append_run _ _ _ _ _ rfl _ _ rfl rfl _ _ (hrun _) ?_
      have U_wa : Up w3 wa := ⟨hos.trans U_we.os, hou.trans U_we.output, Nat.le_trans U_we.size hsz, fun k hk => (hkeep k (Nat.lt_of_lt_of_le hk U_we.size) (by omega)).trans (U_we.block k hk)⟩
      refine hK.out _ _ (HSx.out _ U_wa) (fun hHeld => ?_)
      clear hK KK hrun q1 q2 q3 q4
      try simp only [Act.put, List.setIfInBounds_toArray, List.set_cons_zero, List.set_cons_succ]
      refine wpAnyH_take (i := 7) (v := ?_) (by simp only [List.getElem?_toArray, List.getElem?_cons_succ, List.getElem?_cons_zero]; rfl) (by kernel_rfl) (by kernel_rfl) (by kernel_rfl) (by intro _ _ _ h; exact h) (Or.inl ⟨by rfl, ?_⟩) (by assumption) ?_
      rotate_left
      · (intro w hSw; (try dsimp only at hSw); go_simp <;> with_reducible rfl)
      try simp only [Act.put, List.setIfInBounds_toArray, List.set_cons_zero, List.set_cons_succ]
      refine wpAnyH_ready (rs := [8]) (by kernel_rfl) (by simp) ?_
      refine AllReadyH.cons (by simp only [List.getElem?_toArray, List.getElem?_cons_succ, List.getElem?_cons_zero]; rfl) (fun KK hK => ?_) AllReadyH.nil
      rw [if_pos (by rfl)]
      go_simp
      have hbx : (wa.alloc (Obj.cells #[.string T, .int .i64 (KD : Int), .int .i64 (MN : Int), .int .i64 (BK : Int), .int .i64 (RN : Int), .bool BT, .slice (some ⟨rg, 0, none⟩) n nc, .slice (some ⟨rb, 0, none⟩) RN RN, .int .i64 0, .int .i64 0, .int .i64 0, .int .i64 0, .int .i64 0] 96)).heap[wa.heap.size]? = some (.cells #[.string T, .int .i64 (KD : Int), .int .i64 (MN : Int), .int .i64 (BK : Int), .int .i64 (RN : Int), .bool BT, .slice (some ⟨rg, 0, none⟩) n nc, .slice (some ⟨rb, 0, none⟩) RN RN, .int .i64 0, .int .i64 0, .int .i64 0, .int .i64 0, .int .i64 0] 96 (0, 0)) := heap_alloc_new wa _
      have ux : Up wa (wa.alloc (Obj.cells #[.string T, .int .i64 (KD : Int), .int .i64 (MN : Int), .int .i64 (BK : Int), .int .i64 (RN : Int), .bool BT, .slice (some ⟨rg, 0, none⟩) n nc, .slice (some ⟨rb, 0, none⟩) RN RN, .int .i64 0, .int .i64 0, .int .i64 0, .int .i64 0, .int .i64 0] 96)) := (Up.refl wa).alloc _
      refine hK.out _ _ (HSx.out _ (U_wa.trans ux)) (fun hHeld => ?_)
      clear hK KK
      try simp only [Act.put, List.setIfInBounds_toArray, List.set_cons_zero, List.set_cons_succ]
      refine wpAnyH_take (i := 9) (v := ?_) (by simp only [List.getElem?_toArray, List.getElem?_cons_succ, List.getElem?_cons_zero]; rfl) (by kernel_rfl) (by kernel_rfl) (by kernel_rfl) (by intro _ _ _ h; exact h) (Or.inl ⟨by rfl, ?_⟩) (by assumption) ?_
      rotate_left
      · (intro w hSw; (try dsimp only at hSw); go_simp <;> with_reducible rfl)
      try simp only [Act.put, List.setIfInBounds_toArray, List.set_cons_zero, List.set_cons_succ]
      refine wpAnyH_done (by kernel_rfl) ?_ _
      first | go_meet | (go_wp2_with fail; go_meet)
      have q1 := HE_eb.out
      have q2 := HS_eb.out
      have q3 := HE_rb.out
      have q4 := HS_rb.out
      have q5 := hrb.lt
      have q6 := H_rb.out.2.lt
      exact ⟨wa.heap.size, rg, nc, rb, rfl, hbx, hrb.up ux, ⟨n1, n2⟩, ((H_rb.out.2.up H_eb.out.1).of_block (hkeep rb (H_rb.out.2.up H_eb.out.1).lt (by omega))).up ux, U_wa.trans ux, ⟨U_wa.size, hrg0, by have := u6.size; omega⟩, by omega, by omega, by omega⟩
  case rest =>
  obtain ⟨yb, rg, nc, rb, rfl, HP⟩ := hcut
  have HSO : Hid (sn = 0 ∨ (1 ≤ sn ∧ sn = RN ∧ ∀ k, k < sn → sf k ≤ ((Mp.new MN).kp : Int))) := by
    by_cases h : sn = 0
    · exact Or.inl h
    · exact Or.inr ⟨by omega, (HSf.out (by omega)).2⟩
  have HEnd : Hid (∀ w' (rf : Nat → Int), rf = (fun k => if k < sn then sf k else 0) → RtAt w' ⟨yb, rg, nc, rb, RN⟩ ⟨T, KD, MN, BK, RN, BT, n, f, rf, Mp.new MN⟩ → Up W w' → NewRAns W f n sn sf (.returned (.tuple #[.pointer (some ⟨yb, 0, none⟩), .int .i64 0])) w') := fun w' rf hrf hrt u => by
    obtain ⟨f1, f2, f3, f4⟩ := HF.out
    obtain ⟨e1, e2, e3, e4⟩ := HEq.out
    refine ⟨R, b, mk, HRw.out.1, HRw.out.2.1, u, Or.inr (Or.inr ⟨f1, fun h1 => by rw [f4, e3]; exact HSv.out.2 (HSf.out h1), m, ⟨yb, rg, nc, rb, RN⟩, f2, ⟨_, ?_, hrt.rom, hrt⟩, ?_, rfl⟩)⟩
    · unfold ctOf
      rw [f3, f4, HCt.out, hrf]
    · have := HU3.out.size
      have := HP.out.2.2.2.2.2.1
      exact ⟨by show W.heap.size ≤ yb; omega, by show W.heap.size ≤ rg; omega, by show W.heap.size ≤ rb; omega⟩
  obtain ⟨p1, p2, p3, p4, p5, p6, p7, p8, p9⟩ := HP.out
  have HCs : Hid (wc.cell? ⟨yb, 7, none⟩ = some (.slice (some ⟨rb, 0, none⟩) RN RN)) := heap_cell p1 rfl
  obtain ⟨_, c4, c2, c5⟩ := HSw.out wc p5
  have hybl := heap_at p1
  have hhb : hb < w3.heap.size := heap_at HB3.out
  have hyh : yb ≠ hb := by omega
  have hrh : rb ≠ hb := by omega
  have c7 := HCs.out
  clear p1 p2 p3 p4 p5 p7 p8 p9
  rcases HSO.out with hs0 | ⟨hs1, hsr, hfit⟩
  · have HRF : Hid ((fun _ => 0 : Nat → Int) = (fun k => if k < sn then sf k else 0)) := by
      show (fun _ => 0 : Nat → Int) = (fun k => if k < sn then sf k else 0)
      funext k
      rw [if_neg (by omega)]
    have hmin : Nat.min sn RN = 0 := by rw [hs0]; exact Nat.zero_min _
    have HMin : Hid (Nat.min sn RN = 0) := hmin
    have HRt : Hid (RtNew T KD MN BK RN BT n f (fun _ => 0) yb rg nc rb wc) := ⟨HP.out.1, HP.out.2.1, HP.out.2.2.1, HP.out.2.2.2.1, HP.out.2.2.2.2.2.2, hmp, HRm.out, HBk.out, hrn, fun k => ⟨Int.le_refl 0, Int.natCast_nonneg _⟩⟩
    have HUc : Hid (Up W wc) := HU3.out.trans HP.out.2.2.2.2.1
    clear hs0 hmin
    by_cases hM0 : MN = 0
    · have z0 : ¬ (0 : Int) < (MN : Int) := by omega
      have HR : Hid _ := HEnd.out wc _ HRF.out (HRt.out.zero hM0) HUc.out
      clear hM0
      go_wp2_with (refine wpList_copy_nothing rfl _ _ 24 24 rfl 5 Tryd.underlying24 (by kernel_rfl) _ sa RN RN sn sc rfl rfl HMin.out ?_)
      go_ret2
      exact HR.out
    · have z0 : (0 : Int) < (MN : Int) := by omega
      have HR : Hid _ := HEnd.out (wc.setCell ⟨yb, 9, none⟩ (.int .i64 1)) _ HRF.out (HRt.out.one hM0) (Fr.up HUc.out (by have := HU3.out.size; omega) ((Fr.refl yb wc).setCell))
      have c9 : wc.cell? ⟨yb, 9, none⟩ = some (.int .i64 0) := heap_cell HRt.out.blk rfl
      have f9 : wc.frozen? ⟨yb, 9, none⟩ = false := heap_fz HRt.out.blk
      clear hM0
      go_wp2_with (refine wpList_copy_nothing rfl _ _ 24 24 rfl 5 Tryd.underlying24 (by kernel_rfl) _ sa RN RN sn sc rfl rfl HMin.out ?_)
      go_ret2
      exact HR.out
  · obtain ⟨sfx, hsx⟩ : ∃ r : Nat → Int, r = (fun k => if k < sn then sf k else 0) := ⟨_, rfl⟩
    have HRF : Hid (sfx = (fun k => if k < sn then sf k else 0)) := hsx
    have hsfx : ∀ k, 0 ≤ sfx k ∧ sfx k ≤ ((Mp.new MN).kp : Int) := fun k => by
      rw [hsx]
      dsimp only
      split
      · rename_i hk
        exact ⟨(HS.out.u8 k).1, hfit k hk⟩
      · exact ⟨Int.le_refl 0, Int.natCast_nonneg _⟩
    have hsy : ∀ k, k < RN → sf k = sfx k := fun k hk => by rw [hsx]; dsimp only; rw [if_pos (by omega)]
    obtain rfl := HS.out.ad (by omega)
    have HSR : Hid (sn = RN) := hsr
    have HCp : Hid (∀ ty, (Builtin.copy_ #[24, 24] ty #[.slice (some ⟨rb, 0, none⟩) RN RN, .slice (some ⟨sb, so, none⟩) sn sc]).run Tryd.prog wc = .ok (goInt RN) (wc.setCells rb 0 (byL sf RN))) := fun ty => copy_run (k := RN) (m := sn) (c := RN) (h := sf) HP.out.2.2.2.1 (by omega) (by rw [hsr]; exact (Nat.min_self _).symm) (fun j hj => by rw [Addr.add_lit]; exact cell_up (HU3.out.trans HP.out.2.2.2.2.1) (HS.out.cell j (by omega))) RN sc ty
    have HOk : Hid (∀ k, 0 ≤ sfx k ∧ sfx k ≤ ((Mp.new MN).kp : Int)) := hsfx
    have fr : Fr rb wc (wc.setCells rb 0 (byL sf RN)) := fr_setCells _ _ _ _
    have HRt : Hid (RtNew T KD MN BK RN BT n f sfx yb rg nc rb (wc.setCells rb 0 (byL sf RN))) := ⟨(fr.block _ (heap_at HP.out.1) HP.out.2.2.2.2.2.2.2.1).trans HP.out.1, HP.out.2.1.of_block (fr.block _ HP.out.2.1.lt HP.out.2.2.2.2.2.2.2.2), HP.out.2.2.1, (HP.out.2.2.2.1.setCells 0 RN sf (by omega)).congr (fun k hk => by rw [putF_in _ _ (by omega) (by omega), Nat.sub_zero]; exact hsy k hk), HP.out.2.2.2.2.2.2, hmp, HRm.out, HBk.out, hrn, HOk.out⟩
    have HUc : Hid (Up W (wc.setCells rb 0 (byL sf RN))) := Fr.up (HU3.out.trans HP.out.2.2.2.2.1) (by have := HU3.out.size; omega) fr
    have c2' : (wc.setCells rb 0 (byL sf RN)).cell? ⟨hb, 2, none⟩ = some (.int .i64 (MN : Int)) := (fr.cell (World.block_lt_of_cell? _ _ c2) (fun e => hrh e.symm)).trans c2
    have c9 : (wc.setCells rb 0 (byL sf RN)).cell? ⟨yb, 9, none⟩ = some (.int .i64 0) := heap_cell HRt.out.blk rfl
    have f9 : (wc.setCells rb 0 (byL sf RN)).frozen? ⟨yb, 9, none⟩ = false := heap_fz HRt.out.blk
    clear fr hsx hsfx hsy hfit hsr
    by_cases hM0 : MN = 0
    · have z0 : ¬ (0 : Int) < (MN : Int) := by omega
      have HR : Hid _ := HEnd.out _ _ HRF.out (HRt.out.zero hM0) HUc.out
      clear hM0
      go_wp2_with (refine wpList_copy_runI _ rfl _ _ 24 24 rfl _ _ rfl rfl (HCp.out _) ?_)
      go_ret2
      exact HR.out
    · have z0 : (0 : Int) < (MN : Int) := by omega
      have HR : Hid _ := HEnd.out ((wc.setCells rb 0 (byL sf RN)).setCell ⟨yb, 9, none⟩ (.int .i64 1)) _ HRF.out (HRt.out.one hM0) (Fr.up HUc.out (by have := HU3.out.size; omega) ((Fr.refl yb _).setCell))
      clear hM0
      go_wp2_with (refine wpList_copy_runI _ rfl _ _ 24 24 rfl _ _ rfl rfl (HCp.out _) ?_)
      go_ret2
      exact HR.out
end Go.Proofs.YtojlappgmckokaaDoor
/- Cart: what New makes of bytes is told by the bytes. -/
namespace Go.Proofs.YtojlappgmckokaaDoor
open Go.Shelf Go.RowKit
set_option linter.unusedVariables false
set_option linter.unusedSimpArgs false
variable {w w' W : World} {g N : Nat} {f : Nat → Int} {A A2 : Ad} {C D : Ct}
theorem row_uniq {k : Nat} {R S : Rw} {a b : Bool} (h : RowIs k R a) (h2 : RowIs k S b) : R = S ∧ a = b := by
  rcases h with ⟨rfl, h, hk⟩ | ⟨rfl, rfl, h⟩ <;> rcases h2 with ⟨rfl, h2, hk2⟩ | ⟨rfl, rfl, h2⟩
  · exact ⟨rows_uniq h h2 (hk.trans hk2.symm), rfl⟩
  · exact absurd hk (h2 _ h)
  · exact absurd hk2 (h _ h2)
  · exact ⟨rfl, rfl⟩
theorem mark_uniq {a b : Bool} (h : MarkIs f a) (h2 : MarkIs f b) : a = b := by
  rcases h with ⟨rfl, h⟩ | ⟨rfl, i, hi, h⟩ <;> rcases h2 with ⟨rfl, h2⟩ | ⟨rfl, j, hj, h2⟩
  · rfl
  · exact absurd (h j hj) h2
  · exact absurd (h2 i hi) h
  · rfl
/-- these bytes are taken, as this mapper with so much RAM -/
def NewIs (f : Nat → Int) (N kd rm : Nat) : Prop := (32768 ≤ N ∧ N ≤ 2097152) ∧ ∃ R b mk, RowIs (f 327).toNat R b ∧ MarkIs f mk ∧ faultI mk f R b N = 0 ∧ kd = R.mapper ∧ rm = ramN R (f 329).toNat
theorem NewIs.uniq {kd rm kd' rm' : Nat} (h : NewIs f N kd rm) (h2 : NewIs f N kd' rm') : kd = kd' ∧ rm = rm' := by
  obtain ⟨_, R, b, mk, r1, m1, f1, rfl, rfl⟩ := h
  obtain ⟨_, S, c, mk2, r2, m2, f2, rfl, rfl⟩ := h2
  obtain ⟨rfl, rfl⟩ := row_uniq r1 r2
  exact ⟨rfl, rfl⟩
theorem new_kept2 (hT : Tb W) (hB : By W g N f) (h8 : ∀ k, 0 ≤ f k ∧ f k ≤ 255) (hn : N ≤ 2097451) : Calls Tryd.prog 15 #[.slice (some ⟨g, 0, none⟩) N N, .slice none 0 0] W fun e w' => Up W w' ∧ ((∃ x : Int, x ≠ 0 ∧ e = .returned (.tuple #[.pointer none, .int .i64 x]) ∧ ∀ kd rm, ¬ NewIs f N kd rm) ∨ (∃ A C, e = .returned (.tuple #[.pointer (some ⟨A.cb, 0, none⟩), .int .i64 0]) ∧ Cz W.heap.size w'.heap.size A C w' ∧ C.n = N ∧ C.f = f ∧ C.n = C.bk * 16384 ∧ 1 ≤ C.bk ∧ NewIs f N C.m.kd C.rm)) := by
  by_cases hs : N < 32768 ∨ 2097152 < N
  · exact (new_short (Nat.le_refl _) (by omega) hs).mono fun e w' ⟨q1, q2⟩ => ⟨q2, Or.inl ⟨41, by decide, q1, fun kd rm h => by have := h.1; omega⟩⟩
  · refine (new_any hT hB (by omega) (by omega) (Nat.le_refl _) (by omega) h8).mono ?_
    rintro e w' ⟨R, b, mk, hr, hm, u, hcs⟩
    refine ⟨u, ?_⟩
    rcases hcs with ⟨h1, he⟩ | ⟨h1, m, A, ht, hc, a1, a2, a3, a4, he⟩
    · refine Or.inl ⟨_, h1, he, fun kd rm h => ?_⟩
      obtain ⟨_, S, c, mk2, r2, m2, f2, _, _⟩ := h
      obtain ⟨rfl, rfl⟩ := row_uniq hr r2
      obtain rfl := mark_uniq hm m2
      exact h1 f2
    · have hmp : R.mapper = 0 ∨ R.mapper = 1 ∨ R.mapper = 2 ∨ R.mapper = 3 ∨ R.mapper = 5 := by
        rcases hr with ⟨_, hr, _⟩ | ⟨_, hr, _⟩
        · exact rowsT_mp R hr
        · subst hr; decide
      have htk : takesB R (f 328).toNat N = true := by
        cases hq : takesB R (f 328).toNat N with
        | true => rfl
        | false =>
          unfold faultI at h1
          rw [hq] at h1
          repeat' split at h1
          all_goals first | (exact absurd h1 (by decide)) | (exact absurd rfl (by assumption))
      refine Or.inr ⟨A, _, he, Cz.of ⟨hc, u, a1, a2, a3, a4⟩ (fun k => ⟨Int.le_refl 0, Int.natCast_nonneg _⟩) (Mp.new_std hmp), rfl, rfl, (takes_len htk).symm, ?_, by omega, R, b, mk, hr, hm, h1, rfl, rfl⟩
      show 1 ≤ 2 * 2 ^ (f 328).toNat
      have := Nat.two_pow_pos (f 328).toNat
      omega
variable {lo hi lo2 hi2 lo3 hi3 tg RN KD : Nat} {S : Nat → Int} {A3 : Ad} {E : Ct}
theorem Kx.off (h : Kx W g N f lo hi lo2 hi2 tg RN KD A A2 C D S w) (q : FK (Off lo3 hi3) w w') (hl : tg < lo3) : Kx W g N f lo hi lo2 hi2 tg RN KD A A2 C D S w' := by
  have o1 := h.o1; have o2 := h.o2; have o3 := h.o3; have o4 := h.o4
  have l1 := h.x.l1; have l2 := h.y.l1
  exact ⟨h.x.keep q (fun k _ _ => Or.inl (by omega)), h.y.keep q (fun k _ _ => Or.inl (by omega)), h.rom.of_block (q.block g h.rom.lt (Or.inl (by omega))), h.was.of_block (q.block tg h.was.lt (Or.inl hl)), up_off h.up q (by omega), h.cn, o1, o2, o3, o4⟩
/-- Load into a third cartridge of the same bytes -/
theorem Kx.loads {tc : Nat} (h : Kx W g N f lo hi lo2 hi2 tg RN KD A A2 C D C.st w) (hz : Cz lo3 hi3 A3 E w) (en : E.n = N) (ef : E.f = f) (h1 : NewIs f N KD RN) (h2 : NewIs f N E.m.kd E.rm) (hl : tg < lo3) (t1 : 5 + RN ≤ tc) (t2 : tc ≤ maxLen) : Calls Tryd.prog 20 #[.pointer (some ⟨A3.cb, 0, none⟩), .slice (some ⟨tg, 0, none⟩) (5 + RN) tc] w fun e w' => e = .returned (.int .i64 0) ∧ ∃ E2, Cz lo3 hi3 A3 E2 w' ∧ Alike C E2 ∧ Kx W g N f lo hi lo2 hi2 tg RN KD A A2 C D C.st w' := by
  obtain ⟨c1, c2, c3, c4, c5, c6⟩ := h.cn
  obtain ⟨e1, e2⟩ := h1.uniq h2
  have hk : E.m.kd = C.m.kd := by rw [c4, e1]
  have hr : E.rm = C.rm := by rw [c3, e2]
  have st := h.was
  have t3 := t1
  rw [← c3] at st t3
  have hL := load_any (C := C) (D := E) (kd := 0) (RN := 0) (F := f) hz hk hr h.x.ok h.x.std st t3 t2 (Or.inl hl)
  rw [c3] at hL
  refine hL.mono ?_
  rintro e w' ⟨q1, q2, q3⟩
  refine ⟨q1, _, q2, ⟨by rw [c1]; exact en.symm, by rw [c2]; exact ef.symm, hr.symm, (Ct.loaded_m hk).symm, fun k hk => ?_⟩, h.off q3 hl⟩
  show _ = (if k < E.rm then C.st (5 + k) else 0)
  rw [if_pos (by rw [hr]; exact hk), Ct.st_ram]
/-- what a step leaves: written to, or as it was -/
def Stp (kk aa : Int) (xv : Nat) (C C2 : Ct) : Prop := (kk = 2 ∧ C2 = C.wr aa xv) ∨ (kk ≠ 2 ∧ C2 = C)
theorem Stp.cnt {kk aa : Int} {xv : Nat} {C2 : Ct} (h : Stp kk aa xv C C2) (m : Nat) : cntF C2.st C.st m ≤ 1 := by
  rcases h with ⟨_, rfl⟩ | ⟨_, rfl⟩
  · exact wr_cnt C aa xv m
  · rw [cntF_zero (fun k _ => rfl)]; exact Nat.zero_le _
theorem Stp.cnt2 {kk aa : Int} {xv : Nat} {C2 : Ct} (h : Stp kk aa xv C C2) (m : Nat) : 0 < cntF C2.st C.st m → kk = 2 ∧ 40960 ≤ aa ∧ aa < 49152 := by
  rcases h with ⟨h, rfl⟩ | ⟨_, rfl⟩
  · intro h0
    refine ⟨h, ?_⟩
    by_cases hr : 40960 ≤ aa ∧ aa < 49152
    · exact hr
    · rw [wr_cnt_out hr] at h0; cases h0
  · rw [cntF_zero (fun k _ => rfl)]
    intro h0
    cases h0
theorem Stp.none {kk aa : Int} {xv : Nat} {C2 : Ct} (h : Stp kk aa xv C C2) (hk : ¬ kk = 2) : C2 = C := by
  rcases h with ⟨h, _⟩ | ⟨_, h⟩
  · exact absurd h hk
  · exact h
theorem Stp.some {kk aa : Int} {xv : Nat} {C2 : Ct} (h : Stp kk aa xv C C2) (hk : kk = 2) : C2 = C.wr aa xv := by
  rcases h with ⟨_, h⟩ | ⟨h, _⟩
  · exact h
  · exact absurd hk h
end Go.Proofs.YtojlappgmckokaaDoor
/- Cart: New of the program, any save that is lent. -/
namespace Go.Proofs.YtojlappgmckokaaDoor
open Go.Shelf Go.RowKit
set_option linter.unusedVariables false
set_option linter.unusedSimpArgs false
variable {w w' W : World} {g n : Nat} {f : Nat → Int}
set_option maxRecDepth 100000 in
theorem takes_e {cb sl sc : Nat} (hs : sc ≤ 9223372036854775807) : Calls Tryd.prog 38 #[.pointer (some ⟨cb, 0, none⟩), .slice (some ⟨sl, 0, none⟩) 0 sc] W fun e w' => e = .returned (.bool true) ∧ Up W w' := by
  go_enter Tryd.func38, Tryd.ntmps38
  go_wp2_with fail
  first | go_quiet (fail) | skip
  go_wp2_with fail
  go_ret
  exact ⟨by first | rfl | (simp; done), by first | exact Up.refl _ | exact Up.drewN _ _⟩
set_option maxRecDepth 100000 in
set_option maxHeartbeats 2000000 in
theorem new_e {c sl sc : Nat} (hsc : sc ≤ 9223372036854775807) (hT : Tb W) (h : By W g n f) (hn : 32768 ≤ n) (hn2 : n ≤ 2097152) (hc : n ≤ c) (hm : c ≤ 9223372036854775807) (h8 : ∀ k, 0 ≤ f k ∧ f k ≤ 255) : Calls Tryd.prog 15 #[.slice (some ⟨g, 0, none⟩) n c, .slice (some ⟨sl, 0, none⟩) 0 sc] W (NewAns W f n) := by
  have HCk : Hid _ := check_any hT h hn hn2 hc hm h8
  have HB : Hid (By W g n f) := h
  clear hT h h8
  go_enter Tryd.func15, Tryd.ntmps15
  go_wp2_with fail
  refine Calls.mono HCk.out ?_
  rintro e w2 ⟨R, b, mk, hr, hk, u2, hcs⟩
  have HRw : Hid (RowIs (f 327).toNat R b ∧ MarkIs f mk ∧ Up W w2) := ⟨hr, hk, u2⟩
  clear HCk hr hk u2
  rcases hcs with ⟨hx, rfl⟩ | ⟨hx, m, ht, rfl⟩
  · have HX : Hid _ := hx
    obtain ⟨x, hxx⟩ : ∃ x, faultI mk f R b n = x := ⟨_, rfl⟩
    have hx0 : ¬ x = 0 := by rw [← hxx]; exact hx
    have HXX : Hid (faultI mk f R b n = x) := hxx
    rw [hxx]
    unfold zHead
    clear hx hxx HX
    go_wp2_with fail
    go_ret2
    exact ⟨R, b, mk, HRw.out.1, HRw.out.2.1, HRw.out.2.2.alloc _, Or.inl ⟨by rw [HXX.out]; exact hx0, by rw [HXX.out]; first | rfl | (simp; done)⟩⟩
  · obtain ⟨c8, hc8⟩ : ∃ c8, (f 328).toNat = c8 := ⟨_, rfl⟩
    obtain ⟨c9, hc9⟩ : ∃ c9, (f 329).toNat = c9 := ⟨_, rfl⟩
    rw [hc8, hc9]
    have HF : Hid (faultI mk f R b n = 0 ∧ TitleIs f m ∧ (f 328).toNat = c8 ∧ (f 329).toNat = c9) := ⟨hx, ht, hc8, hc9⟩
    clear hx ht hc8 hc9
    have hmp : R.mapper = 0 ∨ R.mapper = 1 ∨ R.mapper = 2 ∨ R.mapper = 3 ∨ R.mapper = 5 := by
      rcases HRw.out.1 with ⟨_, hr, _⟩ | ⟨_, hr, _⟩
      · exact rowsT_mp R hr
      · subst hr; decide
    have hrn : ramN R c9 ≤ 131072 := ramN_le R c9
    have HCt : Hid (ctNew f n m R c8 c9 = ⟨strF f 308 m, R.kind, R.mapper, 2 * 2 ^ c8, ramN R c9, R.bat, n, f, fun _ => 0, Mp.new R.mapper⟩) := rfl
    unfold headC
    dsimp only
    have HMO : Hid (∀ w, Calls Tryd.prog 37 #[.int .i64 (R.mapper : Int)] w fun e w' => ∃ v, e = .returned v ∧ MpAt w' v (Mp.new R.mapper) w.heap.size ∧ Up w w' ∧ v.oneCell' = true) := fun w => mapperOf_any hmp
    have hmk : ∀ w : World, (Instr.makeSlice 24 (.int .i64 (ramN R c9 : Int)) (.int .i64 (ramN R c9 : Int))).run Tryd.prog w = .ok (.slice (some ⟨w.heap.size, 0, none⟩) (ramN R c9) (ramN R c9)) (w.alloc (.cells (madeCells #[.int .u8 0] (ramN R c9)) 5)) := fun w => mkB w _ (by omega)
    generalize strF f 308 m = T at HCt ⊢
    generalize R.kind = KD at HCt ⊢
    generalize R.mapper = MN at HCt HMO hmp ⊢
    generalize 2 * 2 ^ c8 = BK at HCt ⊢
    generalize ramN R c9 = RN at HCt hrn hmk ⊢
    generalize R.bat = BT at HCt ⊢
    go_upto_region 4 with fail
    have HU3 : Hid (Up W (w2.alloc (Obj.cells #[.string T, .int .i64 (KD : Int), .int .i64 (MN : Int), .int .i64 (BK : Int), .int .i64 (RN : Int), .bool BT] 30))) := HRw.out.2.2.alloc _
    have HB3 : Hid ((w2.alloc (Obj.cells #[.string T, .int .i64 (KD : Int), .int .i64 (MN : Int), .int .i64 (BK : Int), .int .i64 (RN : Int), .bool BT] 30)).heap[w2.heap.size]? = some (.cells #[.string T, .int .i64 (KD : Int), .int .i64 (MN : Int), .int .i64 (BK : Int), .int .i64 (RN : Int), .bool BT] 30 (0, 0))) := heap_alloc_new w2 _
    generalize World.alloc w2 _ = w3 at HU3 HB3 ⊢
    generalize w2.heap.size = hb at HB3 ⊢
    have hh3 := heap_at HB3.out
    have HSw : Hid (∀ w, Up w3 w → w.rangeAt hb 0 [.string T, .int .i64 (KD : Int), .int .i64 (MN : Int), .int .i64 (BK : Int), .int .i64 (RN : Int), .bool BT] ∧ w.cell? ⟨hb, 4, none⟩ = some (.int .i64 (RN : Int)) ∧ w.cell? ⟨hb, 2, none⟩ = some (.int .i64 (MN : Int))) := fun w u => ⟨range_up u (range_heap HB3.out), cell_up u (heap_cell HB3.out rfl), cell_up u (heap_cell HB3.out rfl)⟩
    go_cut [8] (fun X wy => ∃ (cb rb mb : Nat) (t : TypeId) (pv : Value), X = .pointer (some ⟨cb, 0, none⟩) ∧ Hid (wy.heap[cb]? = some (.cells #[.string T, .int .i64 (KD : Int), .int .i64 (MN : Int), .int .i64 (BK : Int), .int .i64 (RN : Int), .bool BT, .slice none 0 0, .slice (some ⟨rb, 0, none⟩) RN RN, .iface t pv] 81 (0, 0)) ∧ By wy rb RN (fun _ => 0) ∧ MpAt wy (.iface t pv) (Mp.new MN) mb ∧ Up w3 wy ∧ w3.heap.size ≤ cb ∧ w3.heap.size ≤ rb ∧ w3.heap.size ≤ mb ∧ cb ≠ rb ∧ cb ≠ mb ∧ rb ≠ mb ∧ (MN = 0 ∨ mb < wy.heap.size)))
    case first =>
      refine wp_region_held_drew (S := fun w => w.rangeAt hb 0 [.string T, .int .i64 (KD : Int), .int .i64 (MN : Int), .int .i64 (BK : Int), .int .i64 (RN : Int), .bool BT] ∧ w.cell? ⟨hb, 4, none⟩ = some (.int .i64 (RN : Int)) ∧ w.cell? ⟨hb, 2, none⟩ = some (.int .i64 (MN : Int))) (by kernel_rfl) ?_ (fun hHeld => ?_)
      · exact HSw.out _ (Up.refl w3).drew
      have u6 : Up w3 w3.drew := (Up.refl w3).drew
      generalize World.drew w3 = wd at u6 hHeld ⊢
      refine wpAnyH_take (i := 0) (v := .agg [.string T, .int .i64 (KD : Int), .int .i64 (MN : Int), .int .i64 (BK : Int), .int .i64 (RN : Int), .bool BT].toArray) (by simp only [List.getElem?_toArray, List.getElem?_cons_zero]; rfl) (by kernel_rfl) (by kernel_rfl) (by kernel_rfl) (by intro _ _ _ h; exact h) (yieldsIf_load_mid (by rfl) 30 _ rfl hb 0 rfl [.string T, .int .i64 (KD : Int), .int .i64 (MN : Int), .int .i64 (BK : Int), .int .i64 (RN : Int), .bool BT] _ (fun w hw => hw.1) Tryd.underlying30 rfl (by kernel_rfl)) (by assumption) ?_
      simp only [Act.put, List.setIfInBounds_toArray, List.set_cons_zero, List.set_cons_succ]
      refine wpAnyH_take (i := 1) (v := ?_) (by simp only [List.getElem?_toArray, List.getElem?_cons_succ, List.getElem?_cons_zero]; rfl) (by kernel_rfl) (by kernel_rfl) (by kernel_rfl) (by intro _ _ _ h; exact h) (Or.inl ⟨by rfl, ?_⟩) (by assumption) ?_
      rotate_left
      · (intro w hSw; (try dsimp only at hSw); go_simp <;> with_reducible rfl)
      try simp only [Act.put, List.setIfInBounds_toArray, List.set_cons_zero, List.set_cons_succ]
      refine wpAnyH_take (i := 2) (v := ?_) (by simp only [List.getElem?_toArray, List.getElem?_cons_succ, List.getElem?_cons_zero]; rfl) (by kernel_rfl) (by kernel_rfl) (by kernel_rfl) (by intro _ _ _ h; exact h) (Or.inl ⟨by rfl, ?_⟩) (by assumption) ?_
      rotate_left
      · (intro w hSw; (try dsimp only at hSw); go_simp <;> with_reducible rfl)
      try simp only [Act.put, List.setIfInBounds_toArray, List.set_cons_zero, List.set_cons_succ]
      refine wpAnyH_take (i := 4) (v := ?_) (by simp only [List.getElem?_toArray, List.getElem?_cons_succ, List.getElem?_cons_zero]; rfl) (by kernel_rfl) (by kernel_rfl) (by kernel_rfl) (by intro _ _ _ h; exact h) (Or.inl ⟨by rfl, ?_⟩) (by assumption) ?_
      rotate_left
      · (intro w hSw; (try dsimp only at hSw); go_simp <;> with_reducible rfl)
      try simp only [Act.put, List.setIfInBounds_toArray, List.set_cons_zero, List.set_cons_succ]
      refine wpAnyH_take (i := 5) (v := ?_) (by simp only [List.getElem?_toArray, List.getElem?_cons_succ, List.getElem?_cons_zero]; rfl) (by kernel_rfl) (by kernel_rfl) (by kernel_rfl) (by intro _ _ _ h; exact h) (Or.inl ⟨by rfl, ?_⟩) (by assumption) ?_
      rotate_left
      · (intro w hSw; (try dsimp only at hSw); go_simp <;> with_reducible rfl)
      try simp only [Act.put, List.setIfInBounds_toArray, List.set_cons_zero, List.set_cons_succ]
      refine wpAnyH_ready (rs := [3, 6]) (by kernel_rfl) (by simp) ?_
      refine AllReadyH.cons (by simp only [List.getElem?_toArray, List.getElem?_cons_succ, List.getElem?_cons_zero]; rfl) (fun KK hK => ?_) (AllReadyH.cons (by simp only [List.getElem?_toArray, List.getElem?_cons_succ, List.getElem?_cons_zero]; rfl) (fun KK hK => ?_) AllReadyH.nil)
      · go_simp
        have ua : Up w3 (wd.alloc (Obj.cells (madeCells #[.int .u8 0] RN) 5)) := u6.alloc _
        have hby := made_by wd RN 5
        have HA : Hid (Up w3 (wd.alloc (Obj.cells (madeCells #[.int .u8 0] RN) 5)) ∧ By (wd.alloc (Obj.cells (madeCells #[.int .u8 0] RN) 5)) wd.heap.size RN (fun _ => 0)) := ⟨ua, hby⟩
        clear ua hby
        generalize World.alloc wd _ = wa at HA ⊢
        generalize hrbe : wd.heap.size = rb at HA ⊢
        refine hK.out _ _ (HSw.out _ HA.out.1) (fun hHeld => ?_)
        clear hK KK
        try simp only [Act.put, List.setIfInBounds_toArray, List.set_cons_zero, List.set_cons_succ]
        refine wpAnyH_ready (rs := [6]) (by kernel_rfl) (by simp) ?_
        refine AllReadyH.cons (by simp only [List.getElem?_toArray, List.getElem?_cons_succ, List.getElem?_cons_zero]; rfl) (fun KK hK => ?_) AllReadyH.nil
        go_simp
        refine (HMO.out _).mono ?_
        rintro e w5 ⟨v, rfl, hmp5, u5, _⟩
        obtain ⟨t, pv, rfl⟩ := mp_iface hmp5
        have H5 : Hid (Up w3 w5 ∧ By w5 rb RN (fun _ => 0) ∧ MpAt w5 (.iface t pv) (Mp.new MN) wa.heap.size ∧ (w3.heap.size ≤ wa.heap.size ∧ (wa.heap.size ≠ rb ∨ MN = 0)) ∧ rb < w5.heap.size ∧ w3.heap.size ≤ rb) := ⟨HA.out.1.trans u5, HA.out.2.up u5, hmp5, ⟨HA.out.1.size, Or.inl (Nat.ne_of_gt HA.out.2.lt)⟩, Nat.lt_of_lt_of_le HA.out.2.lt u5.size, by have := u6.size; omega⟩
        clear hmp5 u5 HA
        refine hK.out _ _ (HSw.out _ H5.out.1) (fun hHeld => ?_)
        clear hK KK
        try simp only [Act.put, List.setIfInBounds_toArray, List.set_cons_zero, List.set_cons_succ]
        refine wpAnyH_take (i := 7) (v := ?_) (by simp only [List.getElem?_toArray, List.getElem?_cons_succ, List.getElem?_cons_zero]; rfl) (by kernel_rfl) (by kernel_rfl) (by kernel_rfl) (by intro _ _ _ h; exact h) (Or.inl ⟨by rfl, ?_⟩) (by assumption) ?_
        rotate_left
        · (intro w hSw; (try dsimp only at hSw); go_simp <;> with_reducible rfl)
        try simp only [Act.put, List.setIfInBounds_toArray, List.set_cons_zero, List.set_cons_succ]
        refine wpAnyH_ready (rs := [8]) (by kernel_rfl) (by simp) ?_
        refine AllReadyH.cons (by simp only [List.getElem?_toArray, List.getElem?_cons_succ, List.getElem?_cons_zero]; rfl) (fun KK hK => ?_) AllReadyH.nil
        rw [if_pos (by rfl)]
        go_simp
        have hbx : (w5.alloc (Obj.cells #[.string T, .int .i64 (KD : Int), .int .i64 (MN : Int), .int .i64 (BK : Int), .int .i64 (RN : Int), .bool BT, .slice none 0 0, .slice (some ⟨rb, 0, none⟩) RN RN, .iface t pv] 81)).heap[w5.heap.size]? = some (.cells #[.string T, .int .i64 (KD : Int), .int .i64 (MN : Int), .int .i64 (BK : Int), .int .i64 (RN : Int), .bool BT, .slice none 0 0, .slice (some ⟨rb, 0, none⟩) RN RN, .iface t pv] 81 (0, 0)) := heap_alloc_new w5 _
        have ux : Up w5 (w5.alloc (Obj.cells #[.string T, .int .i64 (KD : Int), .int .i64 (MN : Int), .int .i64 (BK : Int), .int .i64 (RN : Int), .bool BT, .slice none 0 0, .slice (some ⟨rb, 0, none⟩) RN RN, .iface t pv] 81)) := (Up.refl w5).alloc _
        have hsx : (w5.alloc (Obj.cells #[.string T, .int .i64 (KD : Int), .int .i64 (MN : Int), .int .i64 (BK : Int), .int .i64 (RN : Int), .bool BT, .slice none 0 0, .slice (some ⟨rb, 0, none⟩) RN RN, .iface t pv] 81)).heap.size = w5.heap.size + 1 := by simp
        refine hK.out _ _ (HSw.out _ (H5.out.1.trans ux)) (fun hHeld => ?_)
        clear hK KK
        try simp only [Act.put, List.setIfInBounds_toArray, List.set_cons_zero, List.set_cons_succ]
        refine wpAnyH_take (i := 9) (v := ?_) (by simp only [List.getElem?_toArray, List.getElem?_cons_succ, List.getElem?_cons_zero]; rfl) (by kernel_rfl) (by kernel_rfl) (by kernel_rfl) (by intro _ _ _ h; exact h) (Or.inl ⟨by rfl, ?_⟩) (by assumption) ?_
        rotate_left
        · (intro w hSw; (try dsimp only at hSw); go_simp <;> with_reducible rfl)
        try simp only [Act.put, List.setIfInBounds_toArray, List.set_cons_zero, List.set_cons_succ]
        refine wpAnyH_done (by kernel_rfl) ?_ _
        first | go_meet | (go_wp2_with fail; go_meet)
        obtain ⟨z1, z2, z3, z4, z5, z6⟩ := H5.out
        obtain ⟨mb, y1, y2, y3, y4, y5⟩ := mp_pick (c := w5.heap.size) (r := rb) (lo := w3.heap.size) z3 z4.1 (by omega) (by omega) rfl z4.2
        exact ⟨w5.heap.size, rb, mb, t, pv, rfl, hbx, z2.up ux, y1.up ux, z1.trans ux, by have := z1.size; omega, z6, y2, by omega, by omega, by omega, y5.imp id (fun h => by omega)⟩
      · go_simp
        refine (HMO.out _).mono ?_
        rintro e w4 ⟨v, rfl, hmp5, u4, _⟩
        obtain ⟨t, pv, rfl⟩ := mp_iface hmp5
        have H4 : Hid (Up w3 w4 ∧ MpAt w4 (.iface t pv) (Mp.new MN) wd.heap.size ∧ wd.heap.size ≤ w4.heap.size) := ⟨u6.trans u4, hmp5, u4.size⟩
        clear hmp5 u4
        refine hK.out _ _ (HSw.out _ H4.out.1) (fun hHeld => ?_)
        clear hK KK
        try simp only [Act.put, List.setIfInBounds_toArray, List.set_cons_zero, List.set_cons_succ]
        refine wpAnyH_ready (rs := [3]) (by kernel_rfl) (by simp) ?_
        refine AllReadyH.cons (by simp only [List.getElem?_toArray, List.getElem?_cons_succ, List.getElem?_cons_zero]; rfl) (fun KK hK => ?_) AllReadyH.nil
        go_simp
        have ua : Up w4 (w4.alloc (Obj.cells (madeCells #[.int .u8 0] RN) 5)) := (Up.refl w4).alloc _
        have hsz : (w4.alloc (Obj.cells (madeCells #[.int .u8 0] RN) 5)).heap.size = w4.heap.size + 1 := by simp
        have hby := made_by w4 RN 5
        have H5 : Hid (Up w3 (w4.alloc (Obj.cells (madeCells #[.int .u8 0] RN) 5)) ∧ By (w4.alloc (Obj.cells (madeCells #[.int .u8 0] RN) 5)) w4.heap.size RN (fun _ => 0) ∧ MpAt (w4.alloc (Obj.cells (madeCells #[.int .u8 0] RN) 5)) (.iface t pv) (Mp.new MN) wd.heap.size ∧ (w3.heap.size ≤ wd.heap.size ∧ (wd.heap.size ≠ w4.heap.size ∨ MN = 0)) ∧ w4.heap.size < (w4.alloc (Obj.cells (madeCells #[.int .u8 0] RN) 5)).heap.size ∧ w3.heap.size ≤ w4.heap.size) := ⟨H4.out.1.trans ua, hby, H4.out.2.1.up ua, ⟨u6.size, mp_ne H4.out.2.1⟩, by omega, H4.out.1.size⟩
        clear ua hby hsz
        generalize World.alloc w4 _ = w5 at H5 ⊢
        generalize hrbe : w4.heap.size = rb at H5 ⊢
        refine hK.out _ _ (HSw.out _ H5.out.1) (fun hHeld => ?_)
        clear hK KK
        try simp only [Act.put, List.setIfInBounds_toArray, List.set_cons_zero, List.set_cons_succ]
        refine wpAnyH_take (i := 7) (v := ?_) (by simp only [List.getElem?_toArray, List.getElem?_cons_succ, List.getElem?_cons_zero]; rfl) (by kernel_rfl) (by kernel_rfl) (by kernel_rfl) (by intro _ _ _ h; exact h) (Or.inl ⟨by rfl, ?_⟩) (by assumption) ?_
        rotate_left
        · (intro w hSw; (try dsimp only at hSw); go_simp <;> with_reducible rfl)
        try simp only [Act.put, List.setIfInBounds_toArray, List.set_cons_zero, List.set_cons_succ]
        refine wpAnyH_ready (rs := [8]) (by kernel_rfl) (by simp) ?_
        refine AllReadyH.cons (by simp only [List.getElem?_toArray, List.getElem?_cons_succ, List.getElem?_cons_zero]; rfl) (fun KK hK => ?_) AllReadyH.nil
        rw [if_pos (by rfl)]
        go_simp
        have hbx : (w5.alloc (Obj.cells #[.string T, .int .i64 (KD : Int), .int .i64 (MN : Int), .int .i64 (BK : Int), .int .i64 (RN : Int), .bool BT, .slice none 0 0, .slice (some ⟨rb, 0, none⟩) RN RN, .iface t pv] 81)).heap[w5.heap.size]? = some (.cells #[.string T, .int .i64 (KD : Int), .int .i64 (MN : Int), .int .i64 (BK : Int), .int .i64 (RN : Int), .bool BT, .slice none 0 0, .slice (some ⟨rb, 0, none⟩) RN RN, .iface t pv] 81 (0, 0)) := heap_alloc_new w5 _
        have ux : Up w5 (w5.alloc (Obj.cells #[.string T, .int .i64 (KD : Int), .int .i64 (MN : Int), .int .i64 (BK : Int), .int .i64 (RN : Int), .bool BT, .slice none 0 0, .slice (some ⟨rb, 0, none⟩) RN RN, .iface t pv] 81)) := (Up.refl w5).alloc _
        have hsx : (w5.alloc (Obj.cells #[.string T, .int .i64 (KD : Int), .int .i64 (MN : Int), .int .i64 (BK : Int), .int .i64 (RN : Int), .bool BT, .slice none 0 0, .slice (some ⟨rb, 0, none⟩) RN RN, .iface t pv] 81)).heap.size = w5.heap.size + 1 := by simp
        refine hK.out _ _ (HSw.out _ (H5.out.1.trans ux)) (fun hHeld => ?_)
        clear hK KK
        try simp only [Act.put, List.setIfInBounds_toArray, List.set_cons_zero, List.set_cons_succ]
        refine wpAnyH_take (i := 9) (v := ?_) (by simp only [List.getElem?_toArray, List.getElem?_cons_succ, List.getElem?_cons_zero]; rfl) (by kernel_rfl) (by kernel_rfl) (by kernel_rfl) (by intro _ _ _ h; exact h) (Or.inl ⟨by rfl, ?_⟩) (by assumption) ?_
        rotate_left
        · (intro w hSw; (try dsimp only at hSw); go_simp <;> with_reducible rfl)
        try simp only [Act.put, List.setIfInBounds_toArray, List.set_cons_zero, List.set_cons_succ]
        refine wpAnyH_done (by kernel_rfl) ?_ _
        first | go_meet | (go_wp2_with fail; go_meet)
        obtain ⟨z1, z2, z3, z4, z5, z6⟩ := H5.out
        obtain ⟨mb, y1, y2, y3, y4, y5⟩ := mp_pick (c := w5.heap.size) (r := rb) (lo := w3.heap.size) z3 z4.1 (by omega) (by omega) rfl z4.2
        exact ⟨w5.heap.size, rb, mb, t, pv, rfl, hbx, z2.up ux, y1.up ux, z1.trans ux, by have := z1.size; omega, z6, y2, by omega, by omega, by omega, y5.imp id (fun h => by omega)⟩
    case rest =>
    obtain ⟨cb, rb, mb, t, pv, rfl, HY⟩ := hcut
    generalize wc = w5 at HY ⊢
    have HTk : Hid (∀ w, Calls Tryd.prog 38 #[.pointer (some ⟨cb, 0, none⟩), .slice (some ⟨sl, 0, none⟩) 0 sc] w fun e w' => e = .returned (.bool true) ∧ Up w w') := fun w => takes_e hsc
    go_wp2_with fail
    refine (HTk.out _).mono ?_
    rintro e w6 ⟨rfl, u6⟩
    have H6 : Hid (Up w5 w6) := u6
    clear u6 HTk
    go_wp2_with fail
    have uW6 : Up W w6 := HU3.out.trans (HY.out.2.2.2.1.trans H6.out)
    have HCl : Hid _ := cloneB_any (cap := c) (o := 0) (g := g) (n := n) (f := f) (W := w6) (by omega) (fun k hk => by rw [Nat.zero_add]; exact (HB.out.up uW6).cell k hk)
    clear uW6
    refine Calls.mono HCl.out ?_
    rintro e w7 ⟨rg, rcap, rfl, hg1, hg2, hg3, hg4, u7⟩
    have H7 : Hid (w6.heap.size ≤ rg ∧ By w7 rg n f ∧ n ≤ rcap ∧ rcap ≤ maxLen ∧ Up w5 w7) := ⟨hg1, hg2, hg3, hg4, H6.out.trans u7⟩
    have hb7 : w7.heap[cb]? = some (.cells #[.string T, .int .i64 (KD : Int), .int .i64 (MN : Int), .int .i64 (BK : Int), .int .i64 (RN : Int), .bool BT, .slice none 0 0, .slice (some ⟨rb, 0, none⟩) RN RN, .iface t pv] 81 (0, 0)) := ((H6.out.trans u7).block cb (heap_at HY.out.1)).trans HY.out.1
    have HB7 : Hid _ := hb7
    have k6 : w7.cell? ⟨cb, 6, none⟩ = some (.slice none 0 0) := heap_cell HB7.out rfl
    have k7 : w7.cell? ⟨cb, 7, none⟩ = some (.slice (some ⟨rb, 0, none⟩) RN RN) := heap_cell HB7.out rfl
    have kf : ∀ k, w7.frozen? ⟨cb, k, none⟩ = false := fun k => heap_fz HB7.out
    clear hg1 hg2 hg3 hg4 u7 hb7 HCl
    have hcp : ∀ w : World, (Builtin.copy_ #[24, 24] 3 #[.slice (some ⟨rb, 0, none⟩) RN RN, .slice (some ⟨sl, 0, none⟩) 0 sc]).run Tryd.prog w = .ok (.int .i64 0) w := fun w => run_copy_none w 24 24 3 5 (some ⟨rb, 0, none⟩) (some ⟨sl, 0, none⟩) RN RN 0 sc Tryd.underlying24 (by kernel_rfl) (Nat.zero_min _)
    go_wp2_with fail
    go_ret2
    have fr : Fr cb w7 (w7.setCell ⟨cb, 6, none⟩ (.slice (some ⟨rg, 0, none⟩) n rcap)) := (Fr.refl cb w7).setCell
    have hb8 : (w7.setCell ⟨cb, 6, none⟩ (.slice (some ⟨rg, 0, none⟩) n rcap)).heap[cb]? = some (.cells #[.string T, .int .i64 (KD : Int), .int .i64 (MN : Int), .int .i64 (BK : Int), .int .i64 (RN : Int), .bool BT, .slice (some ⟨rg, 0, none⟩) n rcap, .slice (some ⟨rb, 0, none⟩) RN RN, .iface t pv] 81 (0, 0)) := heap_setCell_same w7 cb 6 _ _ _ HB7.out
    obtain ⟨y1, y2, y3, y4, y5, y6, y7, y8, y9, y10, y11⟩ := HY.out
    obtain ⟨x1, x2, x3, x4, x5⟩ := H7.out
    have hcbl := heap_at y1
    have hrbl := y2.lt
    have s56 := H6.out.size
    have sW3 := HU3.out.size
    have mx : rcap ≤ 9223372036854775807 := by unfold maxLen at x4; omega
    obtain ⟨mb2, v1, v2, v3, v4, v5⟩ : ∃ mb2, MpAt w7 (.iface t pv) (Mp.new MN) mb2 ∧ w3.heap.size ≤ mb2 ∧ mb2 ≠ cb ∧ mb2 ≠ rb ∧ mb2 ≠ rg := by
      by_cases hk : MN = 0
      · subst hk
        rcases y3 with ⟨h1, h2⟩ | ⟨h1, _⟩
        · exact ⟨cb + rb + rg + w3.heap.size + 1, Or.inl ⟨h1, h2⟩, by omega, by omega, by omega, by omega⟩
        · exact absurd h1 (by decide)
      · have : mb < w5.heap.size := y11.resolve_left hk
        exact ⟨mb, y3.up x5, y7, fun e => y9 e.symm, fun e => y10 e.symm, by omega⟩
    have hU : Up W (w7.setCell ⟨cb, 6, none⟩ (.slice (some ⟨rg, 0, none⟩) n rcap)) := Fr.up (HU3.out.trans (y4.trans x5)) (by omega) fr
    refine ⟨R, b, mk, HRw.out.1, HRw.out.2.1, hU, Or.inr ⟨HF.out.1, m, ⟨cb, rg, rcap, rb, RN, mb2, .iface t pv⟩, HF.out.2.1, ?_, by show W.heap.size ≤ cb; omega, by show W.heap.size ≤ rg; omega, by show W.heap.size ≤ rb; omega, by show W.heap.size ≤ mb2; omega, by first | rfl | (simp; done)⟩⟩
    rw [HF.out.2.2.1, HF.out.2.2.2, HCt.out]
    refine ⟨hb8, x2.of_block (fr.block rg x2.lt (by omega)), (y2.up x5).of_block (fr.block rb (y2.up x5).lt (fun e => y8 e.symm)), v1.fr fr v3, Mp.new_in hmp, hn, hn2, ⟨x3, mx⟩, ⟨Nat.le_refl _, by show RN ≤ 9223372036854775807; omega⟩, hrn, by show cb ≠ rg; omega, y8, fun e => v3 e.symm, by show rg ≠ rb; omega, fun e => v5 e.symm, fun e => v4 e.symm⟩
theorem CtAt.congr {A : Ad} {C : Ct} {rf : Nat → Int} (h : CtAt w A C) (e : ∀ k, k < C.rm → C.rf k = rf k) : CtAt w A { C with rf := rf } :=
  ⟨h.blk, h.rom, h.ram.congr e, h.mp, h.inn, h.n1, h.n2, h.nc, h.rc, h.rm, h.d1, h.d2, h.d3, h.d4, h.d5, h.d6⟩
/-- what New of the program gives: as the document's -/
def NewPAns (W : World) (f : Nat → Int) (n sn : Nat) (sf : Nat → Int) (e : Ending) (w' : World) : Prop := ∃ R b mk, RowIs (f 327).toNat R b ∧ MarkIs f mk ∧ Up W w' ∧ ((faultI mk f R b n ≠ 0 ∧ e = .returned (.tuple #[.pointer none, .int .i64 (faultI mk f R b n)])) ∨ (faultI mk f R b n = 0 ∧ 1 ≤ sn ∧ ¬ SaveFits R (ramN R (f 329).toNat) sn sf ∧ e = .returned (.tuple #[.pointer none, .int .i64 48])) ∨ (faultI mk f R b n = 0 ∧ (1 ≤ sn → SaveFits R (ramN R (f 329).toNat) sn sf) ∧ ∃ m A, TitleIs f m ∧ (∃ C, C = ctOf f n m R sn sf ∧ Cz W.heap.size w'.heap.size A C w') ∧ e = .returned (.tuple #[.pointer (some ⟨A.cb, 0, none⟩), .int .i64 0])))
theorem row_mp {k : Nat} {R : Rw} {b : Bool} (hr : RowIs k R b) : R.mapper = 0 ∨ R.mapper = 1 ∨ R.mapper = 2 ∨ R.mapper = 3 ∨ R.mapper = 5 := by
  rcases hr with ⟨_, hr, _⟩ | ⟨_, hr, _⟩
  · exact rowsT_mp R hr
  · subst hr; decide
theorem ctOf_ok {m sn : Nat} {R : Rw} {sf : Nat → Int} (s8 : ∀ k, 0 ≤ sf k ∧ sf k ≤ 255) (hs : 1 ≤ sn → SaveFits R (ramN R (f 329).toNat) sn sf) : (ctOf f n m R sn sf).Ok := by
  intro k
  show 0 ≤ (if k < sn then sf k else 0) ∧ (if k < sn then sf k else 0) ≤ ((Mp.new R.mapper).kp : Int)
  split
  · exact ⟨(s8 k).1, (hs (by omega)).2.2 k (by assumption)⟩
  · exact ⟨Int.le_refl 0, Int.natCast_nonneg _⟩
theorem newP_any {c sl sn sc : Nat} {sf : Nat → Int} (hS : 1 ≤ sn → By W sl sn sf) (hsc : sn ≤ sc) (hsm : sc ≤ maxLen) (s8 : ∀ k, 0 ≤ sf k ∧ sf k ≤ 255) (hT : Tb W) (h : By W g n f) (hn : 32768 ≤ n) (hn2 : n ≤ 2097152) (hc : n ≤ c) (hm : c ≤ 9223372036854775807) (h8 : ∀ k, 0 ≤ f k ∧ f k ≤ 255) : Calls Tryd.prog 15 #[.slice (some ⟨g, 0, none⟩) n c, .slice (some ⟨sl, 0, none⟩) sn sc] W (NewPAns W f n sn sf) := by
  by_cases h0 : sn = 0
  · subst h0
    refine (new_e (by unfold maxLen at hsm; omega) hT h hn hn2 hc hm h8).mono ?_
    rintro e w' ⟨R, b, mk, hr, hmk, u, hcs⟩
    refine ⟨R, b, mk, hr, hmk, u, ?_⟩
    rcases hcs with q | ⟨h1, m, A, ht, hc, a1, a2, a3, a4, he⟩
    · exact Or.inl q
    · refine Or.inr (Or.inr ⟨h1, fun h => absurd h (by decide), m, A, ht, ⟨_, rfl, Cz.of ⟨hc.congr (fun k _ => ?_), u, a1, a2, a3, a4⟩ (ctOf_ok s8 (fun h => absurd h (by decide))) (Mp.new_std (row_mp hr))⟩, he⟩)
      exact (if_neg (Nat.not_lt_zero k)).symm
  · refine (new_save (hS (by omega)) (by omega) hsc hsm s8 hT h hn hn2 hc hm h8).mono ?_
    rintro e w' ⟨R, b, mk, hr, hmk, u, hcs⟩
    refine ⟨R, b, mk, hr, hmk, u, ?_⟩
    rcases hcs with q | ⟨h1, h2, he⟩ | ⟨h1, h2, m, A, ht, hc, a1, a2, a3, a4, he⟩
    · exact Or.inl q
    · exact Or.inr (Or.inl ⟨h1, by omega, h2, he⟩)
    · refine Or.inr (Or.inr ⟨h1, fun _ => h2, m, A, ht, ⟨_, rfl, Cz.of ⟨hc.congr (rf := fun k => if k < sn then sf k else 0) (fun k hk => ?_), u, a1, a2, a3, a4⟩ (ctOf_ok s8 (fun _ => h2)) (Mp.new_std (row_mp hr))⟩, he⟩)
      have hk' : k < ramN R (f 329).toNat := hk
      have := h2.2.1
      exact (if_pos (show k < sn by omega)).symm
end Go.Proofs.YtojlappgmckokaaDoor
/- Cart: bytes that are lent, and come back. -/
namespace Go.Proofs.YtojlappgmckokaaDoor
open Go.Shelf Go.RowKit
set_option linter.unusedVariables false
set_option linter.unusedSimpArgs false
variable {w w' W : World} {g n : Nat} {f : Nat → Int}
def lentF (len : Nat) (f : Nat → Int) (k : Nat) : Int := if k < len then f k else 171
def lentTo (len : Nat) (f : Nat → Int) (m : Nat) (k : Nat) : Int := if k < len then f k else if k < m then 171 else 0
theorem lentTo_set (len : Nat) (f : Nat → Int) (m : Nat) (hm : len ≤ m) (k : Nat) : putF (lentTo len f m) m 1 (fun _ => 171) k = lentTo len f (m + 1) k := by
  unfold putF
  by_cases hk : m ≤ k ∧ k < m + 1
  · rw [if_pos hk]
    unfold lentTo
    rw [if_neg (by omega), if_pos (by omega)]
  · rw [if_neg hk]
    unfold lentTo
    repeat' split
    all_goals first | omega | rfl
theorem lentTo_0 (len : Nat) (f : Nat → Int) (k : Nat) : putF (fun _ => 0) 0 len f k = lentTo len f len k := by
  unfold putF lentTo
  repeat' split
  all_goals first | omega | rfl
theorem lentTo_F (len : Nat) (f : Nat → Int) (i k : Nat) (hk : k < len + 8) (hi : len + 8 ≤ i) : lentTo len f i k = lentF len f k := by
  unfold lentTo lentF
  repeat' split
  all_goals first | omega | rfl
set_option maxRecDepth 100000 in
set_option maxHeartbeats 1000000 in
theorem lent_any {cap : Nat} (h : By W g n f) (hn : n ≤ 4194304) (h1 : 1 ≤ n) (hc : n ≤ cap) (hm : cap ≤ 9223372036854775807) : Calls Tryd.prog 28 #[.slice (some ⟨g, 0, none⟩) n cap] W fun e w' => ∃ l, e = .returned (.slice (some ⟨l, 0, none⟩) (n + 8) (n + 8)) ∧ W.heap.size ≤ l ∧ By w' l (n + 8) (lentF n f) ∧ Up W w' := by
  have HB : Hid (∀ w, Up W w → By w g n f) := fun w u => h.up u
  clear h
  obtain ⟨M, hM⟩ : ∃ M : Nat, M = n + 8 := ⟨_, rfl⟩
  have HMe : Hid (M = n + 8) := hM
  have eM : (n : Int) + 8 = (M : Int) := by omega
  have hmk : ∀ w : World, (Instr.makeSlice 24 (.int .i64 (M : Int)) (.int .i64 (M : Int))).run Tryd.prog w = .ok (.slice (some ⟨w.heap.size, 0, none⟩) M M) (w.alloc (.cells (madeCells #[.int .u8 0] M) 5)) := fun w => mkB w M (by omega)
  have HM : Hid (By (W.alloc (.cells (madeCells #[.int .u8 0] M) 5)) W.heap.size M (fun _ => 0) ∧ Up W (W.alloc (.cells (madeCells #[.int .u8 0] M) 5))) := ⟨made_by W M _, (Up.refl W).alloc _⟩
  have HCp : Hid (∀ w, By w W.heap.size M (fun _ => 0) → Up W w → ∀ ty, (Builtin.copy_ #[24, 24] ty #[.slice (some ⟨W.heap.size, 0, none⟩) M M, .slice (some ⟨g, 0, none⟩) n cap]).run Tryd.prog w = .ok (goInt n) (w.setCells W.heap.size 0 (byL f n))) := fun w hb u ty => copy_run (k := n) hb (by omega) (by rw [hM]; exact (Nat.min_eq_left (by omega)).symm) (fun j hj => by rw [Addr.add_lit, Nat.zero_add]; exact (HB.out w u).cell j hj) M cap ty
  rw [← hM]
  clear hM
  go_enter Tryd.func28, Tryd.ntmps28
  go_wp2_with (refine wpList_copy_runI _ rfl _ _ 24 24 rfl _ _ rfl rfl (HCp.out _ HM.out.1 HM.out.2 _) ?_)
  have H2 : Hid (By ((W.alloc (.cells (madeCells #[.int .u8 0] M) 5)).setCells W.heap.size 0 (byL f n)) W.heap.size M (lentTo n f n) ∧ Up W ((W.alloc (.cells (madeCells #[.int .u8 0] M) 5)).setCells W.heap.size 0 (byL f n))) := ⟨(HM.out.1.setCells 0 n f (by have := HMe.out; omega)).congr (fun k _ => lentTo_0 n f k), Fr.up HM.out.2 (Nat.le_refl _) (fr_setCells _ _ _ _)⟩
  try simp only [Act.put, goInt, List.setIfInBounds_toArray, List.set_cons_zero, List.set_cons_succ]
  generalize World.setCells _ W.heap.size 0 (byL f n) = w2 at H2 ⊢
  generalize hg : W.heap.size = l at H2 ⊢
  have HG : Hid (W.heap.size ≤ l) := Nat.le_of_eq hg
  clear hg HM HCp hmk
  go_loopw [4] (fun I wr => ∃ i : Nat, n ≤ i ∧ i ≤ M ∧ I = .int .i64 (i : Int) ∧ Hid (By wr l M (lentTo n f i) ∧ Up W wr)) (fun I _ => M - (intOf I).toNat)
  case atStart => exact ⟨n, Nat.le_refl _, by have := HMe.out; omega, rfl, H2⟩
  case round =>
    clear H2
    obtain ⟨i, hi, hi2, rfl, M0⟩ := hrel
    by_cases hlt : i < M
    · have e1 : (i : Int) < (M : Int) := by omega
      have kc := M0.out.1.cell i hlt
      have kf := M0.out.1.fz i
      have HS : Hid (By (wr.setCell ⟨l, i, none⟩ (.int .u8 171)) l M (lentTo n f (i + 1)) ∧ Up W (wr.setCell ⟨l, i, none⟩ (.int .u8 171))) := ⟨(M0.out.1.set i hlt 171).congr (fun k _ => lentTo_set n f i hi k), M0.out.2.setCell HG.out _⟩
      clear M0
      go_wp2_with fail
      go_round
      case rel => exact ⟨i + 1, by omega, by omega, by go_num, HS⟩
      case measure => simp [intOf]; omega
    · have e1 : ¬ (i : Int) < (M : Int) := by omega
      have M1 : Hid (By wr l M (lentF n f) ∧ Up W wr) := ⟨M0.out.1.congr (fun k hk => lentTo_F n f i k (by have := HMe.out; omega) (by have := HMe.out; omega)), M0.out.2⟩
      clear M0
      go_wp2_with fail
      go_ret
      exact ⟨l, by first | rfl | (simp; done), HG.out, M1.out⟩
def backTo (h : Nat → Int) (i k : Nat) : Int := if k < i then 85 else h k
theorem backTo_set (h : Nat → Int) (i k : Nat) : putF (backTo h i) i 1 (fun _ => 85) k = backTo h (i + 1) k := by
  unfold putF
  by_cases hk : i ≤ k ∧ k < i + 1
  · rw [if_pos hk]
    unfold backTo
    rw [if_pos (by omega)]
  · rw [if_neg hk]
    unfold backTo
    repeat' split
    all_goals first | omega | rfl
set_option maxRecDepth 100000 in
set_option maxHeartbeats 1000000 in
/-- lent bytes are as they were; then they are written over -/
theorem back_any {cap l : Nat} (h : By W g n f) (hn : n ≤ 4194304) (h1 : 1 ≤ n) (hc : n ≤ cap) (hm : cap ≤ maxLen) (h8 : ∀ k, 0 ≤ f k ∧ f k ≤ 255) (hL : By W l (n + 8) (lentF n f)) (hg : g ≠ l) : Calls Tryd.prog 30 #[.slice (some ⟨l, 0, none⟩) (n + 8) (n + 8), .slice (some ⟨g, 0, none⟩) n cap] W fun e w' => e = .returned (.bool true) ∧ Fr l W w' := by
  obtain ⟨M, hM⟩ : ∃ M : Nat, M = n + 8 := ⟨_, rfl⟩
  have HMe : Hid (M = n + 8) := hM
  have eM : (n : Int) ≤ (M : Int) := by omega
  have c9 : cap ≤ 9223372036854775807 := by unfold maxLen at hm; omega
  have HSm : Hid (Calls Tryd.prog 21 #[.slice (some ⟨l, 0, none⟩) n M, .slice (some ⟨g, 0, none⟩) n cap] W fun e w' => e = .returned (.bool true) ∧ Up W w') := by
    have hl : By W l n (lentF n f) := by
      obtain ⟨cs, ty, q1, q2, q3⟩ := hL.row
      exact ⟨cs, ty, q1, by omega, fun k hk => q3 k (by omega)⟩
    refine same_yes (hl.byts (by omega) (by unfold maxLen; omega) (fun k => ?_)) (h.byts hc hm h8) (fun k hk => by unfold lentF; rw [if_pos hk])
    unfold lentF
    split
    · exact h8 k
    · decide
  have H0 : Hid (∀ w, Up W w → By w l M (backTo (lentF n f) 0) ∧ Fr l W w) := fun w u => ⟨by rw [hM]; exact (hL.up u).congr (fun k _ => by unfold backTo; rw [if_neg (by omega)]), Fr.ofUp u⟩
  rw [← hM]
  have m9 : M ≤ 9223372036854775807 := by omega
  clear h hL h8 hM
  go_enter Tryd.func30, Tryd.ntmps30
  go_wp2_with fail
  refine Calls.mono HSm.out ?_
  rintro e w2 ⟨rfl, u2⟩
  have H2 : Hid _ := H0.out w2 u2
  clear u2 H0 HSm
  go_wp2_with fail
  go_loopw [5, 6] (fun B I wr => ∃ i : Nat, i ≤ M ∧ B = .bool true ∧ I = .int .i64 (i : Int) ∧ Hid (By wr l M (backTo (lentF n f) i) ∧ Fr l W wr)) (fun _ I _ => M - (intOf I).toNat)
  case atStart => exact ⟨0, Nat.zero_le _, rfl, rfl, H2⟩
  case round =>
    clear H2
    obtain ⟨i, hi, rfl, rfl, M0⟩ := hrel
    by_cases hlt : i < M
    · have e1 : (i : Int) < (M : Int) := by omega
      have kc := M0.out.1.cell i hlt
      have kf := M0.out.1.fz i
      have HS : Hid (By (wr.setCell ⟨l, i, none⟩ (.int .u8 85)) l M (backTo (lentF n f) (i + 1)) ∧ Fr l W (wr.setCell ⟨l, i, none⟩ (.int .u8 85))) := ⟨(M0.out.1.set i hlt 85).congr (fun k _ => backTo_set _ i k), M0.out.2.setCell⟩
      have eb : backTo (lentF n f) i i = lentF n f i := by unfold backTo; rw [if_neg (by omega)]
      rw [eb] at kc
      by_cases hc' : i < n
      · have e4 : (i : Int) < (n : Int) := by omega
        clear M0 eb
        generalize lentF n f i = xx at kc
        go_wp2_with fail
        go_round
        case rel => exact ⟨i + 1, by omega, by first | rfl | (simp; done), by go_num, HS⟩
        case measure => simp [intOf]; omega
      · have e4 : ¬ (i : Int) < (n : Int) := by omega
        have ef : lentF n f i = 171 := if_neg hc'
        rw [ef] at kc
        clear M0 eb ef
        go_wp2_with fail
        go_round
        case rel => exact ⟨i + 1, by omega, by first | rfl | (simp; done), by go_num, HS⟩
        case measure => simp [intOf]; omega
    · have e1 : ¬ (i : Int) < (M : Int) := by omega
      go_wp2_with fail
      go_ret
      exact ⟨by first | rfl | (simp; done), M0.out.2⟩
end Go.Proofs.YtojlappgmckokaaDoor
