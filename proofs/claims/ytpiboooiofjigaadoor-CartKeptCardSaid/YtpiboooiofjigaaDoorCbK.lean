/- Cart: New, with a save. -/
import Derived.Test.YtpiboooiofjigaaDoorCbJ
import Derived.Deep.DeepCutAuto
namespace Go.Proofs.YtpiboooiofjigaaDoor
open Go.Shelf Go.RowKit
set_option linter.unusedVariables false
set_option linter.unusedSimpArgs false
variable {w w' W : World} {g n : Nat} {f : Nat → Int}
theorem fits_mp {cb rb rc rm mb n c ab ao : Nat} {v : Value} {m : Mp} {aa : Option Addr} {f : Nat → Int} {t : Bool} (k7 : W.cell? ⟨cb, 7, none⟩ = some (.slice (some ⟨rb, 0, none⟩) rm rc)) (k8 : W.cell? ⟨cb, 8, none⟩ = some v) (hm : MpAt W v m mb) (hL : Byts W aa ab ao n c f) (ht : t = true ↔ n = rm ∧ ∀ k, k < n → f k ≤ (m.kp : Int)) (hrm : rm ≤ 131072) : Calls Tryd.prog 42 #[.pointer (some ⟨cb, 0, none⟩), .slice aa n c] W fun e w' => e = .returned (.bool t) ∧ Up W w' := by
  rcases hm with ⟨hk, hv⟩ | ⟨hk, hv, hb⟩
  · rw [hv] at k8
    have e9 : m.kp = 255 := by unfold Mp.kp; rw [hk]; rfl
    rw [e9] at ht
    exact fits_0 k7 k8 hL ht hrm
  · rcases hk with hk | hk | hk | hk
    · have e9 : m.kp = 255 := by unfold Mp.kp; rw [hk]; rfl
      rw [hv, hk] at k8
      rw [e9] at ht
      exact fits_1 k7 k8 hL ht hrm
    · have e9 : m.kp = 15 := by unfold Mp.kp; rw [hk]; rfl
      rw [hv, hk] at k8
      rw [e9] at ht
      exact fits_2 k7 k8 hL ht hrm
    · have e9 : m.kp = 255 := by unfold Mp.kp; rw [hk]; rfl
      rw [hv, hk] at k8
      rw [e9] at ht
      exact fits_3 k7 k8 hL ht hrm
    · have e9 : m.kp = 255 := by unfold Mp.kp; rw [hk]; rfl
      rw [hv, hk] at k8
      rw [e9] at ht
      exact fits_5 k7 k8 hL ht hrm
set_option maxRecDepth 100000 in
theorem takesS_any {cb sg sn sc : Nat} {bt t : Bool} (k5 : W.cell? ⟨cb, 5, none⟩ = some (.bool bt)) (hn : 1 ≤ sn) (hn2 : sn ≤ 9223372036854775807) (HF : Hid (∀ w, Up W w → Calls Tryd.prog 42 #[.pointer (some ⟨cb, 0, none⟩), .slice (some ⟨sg, 0, none⟩) sn sc] w fun e w' => e = .returned (.bool t) ∧ Up w w')) : Calls Tryd.prog 38 #[.pointer (some ⟨cb, 0, none⟩), .slice (some ⟨sg, 0, none⟩) sn sc] W fun e w' => e = .returned (.bool (bt && t)) ∧ Up W w' := by
  have e0 : ¬ (sn : Int) = 0 := by omega
  have e1 : ((sn : Int) == 0) = false := by rw [beq_eq_false_iff_ne]; exact e0
  cases bt with
  | false =>
    go_enter Tryd.func38, Tryd.ntmps38
    go_wp2_with fail
    go_ret
    exact ⟨by first | rfl | (simp; done), by first | exact Up.refl _ | exact Up.drewN _ _⟩
  | true =>
    go_enter Tryd.func38, Tryd.ntmps38
    go_wp2_with fail
    refine (HF.out _ (by first | exact Up.refl _ | exact Up.drewN _ _ | exact (Up.refl _).drew)).mono ?_
    rintro e w5 ⟨rfl, u5⟩
    have HU5 : Hid (Up W w5) := by first | exact u5 | exact (Up.drewN _ _).trans u5 | exact ((Up.refl _).drew).trans u5
    clear u5
    go_wp2_with fail
    go_ret
    exact ⟨by first | rfl | (simp; done), HU5.out⟩
/-- may these bytes be the save of a cartridge of this row? -/
def SaveFits (R : Rw) (rn sn : Nat) (sf : Nat → Int) : Prop := R.bat = true ∧ sn = rn ∧ ∀ k, k < sn → sf k ≤ ((Mp.new R.mapper).kp : Int)
def NewSAns (W : World) (f : Nat → Int) (n sn : Nat) (sf : Nat → Int) (e : Ending) (w' : World) : Prop := ∃ R b mk, RowIs (f 327).toNat R b ∧ MarkIs f mk ∧ Up W w' ∧ ((faultI mk f R b n ≠ 0 ∧ e = .returned (.tuple #[.pointer none, .int .i64 (faultI mk f R b n)])) ∨ (faultI mk f R b n = 0 ∧ ¬ SaveFits R (ramN R (f 329).toNat) sn sf ∧ e = .returned (.tuple #[.pointer none, .int .i64 48])) ∨ (faultI mk f R b n = 0 ∧ SaveFits R (ramN R (f 329).toNat) sn sf ∧ ∃ m A, TitleIs f m ∧ CtAt w' A { ctNew f n m R (f 328).toNat (f 329).toNat with rf := sf } ∧ W.heap.size ≤ A.cb ∧ W.heap.size ≤ A.rg ∧ W.heap.size ≤ A.rb ∧ W.heap.size ≤ A.mb ∧ e = .returned (.tuple #[.pointer (some ⟨A.cb, 0, none⟩), .int .i64 0])))
set_option maxRecDepth 100000 in
set_option maxHeartbeats 2000000 in
theorem new_save {c sg sn sc : Nat} {sf : Nat → Int} (hS : By W sg sn sf) (hsn : 1 ≤ sn) (hsc : sn ≤ sc) (hsm : sc ≤ maxLen) (s8 : ∀ k, 0 ≤ sf k ∧ sf k ≤ 255) (hT : Tb W) (h : By W g n f) (hn : 32768 ≤ n) (hn2 : n ≤ 2097152) (hc : n ≤ c) (hm : c ≤ 9223372036854775807) (h8 : ∀ k, 0 ≤ f k ∧ f k ≤ 255) : Calls Tryd.prog 15 #[.slice (some ⟨g, 0, none⟩) n c, .slice (some ⟨sg, 0, none⟩) sn sc] W (NewSAns W f n sn sf) := by
  have HSv : Hid (By W sg sn sf ∧ (∀ k, 0 ≤ sf k ∧ sf k ≤ 255)) := ⟨hS, s8⟩
  have sc9 : sc ≤ 9223372036854775807 := by unfold maxLen at hsm; omega
  clear hS s8
  have HCk : Hid _ := check_any hT h hn hn2 hc hm h8
  have HB : Hid (By W g n f) := h
  clear hT h h8
  go_enter Tryd.func15, Tryd.ntmps15
  go_wp2_with fail
  refine Calls.mono HCk.out ?_
  rintro e w2 ⟨R, b, mk, hr, hk, u2, hcs⟩
  have HRw : Hid (RowIs (f 327).toNat R b ∧ MarkIs f mk ∧ Up W w2) := ⟨hr, hk, u2⟩
  clear HCk hr hk u2
  rcases hcs with ⟨hx, rfl⟩ | ⟨hx, m, ht, rfl⟩
  · have HX : Hid _ := hx
    obtain ⟨x, hxx⟩ : ∃ x, faultI mk f R b n = x := ⟨_, rfl⟩
    have hx0 : ¬ x = 0 := by rw [← hxx]; exact hx
    have HXX : Hid (faultI mk f R b n = x) := hxx
    rw [hxx]
    unfold zHead
    clear hx hxx HX
    go_wp2_with fail
    go_ret2
    exact ⟨R, b, mk, HRw.out.1, HRw.out.2.1, HRw.out.2.2.alloc _, Or.inl ⟨by rw [HXX.out]; exact hx0, by rw [HXX.out]; first | rfl | (simp; done)⟩⟩
  · obtain ⟨c8, hc8⟩ : ∃ c8, (f 328).toNat = c8 := ⟨_, rfl⟩
    obtain ⟨c9, hc9⟩ : ∃ c9, (f 329).toNat = c9 := ⟨_, rfl⟩
    rw [hc8, hc9]
    have HF : Hid (faultI mk f R b n = 0 ∧ TitleIs f m ∧ (f 328).toNat = c8 ∧ (f 329).toNat = c9) := ⟨hx, ht, hc8, hc9⟩
    clear hx ht hc8 hc9
    have hmp : R.mapper = 0 ∨ R.mapper = 1 ∨ R.mapper = 2 ∨ R.mapper = 3 ∨ R.mapper = 5 := by
      rcases HRw.out.1 with ⟨_, hr, _⟩ | ⟨_, hr, _⟩
      · exact rowsT_mp R hr
      · subst hr; decide
    have hrn : ramN R c9 ≤ 131072 := ramN_le R c9
    have HSf : Hid (SaveFits R (ramN R c9) sn sf ↔ R.bat = true ∧ sn = ramN R c9 ∧ ∀ k, k < sn → sf k ≤ ((Mp.new R.mapper).kp : Int)) := Iff.rfl
    have HCt : Hid (ctNew f n m R c8 c9 = ⟨strF f 308 m, R.kind, R.mapper, 2 * 2 ^ c8, ramN R c9, R.bat, n, f, fun _ => 0, Mp.new R.mapper⟩) := rfl
    unfold headC
    dsimp only
    have HMO : Hid (∀ w, Calls Tryd.prog 37 #[.int .i64 (R.mapper : Int)] w fun e w' => ∃ v, e = .returned v ∧ MpAt w' v (Mp.new R.mapper) w.heap.size ∧ Up w w' ∧ v.oneCell' = true) := fun w => mapperOf_any hmp
    have hmk : ∀ w : World, (Instr.makeSlice 24 (.int .i64 (ramN R c9 : Int)) (.int .i64 (ramN R c9 : Int))).run Tryd.prog w = .ok (.slice (some ⟨w.heap.size, 0, none⟩) (ramN R c9) (ramN R c9)) (w.alloc (.cells (madeCells #[.int .u8 0] (ramN R c9)) 5)) := fun w => mkB w _ (by omega)
    generalize strF f 308 m = T at HCt ⊢
    generalize R.kind = KD at HCt ⊢
    generalize R.mapper = MN at HCt HMO hmp HSf ⊢
    generalize 2 * 2 ^ c8 = BK at HCt ⊢
    generalize hRN : ramN R c9 = RN at HCt hrn hmk HSf ⊢
    have HRN : Hid (ramN R c9 = RN) := hRN
    clear hRN
    generalize R.bat = BT at HCt HSf ⊢
    go_upto_region 4 with fail
    have HU3 : Hid (Up W (w2.alloc (Obj.cells #[.string T, .int .i64 (KD : Int), .int .i64 (MN : Int), .int .i64 (BK : Int), .int .i64 (RN : Int), .bool BT] 30))) := HRw.out.2.2.alloc _
    have HB3 : Hid ((w2.alloc (Obj.cells #[.string T, .int .i64 (KD : Int), .int .i64 (MN : Int), .int .i64 (BK : Int), .int .i64 (RN : Int), .bool BT] 30)).heap[w2.heap.size]? = some (.cells #[.string T, .int .i64 (KD : Int), .int .i64 (MN : Int), .int .i64 (BK : Int), .int .i64 (RN : Int), .bool BT] 30 (0, 0))) := heap_alloc_new w2 _
    generalize World.alloc w2 _ = w3 at HU3 HB3 ⊢
    generalize w2.heap.size = hb at HB3 ⊢
    have hh3 := heap_at HB3.out
    have HSw : Hid (∀ w, Up w3 w → w.rangeAt hb 0 [.string T, .int .i64 (KD : Int), .int .i64 (MN : Int), .int .i64 (BK : Int), .int .i64 (RN : Int), .bool BT] ∧ w.cell? ⟨hb, 4, none⟩ = some (.int .i64 (RN : Int)) ∧ w.cell? ⟨hb, 2, none⟩ = some (.int .i64 (MN : Int))) := fun w u => ⟨range_up u (range_heap HB3.out), cell_up u (heap_cell HB3.out rfl), cell_up u (heap_cell HB3.out rfl)⟩
    go_cut [8] (fun X wy => ∃ (cb rb mb : Nat) (t : TypeId) (pv : Value), X = .pointer (some ⟨cb, 0, none⟩) ∧ Hid (wy.heap[cb]? = some (.cells #[.string T, .int .i64 (KD : Int), .int .i64 (MN : Int), .int .i64 (BK : Int), .int .i64 (RN : Int), .bool BT, .slice none 0 0, .slice (some ⟨rb, 0, none⟩) RN RN, .iface t pv] 81 (0, 0)) ∧ By wy rb RN (fun _ => 0) ∧ MpAt wy (.iface t pv) (Mp.new MN) mb ∧ Up w3 wy ∧ w3.heap.size ≤ cb ∧ w3.heap.size ≤ rb ∧ w3.heap.size ≤ mb ∧ cb ≠ rb ∧ cb ≠ mb ∧ rb ≠ mb ∧ (MN = 0 ∨ mb < wy.heap.size)))
    case first =>
      refine wp_region_held_drew (S := fun w => w.rangeAt hb 0 [.string T, .int .i64 (KD : Int), .int .i64 (MN : Int), .int .i64 (BK : Int), .int .i64 (RN : Int), .bool BT] ∧ w.cell? ⟨hb, 4, none⟩ = some (.int .i64 (RN : Int)) ∧ w.cell? ⟨hb, 2, none⟩ = some (.int .i64 (MN : Int))) (by kernel_rfl) ?_ (fun hHeld => ?_)
      · exact HSw.out _ (Up.refl w3).drew
      have u6 : Up w3 w3.drew := (Up.refl w3).drew
      generalize World.drew w3 = wd at u6 hHeld ⊢
      refine wpAnyH_take (i := 0) (v := .agg [.string T, .int .i64 (KD : Int), .int .i64 (MN : Int), .int .i64 (BK : Int), .int .i64 (RN : Int), .bool BT].toArray) (by simp only [List.getElem?_toArray, List.getElem?_cons_zero]; rfl) (by kernel_rfl) (by kernel_rfl) (by kernel_rfl) (by intro _ _ _ h; exact h) (yieldsIf_load_mid (by rfl) 30 _ rfl hb 0 rfl [.string T, .int .i64 (KD : Int), .int .i64 (MN : Int), .int .i64 (BK : Int), .int .i64 (RN : Int), .bool BT] _ (fun w hw => hw.1) Tryd.underlying30 rfl (by kernel_rfl)) (by assumption) ?_
      simp only [Act.put, List.setIfInBounds_toArray, List.set_cons_zero, List.set_cons_succ]
      refine wpAnyH_take (i := 1) (v := ?_) (by simp only [List.getElem?_toArray, List.getElem?_cons_succ, List.getElem?_cons_zero]; rfl) (by kernel_rfl) (by kernel_rfl) (by kernel_rfl) (by intro _ _ _ h; exact h) (Or.inl ⟨by rfl, ?_⟩) (by assumption) ?_
      rotate_left
      · (intro w hSw; (try dsimp only at hSw); go_simp <;> with_reducible rfl)
      try simp only [Act.put, List.setIfInBounds_toArray, List.set_cons_zero, List.set_cons_succ]
      refine wpAnyH_take (i := 2) (v := ?_) (by simp only [List.getElem?_toArray, List.getElem?_cons_succ, List.getElem?_cons_zero]; rfl) (by kernel_rfl) (by kernel_rfl) (by kernel_rfl) (by intro _ _ _ h; exact h) (Or.inl ⟨by rfl, ?_⟩) (by assumption) ?_
      rotate_left
      · (intro w hSw; (try dsimp only at hSw); go_simp <;> with_reducible rfl)
      try simp only [Act.put, List.setIfInBounds_toArray, List.set_cons_zero, List.set_cons_succ]
      refine wpAnyH_take (i := 4) (v := ?_) (by simp only [List.getElem?_toArray, List.getElem?_cons_succ, List.getElem?_cons_zero]; rfl) (by kernel_rfl) (by kernel_rfl) (by kernel_rfl) (by intro _ _ _ h; exact h) (Or.inl ⟨by rfl, ?_⟩) (by assumption) ?_
      rotate_left
      · (intro w hSw; (try dsimp only at hSw); go_simp <;> with_reducible rfl)
      try simp only [Act.put, List.setIfInBounds_toArray, List.set_cons_zero, List.set_cons_succ]
      refine wpAnyH_take (i := 5) (v := ?_) (by simp only [List.getElem?_toArray, List.getElem?_cons_succ, List.getElem?_cons_zero]; rfl) (by kernel_rfl) (by kernel_rfl) (by kernel_rfl) (by intro _ _ _ h; exact h) (Or.inl ⟨by rfl, ?_⟩) (by assumption) ?_
      rotate_left
      · (intro w hSw; (try dsimp only at hSw); go_simp <;> with_reducible rfl)
      try simp only [Act.put, List.setIfInBounds_toArray, List.set_cons_zero, List.set_cons_succ]
      refine wpAnyH_ready (rs := [3, 6]) (by kernel_rfl) (by simp) ?_
      refine AllReadyH.cons (by simp only [List.getElem?_toArray, List.getElem?_cons_succ, List.getElem?_cons_zero]; rfl) (fun KK hK => ?_) (AllReadyH.cons (by simp only [List.getElem?_toArray, List.getElem?_cons_succ, List.getElem?_cons_zero]; rfl) (fun KK hK => ?_) AllReadyH.nil)
      · go_simp
        have ua : Up w3 (wd.alloc (Obj.cells (madeCells #[.int .u8 0] RN) 5)) := u6.alloc _
        have hby := made_by wd RN 5
        have HA : Hid (Up w3 (wd.alloc (Obj.cells (madeCells #[.int .u8 0] RN) 5)) ∧ By (wd.alloc (Obj.cells (madeCells #[.int .u8 0] RN) 5)) wd.heap.size RN (fun _ => 0)) := ⟨ua, hby⟩
        clear ua hby
        generalize World.alloc wd _ = wa at HA ⊢
        generalize hrbe : wd.heap.size = rb at HA ⊢
        refine hK.out _ _ (HSw.out _ HA.out.1) (fun hHeld => ?_)
        clear hK KK
        try simp only [Act.put, List.setIfInBounds_toArray, List.set_cons_zero, List.set_cons_succ]
        refine wpAnyH_ready (rs := [6]) (by kernel_rfl) (by simp) ?_
        refine AllReadyH.cons (by simp only [List.getElem?_toArray, List.getElem?_cons_succ, List.getElem?_cons_zero]; rfl) (fun KK hK => ?_) AllReadyH.nil
        go_simp
        refine (HMO.out _).mono ?_
        rintro e w5 ⟨v, rfl, hmp5, u5, _⟩
        obtain ⟨t, pv, rfl⟩ := mp_iface hmp5
        have H5 : Hid (Up w3 w5 ∧ By w5 rb RN (fun _ => 0) ∧ MpAt w5 (.iface t pv) (Mp.new MN) wa.heap.size ∧ (w3.heap.size ≤ wa.heap.size ∧ (wa.heap.size ≠ rb ∨ MN = 0)) ∧ rb < w5.heap.size ∧ w3.heap.size ≤ rb) := ⟨HA.out.1.trans u5, HA.out.2.up u5, hmp5, ⟨HA.out.1.size, Or.inl (Nat.ne_of_gt HA.out.2.lt)⟩, Nat.lt_of_lt_of_le HA.out.2.lt u5.size, by have := u6.size; omega⟩
        clear hmp5 u5 HA
        refine hK.out _ _ (HSw.out _ H5.out.1) (fun hHeld => ?_)
        clear hK KK
        try simp only [Act.put, List.setIfInBounds_toArray, List.set_cons_zero, List.set_cons_succ]
        refine wpAnyH_take (i := 7) (v := ?_) (by simp only [List.getElem?_toArray, List.getElem?_cons_succ, List.getElem?_cons_zero]; rfl) (by kernel_rfl) (by kernel_rfl) (by kernel_rfl) (by intro _ _ _ h; exact h) (Or.inl ⟨by rfl, ?_⟩) (by assumption) ?_
        rotate_left
        · (intro w hSw; (try dsimp only at hSw); go_simp <;> with_reducible rfl)
        try simp only [Act.put, List.setIfInBounds_toArray, List.set_cons_zero, List.set_cons_succ]
        refine wpAnyH_ready (rs := [8]) (by kernel_rfl) (by simp) ?_
        refine AllReadyH.cons (by simp only [List.getElem?_toArray, List.getElem?_cons_succ, List.getElem?_cons_zero]; rfl) (fun KK hK => ?_) AllReadyH.nil
        rw [if_pos (by rfl)]
        go_simp
        have hbx : (w5.alloc (Obj.cells #[.string T, .int .i64 (KD : Int), .int .i64 (MN : Int), .int .i64 (BK : Int), .int .i64 (RN : Int), .bool BT, .slice none 0 0, .slice (some ⟨rb, 0, none⟩) RN RN, .iface t pv] 81)).heap[w5.heap.size]? = some (.cells #[.string T, .int .i64 (KD : Int), .int .i64 (MN : Int), .int .i64 (BK : Int), .int .i64 (RN : Int), .bool BT, .slice none 0 0, .slice (some ⟨rb, 0, none⟩) RN RN, .iface t pv] 81 (0, 0)) := heap_alloc_new w5 _
        have ux : Up w5 (w5.alloc (Obj.cells #[.string T, .int .i64 (KD : Int), .int .i64 (MN : Int), .int .i64 (BK : Int), .int .i64 (RN : Int), .bool BT, .slice none 0 0, .slice (some ⟨rb, 0, none⟩) RN RN, .iface t pv] 81)) := (Up.refl w5).alloc _
        have hsx : (w5.alloc (Obj.cells #[.string T, .int .i64 (KD : Int), .int .i64 (MN : Int), .int .i64 (BK : Int), .int .i64 (RN : Int), .bool BT, .slice none 0 0, .slice (some ⟨rb, 0, none⟩) RN RN, .iface t pv] 81)).heap.size = w5.heap.size + 1 := by simp
        refine hK.out _ _ (HSw.out _ (H5.out.1.trans ux)) (fun hHeld => ?_)
        clear hK KK
        try simp only [Act.put, List.setIfInBounds_toArray, List.set_cons_zero, List.set_cons_succ]
        refine wpAnyH_take (i := 9) (v := ?_) (by simp only [List.getElem?_toArray, List.getElem?_cons_succ, List.getElem?_cons_zero]; rfl) (by kernel_rfl) (by kernel_rfl) (by kernel_rfl) (by intro _ _ _ h; exact h) (Or.inl ⟨by rfl, ?_⟩) (by assumption) ?_
        rotate_left
        · (intro w hSw; (try dsimp only at hSw); go_simp <;> with_reducible rfl)
        try simp only [Act.put, List.setIfInBounds_toArray, List.set_cons_zero, List.set_cons_succ]
        refine wpAnyH_done (by kernel_rfl) ?_ _
        first | go_meet | (go_wp2_with fail; go_meet)
        obtain ⟨z1, z2, z3, z4, z5, z6⟩ := H5.out
        obtain ⟨mb, y1, y2, y3, y4, y5⟩ := mp_pick (c := w5.heap.size) (r := rb) (lo := w3.heap.size) z3 z4.1 (by omega) (by omega) rfl z4.2
        exact ⟨w5.heap.size, rb, mb, t, pv, rfl, hbx, z2.up ux, y1.up ux, z1.trans ux, by have := z1.size; omega, z6, y2, by omega, by omega, by omega, y5.imp id (fun h => by omega)⟩
      · go_simp
        refine (HMO.out _).mono ?_
        rintro e w4 ⟨v, rfl, hmp5, u4, _⟩
        obtain ⟨t, pv, rfl⟩ := mp_iface hmp5
        have H4 : Hid (Up w3 w4 ∧ MpAt w4 (.iface t pv) (Mp.new MN) wd.heap.size ∧ wd.heap.size ≤ w4.heap.size) := ⟨u6.trans u4, hmp5, u4.size⟩
        clear hmp5 u4
        refine hK.out _ _ (HSw.out _ H4.out.1) (fun hHeld => ?_)
        clear hK KK
        try simp only [Act.put, List.setIfInBounds_toArray, List.set_cons_zero, List.set_cons_succ]
        refine wpAnyH_ready (rs := [3]) (by kernel_rfl) (by simp) ?_
        refine AllReadyH.cons (by simp only [List.getElem?_toArray, List.getElem?_cons_succ, List.getElem?_cons_zero]; rfl) (fun KK hK => ?_) AllReadyH.nil
        go_simp
        have ua : Up w4 (w4.alloc (Obj.cells (madeCells #[.int .u8 0] RN) 5)) := (Up.refl w4).alloc _
        have hsz : (w4.alloc (Obj.cells (madeCells #[.int .u8 0] RN) 5)).heap.size = w4.heap.size + 1 := by simp
        have hby := made_by w4 RN 5
        have H5 : Hid (Up w3 (w4.alloc (Obj.cells (madeCells #[.int .u8 0] RN) 5)) ∧ By (w4.alloc (Obj.cells (madeCells #[.int .u8 0] RN) 5)) w4.heap.size RN (fun _ => 0) ∧ MpAt (w4.alloc (Obj.cells (madeCells #[.int .u8 0] RN) 5)) (.iface t pv) (Mp.new MN) wd.heap.size ∧ (w3.heap.size ≤ wd.heap.size ∧ (wd.heap.size ≠ w4.heap.size ∨ MN = 0)) ∧ w4.heap.size < (w4.alloc (Obj.cells (madeCells #[.int .u8 0] RN) 5)).heap.size ∧ w3.heap.size ≤ w4.heap.size) := ⟨H4.out.1.trans ua, hby, H4.out.2.1.up ua, ⟨u6.size, mp_ne H4.out.2.1⟩, by omega, H4.out.1.size⟩
        clear ua hby hsz
        generalize World.alloc w4 _ = w5 at H5 ⊢
        generalize hrbe : w4.heap.size = rb at H5 ⊢
        refine hK.out _ _ (HSw.out _ H5.out.1) (fun hHeld => ?_)
        clear hK KK
        try simp only [Act.put, List.setIfInBounds_toArray, List.set_cons_zero, List.set_cons_succ]
        refine wpAnyH_take (i := 7) (v := ?_) (by simp only [List.getElem?_toArray, List.getElem?_cons_succ, List.getElem?_cons_zero]; rfl) (by kernel_rfl) (by kernel_rfl) (by kernel_rfl) (by intro _ _ _ h; exact h) (Or.inl ⟨by rfl, ?_⟩) (by assumption) ?_
        rotate_left
        · (intro w hSw; (try dsimp only at hSw); go_simp <;> with_reducible rfl)
        try simp only [Act.put, List.setIfInBounds_toArray, List.set_cons_zero, List.set_cons_succ]
        refine wpAnyH_ready (rs := [8]) (by kernel_rfl) (by simp) ?_
        refine AllReadyH.cons (by simp only [List.getElem?_toArray, List.getElem?_cons_succ, List.getElem?_cons_zero]; rfl) (fun KK hK => ?_) AllReadyH.nil
        rw [if_pos (by rfl)]
        go_simp
        have hbx : (w5.alloc (Obj.cells #[.string T, .int .i64 (KD : Int), .int .i64 (MN : Int), .int .i64 (BK : Int), .int .i64 (RN : Int), .bool BT, .slice none 0 0, .slice (some ⟨rb, 0, none⟩) RN RN, .iface t pv] 81)).heap[w5.heap.size]? = some (.cells #[.string T, .int .i64 (KD : Int), .int .i64 (MN : Int), .int .i64 (BK : Int), .int .i64 (RN : Int), .bool BT, .slice none 0 0, .slice (some ⟨rb, 0, none⟩) RN RN, .iface t pv] 81 (0, 0)) := heap_alloc_new w5 _
        have ux : Up w5 (w5.alloc (Obj.cells #[.string T, .int .i64 (KD : Int), .int .i64 (MN : Int), .int .i64 (BK : Int), .int .i64 (RN : Int), .bool BT, .slice none 0 0, .slice (some ⟨rb, 0, none⟩) RN RN, .iface t pv] 81)) := (Up.refl w5).alloc _
        have hsx : (w5.alloc (Obj.cells #[.string T, .int .i64 (KD : Int), .int .i64 (MN : Int), .int .i64 (BK : Int), .int .i64 (RN : Int), .bool BT, .slice none 0 0, .slice (some ⟨rb, 0, none⟩) RN RN, .iface t pv] 81)).heap.size = w5.heap.size + 1 := by simp
        refine hK.out _ _ (HSw.out _ (H5.out.1.trans ux)) (fun hHeld => ?_)
        clear hK KK
        try simp only [Act.put, List.setIfInBounds_toArray, List.set_cons_zero, List.set_cons_succ]
        refine wpAnyH_take (i := 9) (v := ?_) (by simp only [List.getElem?_toArray, List.getElem?_cons_succ, List.getElem?_cons_zero]; rfl) (by kernel_rfl) (by kernel_rfl) (by kernel_rfl) (by intro _ _ _ h; exact h) (Or.inl ⟨by rfl, ?_⟩) (by assumption) ?_
        rotate_left
        · (intro w hSw; (try dsimp only at hSw); go_simp <;> with_reducible rfl)
        try simp only [Act.put, List.setIfInBounds_toArray, List.set_cons_zero, List.set_cons_succ]
        refine wpAnyH_done (by kernel_rfl) ?_ _
        first | go_meet | (go_wp2_with fail; go_meet)
        obtain ⟨z1, z2, z3, z4, z5, z6⟩ := H5.out
        obtain ⟨mb, y1, y2, y3, y4, y5⟩ := mp_pick (c := w5.heap.size) (r := rb) (lo := w3.heap.size) z3 z4.1 (by omega) (by omega) rfl z4.2
        exact ⟨w5.heap.size, rb, mb, t, pv, rfl, hbx, z2.up ux, y1.up ux, z1.trans ux, by have := z1.size; omega, z6, y2, by omega, by omega, by omega, y5.imp id (fun h => by omega)⟩
    case rest =>
    obtain ⟨cb, rb, mb, t, pv, rfl, HY⟩ := hcut
    generalize wc = w5 at HY ⊢
    obtain ⟨t7, ht7⟩ : ∃ t7 : Bool, t7 = true ↔ sn = RN ∧ ∀ k, k < sn → sf k ≤ ((Mp.new MN).kp : Int) := by
      by_cases q : sn = RN ∧ ∀ k, k < sn → sf k ≤ ((Mp.new MN).kp : Int)
      · exact ⟨true, fun _ => q, fun _ => rfl⟩
      · exact ⟨false, (fun h => (by cases h)), fun h => absurd h q⟩
    have HT7 : Hid (t7 = true ↔ sn = RN ∧ ∀ k, k < sn → sf k ≤ ((Mp.new MN).kp : Int)) := ht7
    have HUw5 : Hid (Up W w5) := HU3.out.trans HY.out.2.2.2.1
    have HTk : Hid (Calls Tryd.prog 38 #[.pointer (some ⟨cb, 0, none⟩), .slice (some ⟨sg, 0, none⟩) sn sc] w5 fun e w' => e = .returned (.bool (BT && t7)) ∧ Up w5 w') := takesS_any (heap_cell HY.out.1 rfl) hsn (by omega) (fun w u => fits_mp (t := t7) (rc := RN) (heap_cell ((u.block cb (heap_at HY.out.1)).trans HY.out.1) rfl) (heap_cell ((u.block cb (heap_at HY.out.1)).trans HY.out.1) rfl) (HY.out.2.2.1.up u) ((HSv.out.1.up (HUw5.out.trans u)).byts hsc hsm HSv.out.2) HT7.out hrn)
    clear ht7
    obtain ⟨T7, hT7⟩ : ∃ T7, T7 = (BT && t7) := ⟨_, rfl⟩
    rw [← hT7] at HTk
    have HTT : Hid (T7 = (BT && t7)) := hT7
    clear hT7
    go_wp2_with fail
    refine Calls.mono HTk.out ?_
    rintro e w6 ⟨rfl, u6⟩
    have H6 : Hid (Up w5 w6) := u6
    clear u6 HTk
    cases T7 with
    | false =>
      have HNo : Hid (¬ SaveFits R RN sn sf) := fun hq => by
        have h1 := HSf.out.1 hq
        have h2 := HT7.out.2 h1.2
        have h3 := HTT.out
        rw [h1.1, h2] at h3
        cases h3
      go_wp2_with fail
      go_ret2
      refine ⟨R, b, mk, HRw.out.1, HRw.out.2.1, HUw5.out.trans H6.out, Or.inr (Or.inl ⟨HF.out.1, ?_, by first | rfl | (simp; done)⟩)⟩
      rw [HF.out.2.2.2, HRN.out]
      exact HNo.out
    | true =>
    have HYes : Hid (SaveFits R RN sn sf) := by
      have h3 := HTT.out.symm
      rw [Bool.and_eq_true] at h3
      exact HSf.out.2 ⟨h3.1, HT7.out.1 h3.2⟩
    go_wp2_with fail
    have uW6 : Up W w6 := HU3.out.trans (HY.out.2.2.2.1.trans H6.out)
    have HCl : Hid _ := cloneB_any (cap := c) (o := 0) (g := g) (n := n) (f := f) (W := w6) (by omega) (fun k hk => by rw [Nat.zero_add]; exact (HB.out.up uW6).cell k hk)
    clear uW6
    refine Calls.mono HCl.out ?_
    rintro e w7 ⟨rg, rcap, rfl, hg1, hg2, hg3, hg4, u7⟩
    have H7 : Hid (w6.heap.size ≤ rg ∧ By w7 rg n f ∧ n ≤ rcap ∧ rcap ≤ maxLen ∧ Up w5 w7) := ⟨hg1, hg2, hg3, hg4, H6.out.trans u7⟩
    have hb7 : w7.heap[cb]? = some (.cells #[.string T, .int .i64 (KD : Int), .int .i64 (MN : Int), .int .i64 (BK : Int), .int .i64 (RN : Int), .bool BT, .slice none 0 0, .slice (some ⟨rb, 0, none⟩) RN RN, .iface t pv] 81 (0, 0)) := ((H6.out.trans u7).block cb (heap_at HY.out.1)).trans HY.out.1
    have HB7 : Hid _ := hb7
    have k6 : w7.cell? ⟨cb, 6, none⟩ = some (.slice none 0 0) := heap_cell HB7.out rfl
    have k7 : w7.cell? ⟨cb, 7, none⟩ = some (.slice (some ⟨rb, 0, none⟩) RN RN) := heap_cell HB7.out rfl
    have kf : ∀ k, w7.frozen? ⟨cb, k, none⟩ = false := fun k => heap_fz HB7.out
    clear hg1 hg2 hg3 hg4 u7 hb7 HCl
    have fr : Fr cb w7 (w7.setCell ⟨cb, 6, none⟩ (.slice (some ⟨rg, 0, none⟩) n rcap)) := (Fr.refl cb w7).setCell
    have HSn : Hid (sn = RN) := HYes.out.2.1
    have HCp : Hid (∀ ty, (Builtin.copy_ #[24, 24] ty #[.slice (some ⟨rb, 0, none⟩) RN RN, .slice (some ⟨sg, 0, none⟩) sn sc]).run Tryd.prog (w7.setCell ⟨cb, 6, none⟩ (.slice (some ⟨rg, 0, none⟩) n rcap)) = .ok (goInt RN) ((w7.setCell ⟨cb, 6, none⟩ (.slice (some ⟨rg, 0, none⟩) n rcap)).setCells rb 0 (byL sf RN))) := fun ty => by
      obtain ⟨y1, y2, y3, y4, y5, y6, y7, y8, y9, y10, y11⟩ := HY.out
      have b7 := (y2.up H7.out.2.2.2.2).of_block (fr.block rb (y2.up H7.out.2.2.2.2).lt (fun e => y8 e.symm))
      have us : By w7 sg sn sf := HSv.out.1.up (HUw5.out.trans H7.out.2.2.2.2)
      have hsl := HSv.out.1.lt
      have s7 := us.of_block (fr.block sg us.lt (by have := HU3.out.size; omega))
      exact copy_run (k := RN) b7 (by omega) (by rw [HSn.out]; exact (Nat.min_self _).symm) (fun j hj => by rw [Addr.add_lit, Nat.zero_add]; exact s7.cell j (by have := HSn.out; omega)) RN sc ty
    go_wp2_with (refine wpList_copy_runI _ rfl _ _ 24 24 rfl _ _ rfl rfl (HCp.out _) ?_)
    go_ret2
    have hb8 : (w7.setCell ⟨cb, 6, none⟩ (.slice (some ⟨rg, 0, none⟩) n rcap)).heap[cb]? = some (.cells #[.string T, .int .i64 (KD : Int), .int .i64 (MN : Int), .int .i64 (BK : Int), .int .i64 (RN : Int), .bool BT, .slice (some ⟨rg, 0, none⟩) n rcap, .slice (some ⟨rb, 0, none⟩) RN RN, .iface t pv] 81 (0, 0)) := heap_setCell_same w7 cb 6 _ _ _ HB7.out
    obtain ⟨y1, y2, y3, y4, y5, y6, y7, y8, y9, y10, y11⟩ := HY.out
    obtain ⟨x1, x2, x3, x4, x5⟩ := H7.out
    have hcbl := heap_at y1
    have hrbl := y2.lt
    have s56 := H6.out.size
    have sW3 := HU3.out.size
    have mx : rcap ≤ 9223372036854775807 := by unfold maxLen at x4; omega
    obtain ⟨mb2, v1, v2, v3, v4, v5⟩ : ∃ mb2, MpAt w7 (.iface t pv) (Mp.new MN) mb2 ∧ w3.heap.size ≤ mb2 ∧ mb2 ≠ cb ∧ mb2 ≠ rb ∧ mb2 ≠ rg := by
      by_cases hk : MN = 0
      · subst hk
        rcases y3 with ⟨h1, h2⟩ | ⟨h1, _⟩
        · exact ⟨cb + rb + rg + w3.heap.size + 1, Or.inl ⟨h1, h2⟩, by omega, by omega, by omega, by omega⟩
        · exact absurd h1 (by decide)
      · have : mb < w5.heap.size := y11.resolve_left hk
        exact ⟨mb, y3.up x5, y7, fun e => y9 e.symm, fun e => y10 e.symm, by omega⟩
    have hU0 : Up W (w7.setCell ⟨cb, 6, none⟩ (.slice (some ⟨rg, 0, none⟩) n rcap)) := Fr.up (HU3.out.trans (y4.trans x5)) (by omega) fr
    have f2 := fr_setCells rb (byL sf RN) 0 (w7.setCell ⟨cb, 6, none⟩ (.slice (some ⟨rg, 0, none⟩) n rcap))
    have hU : Up W ((w7.setCell ⟨cb, 6, none⟩ (.slice (some ⟨rg, 0, none⟩) n rcap)).setCells rb 0 (byL sf RN)) := Fr.up hU0 (by omega) f2
    have b8 := (y2.up x5).of_block (fr.block rb (y2.up x5).lt (fun e => y8 e.symm))
    have b9 : By ((w7.setCell ⟨cb, 6, none⟩ (.slice (some ⟨rg, 0, none⟩) n rcap)).setCells rb 0 (byL sf RN)) rb RN sf := (b8.setCells 0 RN sf (by omega)).congr (fun k hk => by rw [putF_in _ _ (Nat.zero_le k) (by omega), Nat.sub_zero])
    refine ⟨R, b, mk, HRw.out.1, HRw.out.2.1, hU, Or.inr (Or.inr ⟨HF.out.1, ?_, m, ⟨cb, rg, rcap, rb, RN, mb2, .iface t pv⟩, HF.out.2.1, ?_, by show W.heap.size ≤ cb; omega, by show W.heap.size ≤ rg; omega, by show W.heap.size ≤ rb; omega, by show W.heap.size ≤ mb2; omega, by first | rfl | (simp; done)⟩)⟩
    · rw [HF.out.2.2.2, HRN.out]
      exact HYes.out
    rw [HF.out.2.2.1, HF.out.2.2.2, HCt.out]
    have x28 := x2.of_block (fr.block rg x2.lt (by omega))
    refine ⟨(f2.block cb (heap_at hb8) y8).trans hb8, x28.of_block (f2.block rg x28.lt (by omega)), b9, (v1.fr fr v3).fr f2 v4, Mp.new_in hmp, hn, hn2, ⟨x3, mx⟩, ⟨Nat.le_refl _, by show RN ≤ 9223372036854775807; omega⟩, hrn, by show cb ≠ rg; omega, y8, fun e => v3 e.symm, by show rg ≠ rb; omega, fun e => v5 e.symm, fun e => v4 e.symm⟩
end Go.Proofs.YtpiboooiofjigaaDoor
