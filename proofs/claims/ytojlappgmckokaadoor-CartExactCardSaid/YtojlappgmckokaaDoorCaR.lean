/- Cart: New, without a save. -/
import Derived.Test.YtojlappgmckokaaDoorCaQ
import Derived.Deep.DeepCutAuto
namespace Go.Proofs.YtojlappgmckokaaDoor
open Go.Shelf Go.RowKit
set_option linter.unusedVariables false
set_option linter.unusedSimpArgs false
variable {w w' W : World} {g n : Nat} {f : Nat → Int}
theorem rowsT_mp : ∀ r ∈ rowsT, r.mapper = 0 ∨ r.mapper = 1 ∨ r.mapper = 2 ∨ r.mapper = 3 ∨ r.mapper = 5 := by decide
theorem ramN_le (R : Rw) (c : Nat) : ramN R c ≤ 131072 := by
  unfold ramN
  split
  · omega
  · match c with
    | 0 => decide
    | 1 => decide
    | 2 => decide
    | 3 => decide
    | 4 => decide
    | 5 => decide
    | c + 6 => exact Nat.zero_le _
theorem mp_iface {m : Mp} {b : Nat} {v : Value} (h : MpAt w v m b) : ∃ t p, v = .iface t p := by
  rcases h with ⟨_, rfl⟩ | ⟨_, rfl, _⟩
  · exact ⟨_, _, rfl⟩
  · exact ⟨_, _, rfl⟩
/-- a mapper's own block; where it has none, any number will do -/
theorem mp_pick {v : Value} {k b c r lo : Nat} (h : MpAt w v (Mp.new k) b) (hlo : lo ≤ b) (hc : lo ≤ c) (hr : r < c) (hcw : c = w.heap.size) (hbr : b ≠ r ∨ k = 0) : ∃ mb, MpAt w v (Mp.new k) mb ∧ lo ≤ mb ∧ mb ≠ c ∧ mb ≠ r ∧ (k = 0 ∨ mb < w.heap.size) := by
  by_cases hk : k = 0
  · subst hk
    rcases h with ⟨h1, h2⟩ | ⟨h1, _⟩
    · exact ⟨c + 1, Or.inl ⟨h1, h2⟩, by omega, by omega, by omega, Or.inl rfl⟩
    · exact absurd h1 (by decide)
  · have hb : b < w.heap.size := by
      rcases h with ⟨h1, _⟩ | ⟨_, _, h3⟩
      · exact absurd h1 hk
      · exact heap_at h3
    exact ⟨b, h, hlo, by omega, by omega, Or.inr hb⟩
theorem mp_ne {v : Value} {k b : Nat} (h : MpAt w v (Mp.new k) b) : b ≠ w.heap.size ∨ k = 0 := by
  rcases h with ⟨h1, _⟩ | ⟨_, _, h3⟩
  · exact Or.inr h1
  · exact Or.inl (Nat.ne_of_lt (heap_at h3))
set_option maxRecDepth 100000 in
theorem takes_nil {cb : Nat} : Calls Tryd.prog 38 #[.pointer (some ⟨cb, 0, none⟩), .slice none 0 0] W fun e w' => e = .returned (.bool true) ∧ Up W w' := by
  go_enter Tryd.func38, Tryd.ntmps38
  go_wp2_with fail
  first | go_quiet (fail) | skip
  go_wp2_with fail
  go_ret
  exact ⟨by first | rfl | (simp; done), by first | exact Up.refl _ | exact Up.drewN _ _⟩
/-- the cartridge that is made -/
def ctNew (f : Nat → Int) (n m : Nat) (R : Rw) (c8 c9 : Nat) : Ct := ⟨strF f 308 m, R.kind, R.mapper, 2 * 2 ^ c8, ramN R c9, R.bat, n, f, fun _ => 0, Mp.new R.mapper⟩
def NewAns (W : World) (f : Nat → Int) (n : Nat) (e : Ending) (w' : World) : Prop := ∃ R b mk, RowIs (f 327).toNat R b ∧ MarkIs f mk ∧ Up W w' ∧ ((faultI mk f R b n ≠ 0 ∧ e = .returned (.tuple #[.pointer none, .int .i64 (faultI mk f R b n)])) ∨ (faultI mk f R b n = 0 ∧ ∃ m A, TitleIs f m ∧ CtAt w' A (ctNew f n m R (f 328).toNat (f 329).toNat) ∧ W.heap.size ≤ A.cb ∧ W.heap.size ≤ A.rg ∧ W.heap.size ≤ A.rb ∧ W.heap.size ≤ A.mb ∧ e = .returned (.tuple #[.pointer (some ⟨A.cb, 0, none⟩), .int .i64 0])))
set_option maxRecDepth 100000 in
set_option maxHeartbeats 2000000 in
theorem new_any {c : Nat} (hT : Tb W) (h : By W g n f) (hn : 32768 ≤ n) (hn2 : n ≤ 2097152) (hc : n ≤ c) (hm : c ≤ 9223372036854775807) (h8 : ∀ k, 0 ≤ f k ∧ f k ≤ 255) : Calls Tryd.prog 15 #[.slice (some ⟨g, 0, none⟩) n c, .slice none 0 0] W (NewAns W f n) := by
  have HCk : Hid _ := check_any hT h hn hn2 hc hm h8
  have HB : Hid (By W g n f) := h
  clear hT h h8
  go_enter Tryd.func15, Tryd.ntmps15
  go_wp2_with fail
  refine Calls.mono HCk.out ?_
  rintro e w2 ⟨R, b, mk, hr, hk, u2, hcs⟩
  have HRw : Hid (RowIs (f 327).toNat R b ∧ MarkIs f mk ∧ Up W w2) := ⟨hr, hk, u2⟩
  clear HCk hr hk u2
  rcases hcs with ⟨hx, rfl⟩ | ⟨hx, m, ht, rfl⟩
  · have HX : Hid _ := hx
    obtain ⟨x, hxx⟩ : ∃ x, faultI mk f R b n = x := ⟨_, rfl⟩
    have hx0 : ¬ x = 0 := by rw [← hxx]; exact hx
    have HXX : Hid (faultI mk f R b n = x) := hxx
    rw [hxx]
    unfold zHead
    clear hx hxx HX
    go_wp2_with fail
    go_ret2
    exact ⟨R, b, mk, HRw.out.1, HRw.out.2.1, HRw.out.2.2.alloc _, Or.inl ⟨by rw [HXX.out]; exact hx0, by rw [HXX.out]; first | rfl | (simp; done)⟩⟩
  · obtain ⟨c8, hc8⟩ : ∃ c8, (f 328).toNat = c8 := ⟨_, rfl⟩
    obtain ⟨c9, hc9⟩ : ∃ c9, (f 329).toNat = c9 := ⟨_, rfl⟩
    rw [hc8, hc9]
    have HF : Hid (faultI mk f R b n = 0 ∧ TitleIs f m ∧ (f 328).toNat = c8 ∧ (f 329).toNat = c9) := ⟨hx, ht, hc8, hc9⟩
    clear hx ht hc8 hc9
    have hmp : R.mapper = 0 ∨ R.mapper = 1 ∨ R.mapper = 2 ∨ R.mapper = 3 ∨ R.mapper = 5 := by
      rcases HRw.out.1 with ⟨_, hr, _⟩ | ⟨_, hr, _⟩
      · exact rowsT_mp R hr
      · subst hr; decide
    have hrn : ramN R c9 ≤ 131072 := ramN_le R c9
    have HCt : Hid (ctNew f n m R c8 c9 = ⟨strF f 308 m, R.kind, R.mapper, 2 * 2 ^ c8, ramN R c9, R.bat, n, f, fun _ => 0, Mp.new R.mapper⟩) := rfl
    unfold headC
    dsimp only
    have HMO : Hid (∀ w, Calls Tryd.prog 37 #[.int .i64 (R.mapper : Int)] w fun e w' => ∃ v, e = .returned v ∧ MpAt w' v (Mp.new R.mapper) w.heap.size ∧ Up w w' ∧ v.oneCell' = true) := fun w => mapperOf_any hmp
    have hmk : ∀ w : World, (Instr.makeSlice 24 (.int .i64 (ramN R c9 : Int)) (.int .i64 (ramN R c9 : Int))).run Tryd.prog w = .ok (.slice (some ⟨w.heap.size, 0, none⟩) (ramN R c9) (ramN R c9)) (w.alloc (.cells (madeCells #[.int .u8 0] (ramN R c9)) 5)) := fun w => mkB w _ (by omega)
    generalize strF f 308 m = T at HCt ⊢
    generalize R.kind = KD at HCt ⊢
    generalize R.mapper = MN at HCt HMO hmp ⊢
    generalize 2 * 2 ^ c8 = BK at HCt ⊢
    generalize ramN R c9 = RN at HCt hrn hmk ⊢
    generalize R.bat = BT at HCt ⊢
    go_upto_region 4 with fail
    have HU3 : Hid (Up W (w2.alloc (Obj.cells #[.string T, .int .i64 (KD : Int), .int .i64 (MN : Int), .int .i64 (BK : Int), .int .i64 (RN : Int), .bool BT] 30))) := HRw.out.2.2.alloc _
    have HB3 : Hid ((w2.alloc (Obj.cells #[.string T, .int .i64 (KD : Int), .int .i64 (MN : Int), .int .i64 (BK : Int), .int .i64 (RN : Int), .bool BT] 30)).heap[w2.heap.size]? = some (.cells #[.string T, .int .i64 (KD : Int), .int .i64 (MN : Int), .int .i64 (BK : Int), .int .i64 (RN : Int), .bool BT] 30 (0, 0))) := heap_alloc_new w2 _
    generalize World.alloc w2 _ = w3 at HU3 HB3 ⊢
    generalize w2.heap.size = hb at HB3 ⊢
    have hh3 := heap_at HB3.out
    have HSw : Hid (∀ w, Up w3 w → w.rangeAt hb 0 [.string T, .int .i64 (KD : Int), .int .i64 (MN : Int), .int .i64 (BK : Int), .int .i64 (RN : Int), .bool BT] ∧ w.cell? ⟨hb, 4, none⟩ = some (.int .i64 (RN : Int)) ∧ w.cell? ⟨hb, 2, none⟩ = some (.int .i64 (MN : Int))) := fun w u => ⟨range_up u (range_heap HB3.out), cell_up u (heap_cell HB3.out rfl), cell_up u (heap_cell HB3.out rfl)⟩
    go_cut [8] (fun X wy => ∃ (cb rb mb : Nat) (t : TypeId) (pv : Value), X = .pointer (some ⟨cb, 0, none⟩) ∧ Hid (wy.heap[cb]? = some (.cells #[.string T, .int .i64 (KD : Int), .int .i64 (MN : Int), .int .i64 (BK : Int), .int .i64 (RN : Int), .bool BT, .slice none 0 0, .slice (some ⟨rb, 0, none⟩) RN RN, .iface t pv] 81 (0, 0)) ∧ By wy rb RN (fun _ => 0) ∧ MpAt wy (.iface t pv) (Mp.new MN) mb ∧ Up w3 wy ∧ w3.heap.size ≤ cb ∧ w3.heap.size ≤ rb ∧ w3.heap.size ≤ mb ∧ cb ≠ rb ∧ cb ≠ mb ∧ rb ≠ mb ∧ (MN = 0 ∨ mb < wy.heap.size)))
    case first =>
      refine wp_region_held_drew (S := fun w => w.rangeAt hb 0 [.string T, .int .i64 (KD : Int), .int .i64 (MN : Int), .int .i64 (BK : Int), .int .i64 (RN : Int), .bool BT] ∧ w.cell? ⟨hb, 4, none⟩ = some (.int .i64 (RN : Int)) ∧ w.cell? ⟨hb, 2, none⟩ = some (.int .i64 (MN : Int))) (by kernel_rfl) ?_ (fun hHeld => ?_)
      · exact HSw.out _ (Up.refl w3).drew
      have u6 : Up w3 w3.drew := (Up.refl w3).drew
      generalize World.drew w3 = wd at u6 hHeld ⊢
      refine wpAnyH_take (i := 0) (v := .agg [.string T, .int .i64 (KD : Int), .int .i64 (MN : Int), .int .i64 (BK : Int), .int .i64 (RN : Int), .bool BT].toArray) (by simp only [List.getElem?_toArray, List.getElem?_cons_zero]; rfl) (by kernel_rfl) (by kernel_rfl) (by kernel_rfl) (by intro _ _ _ h; exact h) (yieldsIf_load_mid (by rfl) 30 _ rfl hb 0 rfl [.string T, .int .i64 (KD : Int), .int .i64 (MN : Int), .int .i64 (BK : Int), .int .i64 (RN : Int), .bool BT] _ (fun w hw => hw.1) Tryd.underlying30 rfl (by kernel_rfl)) (by assumption) ?_
      simp only [Act.put, List.setIfInBounds_toArray, List.set_cons_zero, List.set_cons_succ]
      refine wpAnyH_take (i := 1) (v := ?_) (by simp only [List.getElem?_toArray, List.getElem?_cons_succ, List.getElem?_cons_zero]; rfl) (by kernel_rfl) (by kernel_rfl) (by kernel_rfl) (by intro _ _ _ h; exact h) (Or.inl ⟨by rfl, ?_⟩) (by assumption) ?_
      rotate_left
      · (intro w hSw; (try dsimp only at hSw); go_simp <;> with_reducible rfl)
      try simp only [Act.put, List.setIfInBounds_toArray, List.set_cons_zero, List.set_cons_succ]
      refine wpAnyH_take (i := 2) (v := ?_) (by simp only [List.getElem?_toArray, List.getElem?_cons_succ, List.getElem?_cons_zero]; rfl) (by kernel_rfl) (by kernel_rfl) (by kernel_rfl) (by intro _ _ _ h; exact h) (Or.inl ⟨by rfl, ?_⟩) (by assumption) ?_
      rotate_left
      · (intro w hSw; (try dsimp only at hSw); go_simp <;> with_reducible rfl)
      try simp only [Act.put, List.setIfInBounds_toArray, List.set_cons_zero, List.set_cons_succ]
      refine wpAnyH_take (i := 4) (v := ?_) (by simp only [List.getElem?_toArray, List.getElem?_cons_succ, List.getElem?_cons_zero]; rfl) (by kernel_rfl) (by kernel_rfl) (by kernel_rfl) (by intro _ _ _ h; exact h) (Or.inl ⟨by rfl, ?_⟩) (by assumption) ?_
      rotate_left
      · (intro w hSw; (try dsimp only at hSw); go_simp <;> with_reducible rfl)
      try simp only [Act.put, List.setIfInBounds_toArray, List.set_cons_zero, List.set_cons_succ]
      refine wpAnyH_take (i := 5) (v := ?_) (by simp only [List.getElem?_toArray, List.getElem?_cons_succ, List.getElem?_cons_zero]; rfl) (by kernel_rfl) (by kernel_rfl) (by kernel_rfl) (by intro _ _ _ h; exact h) (Or.inl ⟨by rfl, ?_⟩) (by assumption) ?_
      rotate_left
      · (intro w hSw; (try dsimp only at hSw); go_simp <;> with_reducible rfl)
      try simp only [Act.put, List.setIfInBounds_toArray, List.set_cons_zero, List.set_cons_succ]
      refine wpAnyH_ready (rs := [3, 6]) (by kernel_rfl) (by simp) ?_
      refine AllReadyH.cons (by simp only [List.getElem?_toArray, List.getElem?_cons_succ, List.getElem?_cons_zero]; rfl) (fun KK hK => ?_) (AllReadyH.cons (by simp only [List.getElem?_toArray, List.getElem?_cons_succ, List.getElem?_cons_zero]; rfl) (fun KK hK => ?_) AllReadyH.nil)
      · go_simp
        have ua : Up w3 (wd.alloc (Obj.cells (madeCells #[.int .u8 0] RN) 5)) := u6.alloc _
        have hby := made_by wd RN 5
        have HA : Hid (Up w3 (wd.alloc (Obj.cells (madeCells #[.int .u8 0] RN) 5)) ∧ By (wd.alloc (Obj.cells (madeCells #[.int .u8 0] RN) 5)) wd.heap.size RN (fun _ => 0)) := ⟨ua, hby⟩
        clear ua hby
        generalize World.alloc wd _ = wa at HA ⊢
        generalize hrbe : wd.heap.size = rb at HA ⊢
        refine hK.out _ _ (HSw.out _ HA.out.1) (fun hHeld => ?_)
        clear hK KK
        try simp only [Act.put, List.setIfInBounds_toArray, List.set_cons_zero, List.set_cons_succ]
        refine wpAnyH_ready (rs := [6]) (by kernel_rfl) (by simp) ?_
        refine AllReadyH.cons (by simp only [List.getElem?_toArray, List.getElem?_cons_succ, List.getElem?_cons_zero]; rfl) (fun KK hK => ?_) AllReadyH.nil
        go_simp
        refine (HMO.out _).mono ?_
        rintro e w5 ⟨v, rfl, hmp5, u5, _⟩
        obtain ⟨t, pv, rfl⟩ := mp_iface hmp5
        have H5 : Hid (Up w3 w5 ∧ By w5 rb RN (fun _ => 0) ∧ MpAt w5 (.iface t pv) (Mp.new MN) wa.heap.size ∧ (w3.heap.size ≤ wa.heap.size ∧ (wa.heap.size ≠ rb ∨ MN = 0)) ∧ rb < w5.heap.size ∧ w3.heap.size ≤ rb) := ⟨HA.out.1.trans u5, HA.out.2.up u5, hmp5, ⟨HA.out.1.size, Or.inl (Nat.ne_of_gt HA.out.2.lt)⟩, Nat.lt_of_lt_of_le HA.out.2.lt u5.size, by have := u6.size; omega⟩
        clear hmp5 u5 HA
        refine hK.out _ _ (HSw.out _ H5.out.1) (fun hHeld => ?_)
        clear hK KK
        try simp only [Act.put, List.setIfInBounds_toArray, List.set_cons_zero, List.set_cons_succ]
        refine wpAnyH_take (i := 7) (v := ?_) (by simp only [List.getElem?_toArray, List.getElem?_cons_succ, List.getElem?_cons_zero]; rfl) (by kernel_rfl) (by kernel_rfl) (by kernel_rfl) (by intro _ _ _ h; exact h) (Or.inl ⟨by rfl, ?_⟩) (by assumption) ?_
        rotate_left
        · (intro w hSw; (try dsimp only at hSw); go_simp <;> with_reducible rfl)
        try simp only [Act.put, List.setIfInBounds_toArray, List.set_cons_zero, List.set_cons_succ]
        refine wpAnyH_ready (rs := [8]) (by kernel_rfl) (by simp) ?_
        refine AllReadyH.cons (by simp only [List.getElem?_toArray, List.getElem?_cons_succ, List.getElem?_cons_zero]; rfl) (fun KK hK => ?_) AllReadyH.nil
        rw [if_pos (by rfl)]
        go_simp
        have hbx : (w5.alloc (Obj.cells #[.string T, .int .i64 (KD : Int), .int .i64 (MN : Int), .int .i64 (BK : Int), .int .i64 (RN : Int), .bool BT, .slice none 0 0, .slice (some ⟨rb, 0, none⟩) RN RN, .iface t pv] 81)).heap[w5.heap.size]? = some (.cells #[.string T, .int .i64 (KD : Int), .int .i64 (MN : Int), .int .i64 (BK : Int), .int .i64 (RN : Int), .bool BT, .slice none 0 0, .slice (some ⟨rb, 0, none⟩) RN RN, .iface t pv] 81 (0, 0)) := heap_alloc_new w5 _
        have ux : Up w5 (w5.alloc (Obj.cells #[.string T, .int .i64 (KD : Int), .int .i64 (MN : Int), .int .i64 (BK : Int), .int .i64 (RN : Int), .bool BT, .slice none 0 0, .slice (some ⟨rb, 0, none⟩) RN RN, .iface t pv] 81)) := (Up.refl w5).alloc _
        have hsx : (w5.alloc (Obj.cells #[.string T, .int .i64 (KD : Int), .int .i64 (MN : Int), .int .i64 (BK : Int), .int .i64 (RN : Int), .bool BT, .slice none 0 0, .slice (some ⟨rb, 0, none⟩) RN RN, .iface t pv] 81)).heap.size = w5.heap.size + 1 := by simp
        refine hK.out _ _ (HSw.out _ (H5.out.1.trans ux)) (fun hHeld => ?_)
        clear hK KK
        try simp only [Act.put, List.setIfInBounds_toArray, List.set_cons_zero, List.set_cons_succ]
        refine wpAnyH_take (i := 9) (v := ?_) (by simp only [List.getElem?_toArray, List.getElem?_cons_succ, List.getElem?_cons_zero]; rfl) (by kernel_rfl) (by kernel_rfl) (by kernel_rfl) (by intro _ _ _ h; exact h) (Or.inl ⟨by rfl, ?_⟩) (by assumption) ?_
        rotate_left
        · (intro w hSw; (try dsimp only at hSw); go_simp <;> with_reducible rfl)
        try simp only [Act.put, List.setIfInBounds_toArray, List.set_cons_zero, List.set_cons_succ]
        refine wpAnyH_done (by kernel_rfl) ?_ _
        first | go_meet | (go_wp2_with fail; go_meet)
        obtain ⟨z1, z2, z3, z4, z5, z6⟩ := H5.out
        obtain ⟨mb, y1, y2, y3, y4, y5⟩ := mp_pick (c := w5.heap.size) (r := rb) (lo := w3.heap.size) z3 z4.1 (by omega) (by omega) rfl z4.2
        exact ⟨w5.heap.size, rb, mb, t, pv, rfl, hbx, z2.up ux, y1.up ux, z1.trans ux, by have := z1.size; omega, z6, y2, by omega, by omega, by omega, y5.imp id (fun h => by omega)⟩
      · go_simp
        refine (HMO.out _).mono ?_
        rintro e w4 ⟨v, rfl, hmp5, u4, _⟩
        obtain ⟨t, pv, rfl⟩ := mp_iface hmp5
        have H4 : Hid (Up w3 w4 ∧ MpAt w4 (.iface t pv) (Mp.new MN) wd.heap.size ∧ wd.heap.size ≤ w4.heap.size) := ⟨u6.trans u4, hmp5, u4.size⟩
        clear hmp5 u4
        refine hK.out _ _ (HSw.out _ H4.out.1) (fun hHeld => ?_)
        clear hK KK
        try simp only [Act.put, List.setIfInBounds_toArray, List.set_cons_zero, List.set_cons_succ]
        refine wpAnyH_ready (rs := [3]) (by kernel_rfl) (by simp) ?_
        refine AllReadyH.cons (by simp only [List.getElem?_toArray, List.getElem?_cons_succ, List.getElem?_cons_zero]; rfl) (fun KK hK => ?_) AllReadyH.nil
        go_simp
        have ua : Up w4 (w4.alloc (Obj.cells (madeCells #[.int .u8 0] RN) 5)) := (Up.refl w4).alloc _
        have hsz : (w4.alloc (Obj.cells (madeCells #[.int .u8 0] RN) 5)).heap.size = w4.heap.size + 1 := by simp
        have hby := made_by w4 RN 5
        have H5 : Hid (Up w3 (w4.alloc (Obj.cells (madeCells #[.int .u8 0] RN) 5)) ∧ By (w4.alloc (Obj.cells (madeCells #[.int .u8 0] RN) 5)) w4.heap.size RN (fun _ => 0) ∧ MpAt (w4.alloc (Obj.cells (madeCells #[.int .u8 0] RN) 5)) (.iface t pv) (Mp.new MN) wd.heap.size ∧ (w3.heap.size ≤ wd.heap.size ∧ (wd.heap.size ≠ w4.heap.size ∨ MN = 0)) ∧ w4.heap.size < (w4.alloc (Obj.cells (madeCells #[.int .u8 0] RN) 5)).heap.size ∧ w3.heap.size ≤ w4.heap.size) := ⟨H4.out.1.trans ua, hby, H4.out.2.1.up ua, ⟨u6.size, mp_ne H4.out.2.1⟩, by omega, H4.out.1.size⟩
        clear ua hby hsz
        generalize World.alloc w4 _ = w5 at H5 ⊢
        generalize hrbe : w4.heap.size = rb at H5 ⊢
        refine hK.out _ _ (HSw.out _ H5.out.1) (fun hHeld => ?_)
        clear hK KK
        try simp only [Act.put, List.setIfInBounds_toArray, List.set_cons_zero, List.set_cons_succ]
        refine wpAnyH_take (i := 7) (v := ?_) (by simp only [List.getElem?_toArray, List.getElem?_cons_succ, List.getElem?_cons_zero]; rfl) (by kernel_rfl) (by kernel_rfl) (by kernel_rfl) (by intro _ _ _ h; exact h) (Or.inl ⟨by rfl, ?_⟩) (by assumption) ?_
        rotate_left
        · (intro w hSw; (try dsimp only at hSw); go_simp <;> with_reducible rfl)
        try simp only [Act.put, List.setIfInBounds_toArray, List.set_cons_zero, List.set_cons_succ]
        refine wpAnyH_ready (rs := [8]) (by kernel_rfl) (by simp) ?_
        refine AllReadyH.cons (by simp only [List.getElem?_toArray, List.getElem?_cons_succ, List.getElem?_cons_zero]; rfl) (fun KK hK => ?_) AllReadyH.nil
        rw [if_pos (by rfl)]
        go_simp
        have hbx : (w5.alloc (Obj.cells #[.string T, .int .i64 (KD : Int), .int .i64 (MN : Int), .int .i64 (BK : Int), .int .i64 (RN : Int), .bool BT, .slice none 0 0, .slice (some ⟨rb, 0, none⟩) RN RN, .iface t pv] 81)).heap[w5.heap.size]? = some (.cells #[.string T, .int .i64 (KD : Int), .int .i64 (MN : Int), .int .i64 (BK : Int), .int .i64 (RN : Int), .bool BT, .slice none 0 0, .slice (some ⟨rb, 0, none⟩) RN RN, .iface t pv] 81 (0, 0)) := heap_alloc_new w5 _
        have ux : Up w5 (w5.alloc (Obj.cells #[.string T, .int .i64 (KD : Int), .int .i64 (MN : Int), .int .i64 (BK : Int), .int .i64 (RN : Int), .bool BT, .slice none 0 0, .slice (some ⟨rb, 0, none⟩) RN RN, .iface t pv] 81)) := (Up.refl w5).alloc _
        have hsx : (w5.alloc (Obj.cells #[.string T, .int .i64 (KD : Int), .int .i64 (MN : Int), .int .i64 (BK : Int), .int .i64 (RN : Int), .bool BT, .slice none 0 0, .slice (some ⟨rb, 0, none⟩) RN RN, .iface t pv] 81)).heap.size = w5.heap.size + 1 := by simp
        refine hK.out _ _ (HSw.out _ (H5.out.1.trans ux)) (fun hHeld => ?_)
        clear hK KK
        try simp only [Act.put, List.setIfInBounds_toArray, List.set_cons_zero, List.set_cons_succ]
        refine wpAnyH_take (i := 9) (v := ?_) (by simp only [List.getElem?_toArray, List.getElem?_cons_succ, List.getElem?_cons_zero]; rfl) (by kernel_rfl) (by kernel_rfl) (by kernel_rfl) (by intro _ _ _ h; exact h) (Or.inl ⟨by rfl, ?_⟩) (by assumption) ?_
        rotate_left
        · (intro w hSw; (try dsimp only at hSw); go_simp <;> with_reducible rfl)
        try simp only [Act.put, List.setIfInBounds_toArray, List.set_cons_zero, List.set_cons_succ]
        refine wpAnyH_done (by kernel_rfl) ?_ _
        first | go_meet | (go_wp2_with fail; go_meet)
        obtain ⟨z1, z2, z3, z4, z5, z6⟩ := H5.out
        obtain ⟨mb, y1, y2, y3, y4, y5⟩ := mp_pick (c := w5.heap.size) (r := rb) (lo := w3.heap.size) z3 z4.1 (by omega) (by omega) rfl z4.2
        exact ⟨w5.heap.size, rb, mb, t, pv, rfl, hbx, z2.up ux, y1.up ux, z1.trans ux, by have := z1.size; omega, z6, y2, by omega, by omega, by omega, y5.imp id (fun h => by omega)⟩
    case rest =>
    obtain ⟨cb, rb, mb, t, pv, rfl, HY⟩ := hcut
    generalize wc = w5 at HY ⊢
    have HTk : Hid (∀ w, Calls Tryd.prog 38 #[.pointer (some ⟨cb, 0, none⟩), .slice none 0 0] w fun e w' => e = .returned (.bool true) ∧ Up w w') := fun w => takes_nil
    go_wp2_with fail
    refine (HTk.out _).mono ?_
    rintro e w6 ⟨rfl, u6⟩
    have H6 : Hid (Up w5 w6) := u6
    clear u6 HTk
    go_wp2_with fail
    have uW6 : Up W w6 := HU3.out.trans (HY.out.2.2.2.1.trans H6.out)
    have HCl : Hid _ := cloneB_any (cap := c) (o := 0) (g := g) (n := n) (f := f) (W := w6) (by omega) (fun k hk => by rw [Nat.zero_add]; exact (HB.out.up uW6).cell k hk)
    clear uW6
    refine Calls.mono HCl.out ?_
    rintro e w7 ⟨rg, rcap, rfl, hg1, hg2, hg3, hg4, u7⟩
    have H7 : Hid (w6.heap.size ≤ rg ∧ By w7 rg n f ∧ n ≤ rcap ∧ rcap ≤ maxLen ∧ Up w5 w7) := ⟨hg1, hg2, hg3, hg4, H6.out.trans u7⟩
    have hb7 : w7.heap[cb]? = some (.cells #[.string T, .int .i64 (KD : Int), .int .i64 (MN : Int), .int .i64 (BK : Int), .int .i64 (RN : Int), .bool BT, .slice none 0 0, .slice (some ⟨rb, 0, none⟩) RN RN, .iface t pv] 81 (0, 0)) := ((H6.out.trans u7).block cb (heap_at HY.out.1)).trans HY.out.1
    have HB7 : Hid _ := hb7
    have k6 : w7.cell? ⟨cb, 6, none⟩ = some (.slice none 0 0) := heap_cell HB7.out rfl
    have k7 : w7.cell? ⟨cb, 7, none⟩ = some (.slice (some ⟨rb, 0, none⟩) RN RN) := heap_cell HB7.out rfl
    have kf : ∀ k, w7.frozen? ⟨cb, k, none⟩ = false := fun k => heap_fz HB7.out
    clear hg1 hg2 hg3 hg4 u7 hb7 HCl
    have hcp : ∀ w : World, (Builtin.copy_ #[24, 24] 3 #[.slice (some ⟨rb, 0, none⟩) RN RN, .slice none 0 0]).run Tryd.prog w = .ok (.int .i64 0) w := fun w => run_copy_nil Tryd.prog w 24 24 3 5 ⟨rb, 0, none⟩ RN RN Tryd.underlying24 (by kernel_rfl)
    go_wp2_with fail
    go_ret2
    have fr : Fr cb w7 (w7.setCell ⟨cb, 6, none⟩ (.slice (some ⟨rg, 0, none⟩) n rcap)) := (Fr.refl cb w7).setCell
    have hb8 : (w7.setCell ⟨cb, 6, none⟩ (.slice (some ⟨rg, 0, none⟩) n rcap)).heap[cb]? = some (.cells #[.string T, .int .i64 (KD : Int), .int .i64 (MN : Int), .int .i64 (BK : Int), .int .i64 (RN : Int), .bool BT, .slice (some ⟨rg, 0, none⟩) n rcap, .slice (some ⟨rb, 0, none⟩) RN RN, .iface t pv] 81 (0, 0)) := heap_setCell_same w7 cb 6 _ _ _ HB7.out
    obtain ⟨y1, y2, y3, y4, y5, y6, y7, y8, y9, y10, y11⟩ := HY.out
    obtain ⟨x1, x2, x3, x4, x5⟩ := H7.out
    have hcbl := heap_at y1
    have hrbl := y2.lt
    have s56 := H6.out.size
    have sW3 := HU3.out.size
    have mx : rcap ≤ 9223372036854775807 := by unfold maxLen at x4; omega
    obtain ⟨mb2, v1, v2, v3, v4, v5⟩ : ∃ mb2, MpAt w7 (.iface t pv) (Mp.new MN) mb2 ∧ w3.heap.size ≤ mb2 ∧ mb2 ≠ cb ∧ mb2 ≠ rb ∧ mb2 ≠ rg := by
      by_cases hk : MN = 0
      · subst hk
        rcases y3 with ⟨h1, h2⟩ | ⟨h1, _⟩
        · exact ⟨cb + rb + rg + w3.heap.size + 1, Or.inl ⟨h1, h2⟩, by omega, by omega, by omega, by omega⟩
        · exact absurd h1 (by decide)
      · have : mb < w5.heap.size := y11.resolve_left hk
        exact ⟨mb, y3.up x5, y7, fun e => y9 e.symm, fun e => y10 e.symm, by omega⟩
    have hU : Up W (w7.setCell ⟨cb, 6, none⟩ (.slice (some ⟨rg, 0, none⟩) n rcap)) := Fr.up (HU3.out.trans (y4.trans x5)) (by omega) fr
    refine ⟨R, b, mk, HRw.out.1, HRw.out.2.1, hU, Or.inr ⟨HF.out.1, m, ⟨cb, rg, rcap, rb, RN, mb2, .iface t pv⟩, HF.out.2.1, ?_, by show W.heap.size ≤ cb; omega, by show W.heap.size ≤ rg; omega, by show W.heap.size ≤ rb; omega, by show W.heap.size ≤ mb2; omega, by first | rfl | (simp; done)⟩⟩
    rw [HF.out.2.2.1, HF.out.2.2.2, HCt.out]
    refine ⟨hb8, x2.of_block (fr.block rg x2.lt (by omega)), (y2.up x5).of_block (fr.block rb (y2.up x5).lt (fun e => y8 e.symm)), v1.fr fr v3, Mp.new_in hmp, hn, hn2, ⟨x3, mx⟩, ⟨Nat.le_refl _, by show RN ≤ 9223372036854775807; omega⟩, hrn, by show cb ≠ rg; omega, y8, fun e => v3 e.symm, by show rg ≠ rb; omega, fun e => v5 e.symm, fun e => v4 e.symm⟩
end Go.Proofs.YtojlappgmckokaaDoor
