import Derived.Test.YtojlappgmckokaaDoorXmC
/- Cart: Load without RAM; New of a ROM that is too short, or too long; Header. -/
namespace Go.Proofs.YtojlappgmckokaaDoor
open Go.Shelf Go.RowKit
set_option linter.unusedVariables false
set_option linter.unusedSimpArgs false
variable {w w' W : World} {b g n : Nat} {A : Ad} {C : Ct}
set_option maxRecDepth 100000 in
theorem new_short {c : Nat} {a sa : Option Addr} {sn sc : Nat} (hc : n ≤ c) (hm : c ≤ 9223372036854775807) (h : n < 32768 ∨ 2097152 < n) : Calls Tryd.prog 15 #[.slice a n c, .slice sa sn sc] W fun e w' => e = .returned (.tuple #[.pointer none, .int .i64 41]) ∧ Up W w' := by
  have HC : Hid _ := check_short (W := W) (a := a) hc hm h
  go_enter Tryd.func15, Tryd.ntmps15
  go_wp2_with fail
  refine Calls.mono HC.out ?_
  rintro e w2 ⟨rfl, u2⟩
  have HU2 : Hid (Up W w2) := u2
  clear u2 HC
  unfold zHead
  go_wp2_with fail
  go_ret2
  exact ⟨by first | rfl | (simp; done), HU2.out.alloc _⟩
set_option maxRecDepth 100000 in
set_option maxHeartbeats 1000000 in
theorem CtAt.header (h : CtAt W A C) : Calls Tryd.prog 23 #[.pointer (some ⟨A.cb, 0, none⟩)] W fun e w' => e = .returned (.agg #[.string C.hd, .int .i64 (C.ty : Int), .int .i64 (C.mpr : Int), .int .i64 (C.bk : Int), .int .i64 (C.rm : Int), .bool C.bat]) ∧ Up W w' := by
  have k0 : W.cell? ⟨A.cb, 0, none⟩ = some (.string C.hd) := heap_cell h.blk rfl
  have k1 : W.cell? ⟨A.cb, 1, none⟩ = some (.int .i64 (C.ty : Int)) := heap_cell h.blk rfl
  have k2 : W.cell? ⟨A.cb, 2, none⟩ = some (.int .i64 (C.mpr : Int)) := heap_cell h.blk rfl
  have k3 : W.cell? ⟨A.cb, 3, none⟩ = some (.int .i64 (C.bk : Int)) := heap_cell h.blk rfl
  have k4 : W.cell? ⟨A.cb, 4, none⟩ = some (.int .i64 (C.rm : Int)) := heap_cell h.blk rfl
  have k5 : W.cell? ⟨A.cb, 5, none⟩ = some (.bool C.bat) := heap_cell h.blk rfl
  have hlt := heap_at h.blk
  generalize C.hd = x0 at k0 ⊢
  generalize C.ty = x1 at k1 ⊢
  generalize C.mpr = x2 at k2 ⊢
  generalize C.bk = x3 at k3 ⊢
  generalize C.rm = x4 at k4 ⊢
  generalize C.bat = x5 at k5 ⊢
  generalize A.cb = cb at *
  clear h
  go_enter Tryd.func23, Tryd.ntmps23
  go_wp2_with fail
  refine bodyPost_ret (v := .agg _) (results_row Tryd.results23 _ _ _ 30 _ (0, 0) _ rfl (heap_alloc_new W _) Tryd.underlying30 rfl (by kernel_rfl)) rfl ?_
  exact ⟨rfl, (Up.refl W).alloc _⟩
set_option maxRecDepth 100000 in
set_option maxHeartbeats 2000000 in
theorem CtAt.loadNil5 {n c ab ao : Nat} {aa : Option Addr} {f : Nat → Int} (h : CtAt W A C) (hL : Byts W aa ab ao n c f) (hn : n = 5 + C.rm) (hn1 : C.rm = 0) (hc : c = 5) (hfit : ∀ k, k < C.rm → f (5 + k) ≤ (C.m.kp : Int)) (hreg : ∀ k, k < 5 → (loB C.m.kd k : Int) ≤ f k ∧ f k ≤ (hiB C.m.kd k : Int)) (hkd : C.m.kd = 0 ∨ C.m.kd = 1 ∨ C.m.kd = 2 ∨ C.m.kd = 3 ∨ C.m.kd = 5) (d : A.K C.m.kd ab) : Calls Tryd.prog 20 #[.pointer (some ⟨A.cb, 0, none⟩), .slice aa n c] W fun e w' => e = .returned (.int .i64 0) ∧ CtAt w' A (C.loaded f) ∧ FK (A.K C.m.kd) W w' := by
  have lcm : c ≤ 9223372036854775807 := by have := hL.cm; unfold maxLen at this; omega
  have lnc := hL.lc
  obtain rfl : aa = some ⟨ab, ao, none⟩ := hL.ad (by omega)
  have k7 : W.cell? ⟨A.cb, 7, none⟩ = some (.slice (some ⟨A.rb, 0, none⟩) C.rm A.rc) := heap_cell h.blk rfl
  have k8 : W.cell? ⟨A.cb, 8, none⟩ = some A.v := heap_cell h.blk rfl
  obtain ⟨t8, p8, hv8⟩ := mp_iface h.mp
  have HH : Hid (CtAt W A C) := h
  have HL : Hid (Byts W (some ⟨ab, ao, none⟩) ab ao n c f) := hL
  have HD : Hid (A.K C.m.kd ab) := d
  have hrm := h.rm
  have HFi : Hid (∀ w, Up W w → Calls Tryd.prog 42 #[.pointer (some ⟨A.cb, 0, none⟩), .slice (some ⟨ab, ao, none⟩) 0 0] w fun e w' => e = .returned (.bool true) ∧ Up w w') := fun w u => (h.up u).fits (t := true) (ab := ab) (ao := ao) (f := f) ⟨Nat.zero_le _, by have := hL.cm; exact Nat.zero_le _, fun h0 => absurd h0 (by decide), hL.u8, fun k hk => absurd hk (Nat.not_lt_zero k)⟩ ⟨fun _ => ⟨hn1.symm, fun k hk => absurd hk (Nat.not_lt_zero k)⟩, fun _ => rfl⟩
  obtain ⟨x0, hx0⟩ := Int.eq_ofNat_of_zero_le (hL.u8 0).1
  obtain ⟨x1, hx1⟩ := Int.eq_ofNat_of_zero_le (hL.u8 1).1
  obtain ⟨x2, hx2⟩ := Int.eq_ofNat_of_zero_le (hL.u8 2).1
  obtain ⟨x3, hx3⟩ := Int.eq_ofNat_of_zero_le (hL.u8 3).1
  obtain ⟨x4, hx4⟩ := Int.eq_ofNat_of_zero_le (hL.u8 4).1
  have HXs : Hid (f 0 = (x0 : Int) ∧ f 1 = (x1 : Int) ∧ f 2 = (x2 : Int) ∧ f 3 = (x3 : Int) ∧ f 4 = (x4 : Int)) := ⟨hx0, hx1, hx2, hx3, hx4⟩
  have HGv : Hid (∀ w, Calls Tryd.prog 43 #[A.v, .agg #[.int .u8 (x0 : Int), .int .u8 (x1 : Int), .int .u8 (x2 : Int), .int .u8 (x3 : Int), .int .u8 (x4 : Int)]] w fun e w' => e = .returned (.bool true) ∧ Up w w') := fun w => by
    refine given_any (t := true) hv8 (l0 := loB C.m.kd 0) (l1 := loB C.m.kd 1) (l2 := loB C.m.kd 2) (l3 := loB C.m.kd 3) (l4 := loB C.m.kd 4) (h0 := hiB C.m.kd 0) (h1 := hiB C.m.kd 1) (h2 := hiB C.m.kd 2) (h3 := hiB C.m.kd 3) (h4 := hiB C.m.kd 4) (fun w => h.mp.bounds w) ⟨fun _ => ?_, fun _ => rfl⟩
    have q0 := hreg 0 (by decide)
    have q1 := hreg 1 (by decide)
    have q2 := hreg 2 (by decide)
    have q3 := hreg 3 (by decide)
    have q4 := hreg 4 (by decide)
    rw [hx0] at q0
    rw [hx1] at q1
    rw [hx2] at q2
    rw [hx3] at q3
    rw [hx4] at q4
    omega
  have HN : Hid (∀ w, CtAt w A C → MpAt w A.v C.m A.mb) := fun w h => h.mp
  have HPt : Hid (∀ w, CtAt w A C → Calls Tryd.prog 44 #[A.v, .agg #[.int .u8 (x0 : Int), .int .u8 (x1 : Int), .int .u8 (x2 : Int), .int .u8 (x3 : Int), .int .u8 (x4 : Int)]] w fun e w' => e = .returned (.tuple #[]) ∧ MpAt w' A.v ⟨C.m.kd, x0, x1, x2, x3, x4⟩ A.mb ∧ FK (fun k => C.m.kd = 0 ∨ k ≠ A.mb) w w') := fun w h => h.mp.putK
  have HReg : Hid (∀ k, k < 5 → (loB C.m.kd k : Int) ≤ f k ∧ f k ≤ (hiB C.m.kd k : Int)) := hreg
  rw [hv8] at HGv HPt
  have HV8 : Hid (A.v = .iface t8 p8) := hv8
  rw [hv8] at k8
  have HNn : Hid (n = 5 + C.rm ∧ C.rm = 0) := ⟨hn, hn1⟩
  have hn55 : n = 5 := by omega
  subst hn55
  subst hc
  clear h hL d hfit hreg hx0 hx1 hx2 hx3 hx4 hv8 hn hn1 HN
  go_enter Tryd.func20, Tryd.ntmps20
  go_wp2_with fail
  refine (HFi.out _ ((Up.refl W).alloc _)).mono ?_
  rintro e w2 ⟨rfl, u2⟩
  have HU2 : Hid (Up W w2) := ((Up.refl W).alloc _).trans u2
  have hR : w2.heap[W.heap.size]? = some (.cells #[.int .u8 0, .int .u8 0, .int .u8 0, .int .u8 0, .int .u8 0] 87 (0, 0)) := (u2.block _ (heap_at (heap_alloc_new W _))).trans (heap_alloc_new W _)
  have HR : Hid _ := hR
  obtain ⟨g, hg⟩ : ∃ g, g = W.heap.size := ⟨_, rfl⟩
  rw [← hg] at HR ⊢
  have HG : Hid (g = W.heap.size) := hg
  clear hR hg u2 HFi k7 k8
  have HCp : Hid (∀ ty, (Builtin.copy_ #[24, 24] ty #[.slice (some ⟨g, 0, none⟩) 5 5, .slice (some ⟨ab, ao, none⟩) 5 5]).run Tryd.prog w2 = .ok (goInt 5) (w2.setCells g 0 (byL f 5))) := fun ty => copy_run (k := 5) (n := 5) (f := fun _ => 0) ⟨_, _, HR.out, by simp, fun k hk => by
    match k, hk with
    | 0, _ => rfl
    | 1, _ => rfl
    | 2, _ => rfl
    | 3, _ => rfl
    | 4, _ => rfl⟩ (by decide) (by rfl) (fun j hj => by rw [Addr.add_lit]; exact (HL.out.upB HU2.out).cell j (by omega)) 5 5 ty
  have hX := HXs.out
  have HR3 : Hid ((w2.setCells g 0 (byL f 5)).heap[g]? = some (.cells #[.int .u8 (x0 : Int), .int .u8 (x1 : Int), .int .u8 (x2 : Int), .int .u8 (x3 : Int), .int .u8 (x4 : Int)] 87 (0, 0))) := by
    have hh := heap_setCells_same g 87 (byL f 5) 0 _ _ HR.out
    rw [show byL f 5 = [.int .u8 (f 0), .int .u8 (f 1), .int .u8 (f 2), .int .u8 (f 3), .int .u8 (f 4)] from rfl, hX.1, hX.2.1, hX.2.2.1, hX.2.2.2.1, hX.2.2.2.2] at hh
    rw [show byL f 5 = [.int .u8 (f 0), .int .u8 (f 1), .int .u8 (f 2), .int .u8 (f 3), .int .u8 (f 4)] from rfl, hX.1, hX.2.1, hX.2.2.1, hX.2.2.2.1, hX.2.2.2.2]
    exact hh
  have HU3 : Hid (Up W (w2.setCells g 0 (byL f 5))) := Fr.up HU2.out (by rw [HG.out]; exact Nat.le_refl _) (fr_setCells g _ 0 w2)
  clear hX
  go_wp2_with (refine wpList_copy_runI _ rfl _ _ 24 24 rfl _ _ rfl rfl (HCp.out _) ?_)
  simp only [goInt, Act.put, List.setIfInBounds_toArray, List.set_cons_zero, List.set_cons_succ]
  generalize World.setCells w2 _ _ _ = w3 at HR3 HU3 ⊢
  clear HCp HR HU2
  have HSw : Hid (∀ w, Up W w → w.heap[g]? = some (.cells #[.int .u8 (x0 : Int), .int .u8 (x1 : Int), .int .u8 (x2 : Int), .int .u8 (x3 : Int), .int .u8 (x4 : Int)] 87 (0, 0)) → w.cell? ⟨A.cb, 8, none⟩ = some (.iface t8 p8) ∧ w.rangeAt g 0 [.int .u8 (x0 : Int), .int .u8 (x1 : Int), .int .u8 (x2 : Int), .int .u8 (x3 : Int), .int .u8 (x4 : Int)]) := fun w u hr => ⟨by rw [← HV8.out]; exact heap_cell (HH.out.up u).blk rfl, range_row hr⟩
  refine wp_region_held_drew (S := fun w => w.cell? ⟨A.cb, 8, none⟩ = some (.iface t8 p8) ∧ w.rangeAt g 0 [.int .u8 (x0 : Int), .int .u8 (x1 : Int), .int .u8 (x2 : Int), .int .u8 (x3 : Int), .int .u8 (x4 : Int)]) (by kernel_rfl) ?_ (fun hHeld => ?_)
  · exact HSw.out _ HU3.out.drew HR3.out
  have HUd : Hid _ := HU3.out.drew
  have HRd : Hid ((World.drew w3).heap[g]? = some (.cells #[.int .u8 (x0 : Int), .int .u8 (x1 : Int), .int .u8 (x2 : Int), .int .u8 (x3 : Int), .int .u8 (x4 : Int)] 87 (0, 0))) := HR3.out
  generalize World.drew w3 = wd at HUd HRd hHeld ⊢
  refine wpAnyH_take (i := 0) (v := ?_) (by simp only [List.getElem?_toArray, List.getElem?_cons_zero]; rfl) (by kernel_rfl) (by kernel_rfl) (by kernel_rfl) (by intro _ _ _ h; exact h) (Or.inl ⟨by rfl, ?_⟩) (by assumption) ?_
  rotate_left
  · (intro w hSw; (try dsimp only at hSw); go_simp <;> with_reducible rfl)
  try simp only [Act.put, List.setIfInBounds_toArray, List.set_cons_zero, List.set_cons_succ]
  refine wpAnyH_take (i := 1) (v := ?_) (by simp only [List.getElem?_toArray, List.getElem?_cons_succ, List.getElem?_cons_zero]; rfl) (by kernel_rfl) (by kernel_rfl) (by kernel_rfl) (by intro _ _ _ h; exact h) (Or.inl ⟨by rfl, ?_⟩) (by assumption) ?_
  rotate_left
  · (intro w hSw; (try dsimp only at hSw); go_simp <;> with_reducible rfl)
  try simp only [Act.put, List.setIfInBounds_toArray, List.set_cons_zero, List.set_cons_succ]
  refine wpAnyH_take (i := 2) (v := ?_) (by simp only [List.getElem?_toArray, List.getElem?_cons_succ, List.getElem?_cons_zero]; rfl) (by kernel_rfl) (by kernel_rfl) (by kernel_rfl) (by intro _ _ _ h; exact h) (Or.inl ⟨by rfl, ?_⟩) (by assumption) ?_
  rotate_left
  · (intro w hSw; (try dsimp only at hSw); go_simp <;> with_reducible rfl)
  try simp only [Act.put, List.setIfInBounds_toArray, List.set_cons_zero, List.set_cons_succ]
  refine wpAnyH_take (i := 3) (v := ?_) (by simp only [List.getElem?_toArray, List.getElem?_cons_succ, List.getElem?_cons_zero]; rfl) (by kernel_rfl) (by kernel_rfl) (by kernel_rfl) (by intro _ _ _ h; exact h) (Or.inl ⟨by rfl, ?_⟩) (by assumption) ?_
  rotate_left
  · (intro w hSw; (try dsimp only at hSw); go_simp <;> with_reducible rfl)
  try simp only [Act.put, List.setIfInBounds_toArray, List.set_cons_zero, List.set_cons_succ]
  refine wpAnyH_take (i := 4) (v := .agg [.int .u8 (x0 : Int), .int .u8 (x1 : Int), .int .u8 (x2 : Int), .int .u8 (x3 : Int), .int .u8 (x4 : Int)].toArray) (by simp only [List.getElem?_toArray, List.getElem?_cons_succ, List.getElem?_cons_zero]; rfl) (by kernel_rfl) (by kernel_rfl) (by kernel_rfl) (by intro _ _ _ h; exact h) (yieldsIf_load_mid (by rfl) 87 _ rfl g 0 rfl [.int .u8 (x0 : Int), .int .u8 (x1 : Int), .int .u8 (x2 : Int), .int .u8 (x3 : Int), .int .u8 (x4 : Int)] _ (fun w hw => hw.2) Tryd.underlying87 rfl (by kernel_rfl)) (by assumption) ?_
  simp only [Act.put, List.setIfInBounds_toArray, List.set_cons_zero, List.set_cons_succ]
  refine wpAnyH_ready (rs := [5]) (by kernel_rfl) (by simp) ?_
  refine AllReadyH.cons (by simp only [List.getElem?_toArray, List.getElem?_cons_succ, List.getElem?_cons_zero]; rfl) (fun KK hK => ?_) AllReadyH.nil
  go_simp
  refine (HGv.out wd).mono ?_
  rintro e w4 ⟨rfl, u4⟩
  have HU4 : Hid (Up W w4) := HUd.out.trans u4
  have HR4 : Hid (w4.heap[g]? = some (.cells #[.int .u8 (x0 : Int), .int .u8 (x1 : Int), .int .u8 (x2 : Int), .int .u8 (x3 : Int), .int .u8 (x4 : Int)] 87 (0, 0))) := (u4.block g (heap_at HRd.out)).trans HRd.out
  clear u4
  refine hK.out _ _ (HSw.out _ HU4.out HR4.out) (fun hHeld => ?_)
  clear hK KK HUd HRd HR3 HU3 HGv
  try simp only [Act.put, List.setIfInBounds_toArray, List.set_cons_zero, List.set_cons_succ]
  refine wpAnyH_take (i := 6) (v := ?_) (by simp only [List.getElem?_toArray, List.getElem?_cons_succ, List.getElem?_cons_zero]; rfl) (by kernel_rfl) (by kernel_rfl) (by kernel_rfl) (by intro _ _ _ h; exact h) (Or.inl ⟨by rfl, ?_⟩) (by assumption) ?_
  rotate_left
  · (intro w hSw; (try dsimp only at hSw); go_simp <;> with_reducible rfl)
  try simp only [Act.put, List.setIfInBounds_toArray, List.set_cons_zero, List.set_cons_succ]
  refine wpAnyH_done (by kernel_rfl) ?_ _
  clear hHeld
  go_wp2_with fail
  refine wp_region_held_drew (S := fun w => w.cell? ⟨A.cb, 8, none⟩ = some (.iface t8 p8) ∧ w.rangeAt g 0 [.int .u8 (x0 : Int), .int .u8 (x1 : Int), .int .u8 (x2 : Int), .int .u8 (x3 : Int), .int .u8 (x4 : Int)]) (by kernel_rfl) ?_ (fun hHeld => ?_)
  · exact HSw.out _ HU4.out.drew HR4.out
  have HUd : Hid _ := HU4.out.drew
  have HRd : Hid ((World.drew w4).heap[g]? = some (.cells #[.int .u8 (x0 : Int), .int .u8 (x1 : Int), .int .u8 (x2 : Int), .int .u8 (x3 : Int), .int .u8 (x4 : Int)] 87 (0, 0))) := HR4.out
  generalize World.drew w4 = wd at HUd HRd hHeld ⊢
  refine wpAnyH_take (i := 0) (v := ?_) (by simp only [List.getElem?_toArray, List.getElem?_cons_zero]; rfl) (by kernel_rfl) (by kernel_rfl) (by kernel_rfl) (by intro _ _ _ h; exact h) (Or.inl ⟨by rfl, ?_⟩) (by assumption) ?_
  rotate_left
  · (intro w hSw; (try dsimp only at hSw); go_simp <;> with_reducible rfl)
  try simp only [Act.put, List.setIfInBounds_toArray, List.set_cons_zero, List.set_cons_succ]
  refine wpAnyH_take (i := 1) (v := ?_) (by simp only [List.getElem?_toArray, List.getElem?_cons_succ, List.getElem?_cons_zero]; rfl) (by kernel_rfl) (by kernel_rfl) (by kernel_rfl) (by intro _ _ _ h; exact h) (Or.inl ⟨by rfl, ?_⟩) (by assumption) ?_
  rotate_left
  · (intro w hSw; (try dsimp only at hSw); go_simp <;> with_reducible rfl)
  try simp only [Act.put, List.setIfInBounds_toArray, List.set_cons_zero, List.set_cons_succ]
  refine wpAnyH_take (i := 2) (v := ?_) (by simp only [List.getElem?_toArray, List.getElem?_cons_succ, List.getElem?_cons_zero]; rfl) (by kernel_rfl) (by kernel_rfl) (by kernel_rfl) (by intro _ _ _ h; exact h) (Or.inl ⟨by rfl, ?_⟩) (by assumption) ?_
  rotate_left
  · (intro w hSw; (try dsimp only at hSw); go_simp <;> with_reducible rfl)
  try simp only [Act.put, List.setIfInBounds_toArray, List.set_cons_zero, List.set_cons_succ]
  refine wpAnyH_take (i := 3) (v := ?_) (by simp only [List.getElem?_toArray, List.getElem?_cons_succ, List.getElem?_cons_zero]; rfl) (by kernel_rfl) (by kernel_rfl) (by kernel_rfl) (by intro _ _ _ h; exact h) (Or.inl ⟨by rfl, ?_⟩) (by assumption) ?_
  rotate_left
  · (intro w hSw; (try dsimp only at hSw); go_simp <;> with_reducible rfl)
  try simp only [Act.put, List.setIfInBounds_toArray, List.set_cons_zero, List.set_cons_succ]
  refine wpAnyH_take (i := 4) (v := .agg [.int .u8 (x0 : Int), .int .u8 (x1 : Int), .int .u8 (x2 : Int), .int .u8 (x3 : Int), .int .u8 (x4 : Int)].toArray) (by simp only [List.getElem?_toArray, List.getElem?_cons_succ, List.getElem?_cons_zero]; rfl) (by kernel_rfl) (by kernel_rfl) (by kernel_rfl) (by intro _ _ _ h; exact h) (yieldsIf_load_mid (by rfl) 87 _ rfl g 0 rfl [.int .u8 (x0 : Int), .int .u8 (x1 : Int), .int .u8 (x2 : Int), .int .u8 (x3 : Int), .int .u8 (x4 : Int)] _ (fun w hw => hw.2) Tryd.underlying87 rfl (by kernel_rfl)) (by assumption) ?_
  simp only [Act.put, List.setIfInBounds_toArray, List.set_cons_zero, List.set_cons_succ]
  refine wpAnyH_ready (rs := [5]) (by kernel_rfl) (by simp) ?_
  refine AllReadyH.cons (by simp only [List.getElem?_toArray, List.getElem?_cons_succ, List.getElem?_cons_zero]; rfl) (fun KK hK => ?_) AllReadyH.nil
  go_simp
  refine (HPt.out wd (HH.out.up HUd.out)).mono ?_
  rintro e w5 ⟨rfl, hm5, f5⟩
  have HF5 : Hid (FK (fun k => C.m.kd = 0 ∨ k ≠ A.mb) W w5) := (FK.ofUp HUd.out).trans f5
  have HKg : Hid (C.m.kd = 0 ∨ g ≠ A.mb) := by
    rcases HH.out.mp.lt with q | q
    · exact Or.inl q
    · exact Or.inr (by have := HG.out; omega)
  have HM5 : Hid (MpAt w5 A.v ⟨C.m.kd, x0, x1, x2, x3, x4⟩ A.mb) := by rw [HV8.out]; exact hm5
  have HR5 : Hid (w5.heap[g]? = some (.cells #[.int .u8 (x0 : Int), .int .u8 (x1 : Int), .int .u8 (x2 : Int), .int .u8 (x3 : Int), .int .u8 (x4 : Int)] 87 (0, 0))) := (f5.block g (heap_at HRd.out) HKg.out).trans HRd.out
  have HC5 : Hid (CtAt w5 A { C with m := ⟨C.m.kd, x0, x1, x2, x3, x4⟩ }) := by
    have hX := HXs.out
    have q0 := (HReg.out 0 (by decide)).2
    have q1 := (HReg.out 1 (by decide)).2
    have q2 := (HReg.out 2 (by decide)).2
    have q3 := (HReg.out 3 (by decide)).2
    have q4 := (HReg.out 4 (by decide)).2
    rw [hX.1] at q0
    rw [hX.2.1] at q1
    rw [hX.2.2.1] at q2
    rw [hX.2.2.2.1] at q3
    rw [hX.2.2.2.2] at q4
    exact HH.out.changedK HF5.out (in_of hkd (by omega) (by omega) (by omega) (by omega) (by omega)) HM5.out
  clear hm5 f5 HPt
  refine hK.out _ _ ⟨by rw [← HV8.out]; exact heap_cell HC5.out.blk rfl, range_row HR5.out⟩ (fun hHeld => ?_)
  clear hK KK HUd HRd
  try simp only [Act.put, List.setIfInBounds_toArray, List.set_cons_zero, List.set_cons_succ]
  refine wpAnyH_done (by kernel_rfl) ?_ _
  clear hHeld HSw HM5 HR5
  go_wp2_with fail
  have HK7 : Hid (∀ w, Up w5 w → CtAt w A { C with m := ⟨C.m.kd, x0, x1, x2, x3, x4⟩ } ∧ w.cell? ⟨A.cb, 7, none⟩ = some (.slice (some ⟨A.rb, 0, none⟩) C.rm A.rc)) := fun w u => ⟨HC5.out.up u, heap_cell (HC5.out.up u).blk rfl⟩
  refine wp_region_held_drew (S := fun w => w.cell? ⟨A.cb, 7, none⟩ = some (.slice (some ⟨A.rb, 0, none⟩) C.rm A.rc)) (by kernel_rfl) ?_ (fun hHeld => ?_)
  · exact (HK7.out _ (Up.refl _).drew).2
  have HUe : Hid (Up w5 w5.drew) := (Up.refl _).drew
  generalize World.drew w5 = we at HUe hHeld ⊢
  refine wpAnyH_take (i := 0) (v := ?_) (by simp only [List.getElem?_toArray, List.getElem?_cons_zero]; rfl) (by kernel_rfl) (by kernel_rfl) (by kernel_rfl) (by intro _ _ _ h; exact h) (Or.inl ⟨by rfl, ?_⟩) (by assumption) ?_
  rotate_left
  · (intro w hSw; (try dsimp only at hSw); go_simp <;> with_reducible rfl)
  try simp only [Act.put, List.setIfInBounds_toArray, List.set_cons_zero, List.set_cons_succ]
  refine wpAnyH_take (i := 1) (v := ?_) (by simp only [List.getElem?_toArray, List.getElem?_cons_succ, List.getElem?_cons_zero]; rfl) (by kernel_rfl) (by kernel_rfl) (by kernel_rfl) (by intro _ _ _ h; exact h) (Or.inl ⟨by rfl, ?_⟩) (by assumption) ?_
  rotate_left
  · (intro w hSw; (try dsimp only at hSw); go_simp <;> with_reducible rfl)
  try simp only [Act.put, List.setIfInBounds_toArray, List.set_cons_zero, List.set_cons_succ]
  refine wpAnyH_take (i := 2) (v := ?_) (by simp only [List.getElem?_toArray, List.getElem?_cons_succ, List.getElem?_cons_zero]; rfl) (by kernel_rfl) (by kernel_rfl) (by kernel_rfl) (by intro _ _ _ h; exact h) (Or.inl ⟨by rfl, ?_⟩) (by assumption) ?_
  rotate_left
  · (intro w hSw; (try dsimp only at hSw); go_simp <;> with_reducible rfl)
  try simp only [Act.put, List.setIfInBounds_toArray, List.set_cons_zero, List.set_cons_succ]
  refine wpAnyH_take (i := 3) (v := ?_) (by simp only [List.getElem?_toArray, List.getElem?_cons_succ, List.getElem?_cons_zero]; rfl) (by kernel_rfl) (by kernel_rfl) (by kernel_rfl) (by intro _ _ _ h; exact h) (Or.inl ⟨by rfl, ?_⟩) (by assumption) ?_
  rotate_left
  · (intro w hSw; (try dsimp only at hSw); go_simp <;> with_reducible rfl)
  try simp only [Act.put, List.setIfInBounds_toArray, List.set_cons_zero, List.set_cons_succ]
  refine wpAnyH_take (i := 4) (v := ?_) (by simp only [List.getElem?_toArray, List.getElem?_cons_succ, List.getElem?_cons_zero]; rfl) (by kernel_rfl) (by kernel_rfl) (by kernel_rfl) (by intro _ _ _ h; exact h) (Or.inl ⟨by rfl, ?_⟩) (by assumption) ?_
  rotate_left
  · (intro w hSw; (try dsimp only at hSw); go_simp <;> with_reducible rfl)
  try simp only [Act.put, List.setIfInBounds_toArray, List.set_cons_zero, List.set_cons_succ]
  refine wpAnyH_take (i := 5) (v := ?_) (by simp only [List.getElem?_toArray, List.getElem?_cons_succ, List.getElem?_cons_zero]; rfl) (by kernel_rfl) (by kernel_rfl) (by kernel_rfl) (by intro _ _ _ h; exact h) (Or.inl ⟨by rfl, ?_⟩) (by assumption) ?_
  rotate_left
  · (intro w hSw; (try dsimp only at hSw); go_simp <;> with_reducible rfl)
  try simp only [Act.put, List.setIfInBounds_toArray, List.set_cons_zero, List.set_cons_succ]
  have HCp2 : Hid (∀ ty, (Builtin.copy_ #[24, 24] ty #[.slice (some ⟨A.rb, 0, none⟩) C.rm A.rc, .slice (some ⟨ab, ao, none⟩) 0 0]).run Tryd.prog we = .ok (goInt C.rm) (we.setCells A.rb 0 (byL (fun k => f (5 + k)) C.rm))) := fun ty => copy_run (k := C.rm) (HK7.out we HUe.out).1.ram (by show 0 + C.rm ≤ C.rm; omega) (by rw [HNn.out.2]; rfl) (fun j hj => absurd hj (by rw [HNn.out.2]; exact Nat.not_lt_zero j)) A.rc 0 ty
  refine wpAnyH_ready (rs := [6]) (by kernel_rfl) (by simp) ?_
  refine AllReadyH.cons (by simp only [List.getElem?_toArray, List.getElem?_cons_succ, List.getElem?_cons_zero]; rfl) (fun KK hK => ?_) AllReadyH.nil
  refine wp_copy_runI we _ _ 24 24 rfl _ _ rfl rfl (HCp2.out _) ?_
  have HZ : Hid (CtAt (we.setCells A.rb 0 (byL (fun k => f (5 + k)) C.rm)) A (C.loaded f)) := by
    have hc := (HK7.out we HUe.out).1
    have fr := fr_setCells A.rb (byL (fun k => f (5 + k)) C.rm) 0 we
    have hX := HXs.out
    have hb := hc.ram.setCells 0 C.rm (fun k => f (5 + k)) (by show 0 + C.rm ≤ C.rm; omega)
    have em : (⟨C.m.kd, x0, x1, x2, x3, x4⟩ : Mp) = (C.loaded f).m := by
      unfold Ct.loaded
      dsimp only
      rw [hX.1, hX.2.1, hX.2.2.1, hX.2.2.2.1, hX.2.2.2.2]
      simp only [Int.toNat_natCast]
    refine ⟨(fr.block A.cb (heap_at hc.blk) hc.d2).trans hc.blk, hc.rom.of_block (fr.block A.rg hc.rom.lt hc.d4), ?_, em ▸ (hc.mp.fr fr (Ne.symm hc.d6)), em ▸ hc.inn, hc.n1, hc.n2, hc.nc, hc.rc, hc.rm, hc.d1, hc.d2, hc.d3, hc.d4, hc.d5, hc.d6⟩
    exact hb.congr (fun k hk => by rw [putF_in _ _ (Nat.zero_le k) (by show k < 0 + C.rm; have : k < C.rm := hk; omega), Nat.sub_zero]; exact (if_pos hk).symm)
  have HFz : Hid (FK (A.K C.m.kd) W (we.setCells A.rb 0 (byL (fun k => f (5 + k)) C.rm))) := ((HF5.out.trans (FK.ofUp HUe.out)).mono (fun b _ h => h.2)).trans ((FK.ofFr (fr_setCells A.rb _ 0 we) (K := A.K C.m.kd) (fun h => h.1 rfl)))
  generalize World.setCells we _ _ _ = wz at HZ HFz ⊢
  refine hK.out _ _ (heap_cell HZ.out.blk rfl) (fun hHeld => ?_)
  clear hK KK HCp2
  simp only [goInt, Act.put, List.setIfInBounds_toArray, List.set_cons_zero, List.set_cons_succ]
  refine wpAnyH_done (by kernel_rfl) ?_ _
  clear hHeld
  go_wp2_with fail
  go_ret
  exact ⟨by first | rfl | (simp; done), HZ.out, HFz.out⟩
set_option maxRecDepth 100000 in
set_option maxHeartbeats 2000000 in
theorem CtAt.loadNilM {n c ab ao : Nat} {aa : Option Addr} {f : Nat → Int} (h : CtAt W A C) (hL : Byts W aa ab ao n c f) (hn : n = 5 + C.rm) (hn1 : C.rm = 0) (hc : 5 < c) (hfit : ∀ k, k < C.rm → f (5 + k) ≤ (C.m.kp : Int)) (hreg : ∀ k, k < 5 → (loB C.m.kd k : Int) ≤ f k ∧ f k ≤ (hiB C.m.kd k : Int)) (hkd : C.m.kd = 0 ∨ C.m.kd = 1 ∨ C.m.kd = 2 ∨ C.m.kd = 3 ∨ C.m.kd = 5) (d : A.K C.m.kd ab) : Calls Tryd.prog 20 #[.pointer (some ⟨A.cb, 0, none⟩), .slice aa n c] W fun e w' => e = .returned (.int .i64 0) ∧ CtAt w' A (C.loaded f) ∧ FK (A.K C.m.kd) W w' := by
  have lcm : c ≤ 9223372036854775807 := by have := hL.cm; unfold maxLen at this; omega
  have lnc := hL.lc
  obtain rfl : aa = some ⟨ab, ao, none⟩ := hL.ad (by omega)
  have k7 : W.cell? ⟨A.cb, 7, none⟩ = some (.slice (some ⟨A.rb, 0, none⟩) C.rm A.rc) := heap_cell h.blk rfl
  have k8 : W.cell? ⟨A.cb, 8, none⟩ = some A.v := heap_cell h.blk rfl
  obtain ⟨t8, p8, hv8⟩ := mp_iface h.mp
  have HH : Hid (CtAt W A C) := h
  have HL : Hid (Byts W (some ⟨ab, ao, none⟩) ab ao n c f) := hL
  have HD : Hid (A.K C.m.kd ab) := d
  have hrm := h.rm
  have HFi : Hid (∀ w, Up W w → Calls Tryd.prog 42 #[.pointer (some ⟨A.cb, 0, none⟩), .slice (some ⟨ab, ao + 5, none⟩) 0 (c - 5)] w fun e w' => e = .returned (.bool true) ∧ Up w w') := fun w u => (h.up u).fits (t := true) (ab := ab) (ao := ao) (f := f) ⟨Nat.zero_le _, by have := hL.cm; omega, fun h0 => absurd h0 (by decide), hL.u8, fun k hk => absurd hk (Nat.not_lt_zero k)⟩ ⟨fun _ => ⟨hn1.symm, fun k hk => absurd hk (Nat.not_lt_zero k)⟩, fun _ => rfl⟩
  obtain ⟨x0, hx0⟩ := Int.eq_ofNat_of_zero_le (hL.u8 0).1
  obtain ⟨x1, hx1⟩ := Int.eq_ofNat_of_zero_le (hL.u8 1).1
  obtain ⟨x2, hx2⟩ := Int.eq_ofNat_of_zero_le (hL.u8 2).1
  obtain ⟨x3, hx3⟩ := Int.eq_ofNat_of_zero_le (hL.u8 3).1
  obtain ⟨x4, hx4⟩ := Int.eq_ofNat_of_zero_le (hL.u8 4).1
  have HXs : Hid (f 0 = (x0 : Int) ∧ f 1 = (x1 : Int) ∧ f 2 = (x2 : Int) ∧ f 3 = (x3 : Int) ∧ f 4 = (x4 : Int)) := ⟨hx0, hx1, hx2, hx3, hx4⟩
  have HGv : Hid (∀ w, Calls Tryd.prog 43 #[A.v, .agg #[.int .u8 (x0 : Int), .int .u8 (x1 : Int), .int .u8 (x2 : Int), .int .u8 (x3 : Int), .int .u8 (x4 : Int)]] w fun e w' => e = .returned (.bool true) ∧ Up w w') := fun w => by
    refine given_any (t := true) hv8 (l0 := loB C.m.kd 0) (l1 := loB C.m.kd 1) (l2 := loB C.m.kd 2) (l3 := loB C.m.kd 3) (l4 := loB C.m.kd 4) (h0 := hiB C.m.kd 0) (h1 := hiB C.m.kd 1) (h2 := hiB C.m.kd 2) (h3 := hiB C.m.kd 3) (h4 := hiB C.m.kd 4) (fun w => h.mp.bounds w) ⟨fun _ => ?_, fun _ => rfl⟩
    have q0 := hreg 0 (by decide)
    have q1 := hreg 1 (by decide)
    have q2 := hreg 2 (by decide)
    have q3 := hreg 3 (by decide)
    have q4 := hreg 4 (by decide)
    rw [hx0] at q0
    rw [hx1] at q1
    rw [hx2] at q2
    rw [hx3] at q3
    rw [hx4] at q4
    omega
  have HN : Hid (∀ w, CtAt w A C → MpAt w A.v C.m A.mb) := fun w h => h.mp
  have HPt : Hid (∀ w, CtAt w A C → Calls Tryd.prog 44 #[A.v, .agg #[.int .u8 (x0 : Int), .int .u8 (x1 : Int), .int .u8 (x2 : Int), .int .u8 (x3 : Int), .int .u8 (x4 : Int)]] w fun e w' => e = .returned (.tuple #[]) ∧ MpAt w' A.v ⟨C.m.kd, x0, x1, x2, x3, x4⟩ A.mb ∧ FK (fun k => C.m.kd = 0 ∨ k ≠ A.mb) w w') := fun w h => h.mp.putK
  have HReg : Hid (∀ k, k < 5 → (loB C.m.kd k : Int) ≤ f k ∧ f k ≤ (hiB C.m.kd k : Int)) := hreg
  rw [hv8] at HGv HPt
  have HV8 : Hid (A.v = .iface t8 p8) := hv8
  rw [hv8] at k8
  have HNn : Hid (n = 5 + C.rm ∧ C.rm = 0) := ⟨hn, hn1⟩
  have hn55 : n = 5 := by omega
  subst hn55
  have hc5 : ¬ c = 5 := by omega
  clear h hL d hfit hreg hx0 hx1 hx2 hx3 hx4 hv8 hn hn1 HN
  go_enter Tryd.func20, Tryd.ntmps20
  go_wp2_with fail
  refine (HFi.out _ ((Up.refl W).alloc _)).mono ?_
  rintro e w2 ⟨rfl, u2⟩
  have HU2 : Hid (Up W w2) := ((Up.refl W).alloc _).trans u2
  have hR : w2.heap[W.heap.size]? = some (.cells #[.int .u8 0, .int .u8 0, .int .u8 0, .int .u8 0, .int .u8 0] 87 (0, 0)) := (u2.block _ (heap_at (heap_alloc_new W _))).trans (heap_alloc_new W _)
  have HR : Hid _ := hR
  obtain ⟨g, hg⟩ : ∃ g, g = W.heap.size := ⟨_, rfl⟩
  rw [← hg] at HR ⊢
  have HG : Hid (g = W.heap.size) := hg
  clear hR hg u2 HFi k7 k8
  have HCp : Hid (∀ ty, (Builtin.copy_ #[24, 24] ty #[.slice (some ⟨g, 0, none⟩) 5 5, .slice (some ⟨ab, ao, none⟩) 5 c]).run Tryd.prog w2 = .ok (goInt 5) (w2.setCells g 0 (byL f 5))) := fun ty => copy_run (k := 5) (n := 5) (f := fun _ => 0) ⟨_, _, HR.out, by simp, fun k hk => by
    match k, hk with
    | 0, _ => rfl
    | 1, _ => rfl
    | 2, _ => rfl
    | 3, _ => rfl
    | 4, _ => rfl⟩ (by decide) (by rfl) (fun j hj => by rw [Addr.add_lit]; exact (HL.out.upB HU2.out).cell j (by omega)) 5 c ty
  have hX := HXs.out
  have HR3 : Hid ((w2.setCells g 0 (byL f 5)).heap[g]? = some (.cells #[.int .u8 (x0 : Int), .int .u8 (x1 : Int), .int .u8 (x2 : Int), .int .u8 (x3 : Int), .int .u8 (x4 : Int)] 87 (0, 0))) := by
    have hh := heap_setCells_same g 87 (byL f 5) 0 _ _ HR.out
    rw [show byL f 5 = [.int .u8 (f 0), .int .u8 (f 1), .int .u8 (f 2), .int .u8 (f 3), .int .u8 (f 4)] from rfl, hX.1, hX.2.1, hX.2.2.1, hX.2.2.2.1, hX.2.2.2.2] at hh
    rw [show byL f 5 = [.int .u8 (f 0), .int .u8 (f 1), .int .u8 (f 2), .int .u8 (f 3), .int .u8 (f 4)] from rfl, hX.1, hX.2.1, hX.2.2.1, hX.2.2.2.1, hX.2.2.2.2]
    exact hh
  have HU3 : Hid (Up W (w2.setCells g 0 (byL f 5))) := Fr.up HU2.out (by rw [HG.out]; exact Nat.le_refl _) (fr_setCells g _ 0 w2)
  clear hX
  go_wp2_with (refine wpList_copy_runI _ rfl _ _ 24 24 rfl _ _ rfl rfl (HCp.out _) ?_)
  simp only [goInt, Act.put, List.setIfInBounds_toArray, List.set_cons_zero, List.set_cons_succ]
  generalize World.setCells w2 _ _ _ = w3 at HR3 HU3 ⊢
  clear HCp HR HU2
  have HSw : Hid (∀ w, Up W w → w.heap[g]? = some (.cells #[.int .u8 (x0 : Int), .int .u8 (x1 : Int), .int .u8 (x2 : Int), .int .u8 (x3 : Int), .int .u8 (x4 : Int)] 87 (0, 0)) → w.cell? ⟨A.cb, 8, none⟩ = some (.iface t8 p8) ∧ w.rangeAt g 0 [.int .u8 (x0 : Int), .int .u8 (x1 : Int), .int .u8 (x2 : Int), .int .u8 (x3 : Int), .int .u8 (x4 : Int)]) := fun w u hr => ⟨by rw [← HV8.out]; exact heap_cell (HH.out.up u).blk rfl, range_row hr⟩
  refine wp_region_held_drew (S := fun w => w.cell? ⟨A.cb, 8, none⟩ = some (.iface t8 p8) ∧ w.rangeAt g 0 [.int .u8 (x0 : Int), .int .u8 (x1 : Int), .int .u8 (x2 : Int), .int .u8 (x3 : Int), .int .u8 (x4 : Int)]) (by kernel_rfl) ?_ (fun hHeld => ?_)
  · exact HSw.out _ HU3.out.drew HR3.out
  have HUd : Hid _ := HU3.out.drew
  have HRd : Hid ((World.drew w3).heap[g]? = some (.cells #[.int .u8 (x0 : Int), .int .u8 (x1 : Int), .int .u8 (x2 : Int), .int .u8 (x3 : Int), .int .u8 (x4 : Int)] 87 (0, 0))) := HR3.out
  generalize World.drew w3 = wd at HUd HRd hHeld ⊢
  refine wpAnyH_take (i := 0) (v := ?_) (by simp only [List.getElem?_toArray, List.getElem?_cons_zero]; rfl) (by kernel_rfl) (by kernel_rfl) (by kernel_rfl) (by intro _ _ _ h; exact h) (Or.inl ⟨by rfl, ?_⟩) (by assumption) ?_
  rotate_left
  · (intro w hSw; (try dsimp only at hSw); go_simp <;> with_reducible rfl)
  try simp only [Act.put, List.setIfInBounds_toArray, List.set_cons_zero, List.set_cons_succ]
  refine wpAnyH_take (i := 1) (v := ?_) (by simp only [List.getElem?_toArray, List.getElem?_cons_succ, List.getElem?_cons_zero]; rfl) (by kernel_rfl) (by kernel_rfl) (by kernel_rfl) (by intro _ _ _ h; exact h) (Or.inl ⟨by rfl, ?_⟩) (by assumption) ?_
  rotate_left
  · (intro w hSw; (try dsimp only at hSw); go_simp <;> with_reducible rfl)
  try simp only [Act.put, List.setIfInBounds_toArray, List.set_cons_zero, List.set_cons_succ]
  refine wpAnyH_take (i := 2) (v := ?_) (by simp only [List.getElem?_toArray, List.getElem?_cons_succ, List.getElem?_cons_zero]; rfl) (by kernel_rfl) (by kernel_rfl) (by kernel_rfl) (by intro _ _ _ h; exact h) (Or.inl ⟨by rfl, ?_⟩) (by assumption) ?_
  rotate_left
  · (intro w hSw; (try dsimp only at hSw); go_simp <;> with_reducible rfl)
  try simp only [Act.put, List.setIfInBounds_toArray, List.set_cons_zero, List.set_cons_succ]
  refine wpAnyH_take (i := 3) (v := ?_) (by simp only [List.getElem?_toArray, List.getElem?_cons_succ, List.getElem?_cons_zero]; rfl) (by kernel_rfl) (by kernel_rfl) (by kernel_rfl) (by intro _ _ _ h; exact h) (Or.inl ⟨by rfl, ?_⟩) (by assumption) ?_
  rotate_left
  · (intro w hSw; (try dsimp only at hSw); go_simp <;> with_reducible rfl)
  try simp only [Act.put, List.setIfInBounds_toArray, List.set_cons_zero, List.set_cons_succ]
  refine wpAnyH_take (i := 4) (v := .agg [.int .u8 (x0 : Int), .int .u8 (x1 : Int), .int .u8 (x2 : Int), .int .u8 (x3 : Int), .int .u8 (x4 : Int)].toArray) (by simp only [List.getElem?_toArray, List.getElem?_cons_succ, List.getElem?_cons_zero]; rfl) (by kernel_rfl) (by kernel_rfl) (by kernel_rfl) (by intro _ _ _ h; exact h) (yieldsIf_load_mid (by rfl) 87 _ rfl g 0 rfl [.int .u8 (x0 : Int), .int .u8 (x1 : Int), .int .u8 (x2 : Int), .int .u8 (x3 : Int), .int .u8 (x4 : Int)] _ (fun w hw => hw.2) Tryd.underlying87 rfl (by kernel_rfl)) (by assumption) ?_
  simp only [Act.put, List.setIfInBounds_toArray, List.set_cons_zero, List.set_cons_succ]
  refine wpAnyH_ready (rs := [5]) (by kernel_rfl) (by simp) ?_
  refine AllReadyH.cons (by simp only [List.getElem?_toArray, List.getElem?_cons_succ, List.getElem?_cons_zero]; rfl) (fun KK hK => ?_) AllReadyH.nil
  go_simp
  refine (HGv.out wd).mono ?_
  rintro e w4 ⟨rfl, u4⟩
  have HU4 : Hid (Up W w4) := HUd.out.trans u4
  have HR4 : Hid (w4.heap[g]? = some (.cells #[.int .u8 (x0 : Int), .int .u8 (x1 : Int), .int .u8 (x2 : Int), .int .u8 (x3 : Int), .int .u8 (x4 : Int)] 87 (0, 0))) := (u4.block g (heap_at HRd.out)).trans HRd.out
  clear u4
  refine hK.out _ _ (HSw.out _ HU4.out HR4.out) (fun hHeld => ?_)
  clear hK KK HUd HRd HR3 HU3 HGv
  try simp only [Act.put, List.setIfInBounds_toArray, List.set_cons_zero, List.set_cons_succ]
  refine wpAnyH_take (i := 6) (v := ?_) (by simp only [List.getElem?_toArray, List.getElem?_cons_succ, List.getElem?_cons_zero]; rfl) (by kernel_rfl) (by kernel_rfl) (by kernel_rfl) (by intro _ _ _ h; exact h) (Or.inl ⟨by rfl, ?_⟩) (by assumption) ?_
  rotate_left
  · (intro w hSw; (try dsimp only at hSw); go_simp <;> with_reducible rfl)
  try simp only [Act.put, List.setIfInBounds_toArray, List.set_cons_zero, List.set_cons_succ]
  refine wpAnyH_done (by kernel_rfl) ?_ _
  clear hHeld
  go_wp2_with fail
  refine wp_region_held_drew (S := fun w => w.cell? ⟨A.cb, 8, none⟩ = some (.iface t8 p8) ∧ w.rangeAt g 0 [.int .u8 (x0 : Int), .int .u8 (x1 : Int), .int .u8 (x2 : Int), .int .u8 (x3 : Int), .int .u8 (x4 : Int)]) (by kernel_rfl) ?_ (fun hHeld => ?_)
  · exact HSw.out _ HU4.out.drew HR4.out
  have HUd : Hid _ := HU4.out.drew
  have HRd : Hid ((World.drew w4).heap[g]? = some (.cells #[.int .u8 (x0 : Int), .int .u8 (x1 : Int), .int .u8 (x2 : Int), .int .u8 (x3 : Int), .int .u8 (x4 : Int)] 87 (0, 0))) := HR4.out
  generalize World.drew w4 = wd at HUd HRd hHeld ⊢
  refine wpAnyH_take (i := 0) (v := ?_) (by simp only [List.getElem?_toArray, List.getElem?_cons_zero]; rfl) (by kernel_rfl) (by kernel_rfl) (by kernel_rfl) (by intro _ _ _ h; exact h) (Or.inl ⟨by rfl, ?_⟩) (by assumption) ?_
  rotate_left
  · (intro w hSw; (try dsimp only at hSw); go_simp <;> with_reducible rfl)
  try simp only [Act.put, List.setIfInBounds_toArray, List.set_cons_zero, List.set_cons_succ]
  refine wpAnyH_take (i := 1) (v := ?_) (by simp only [List.getElem?_toArray, List.getElem?_cons_succ, List.getElem?_cons_zero]; rfl) (by kernel_rfl) (by kernel_rfl) (by kernel_rfl) (by intro _ _ _ h; exact h) (Or.inl ⟨by rfl, ?_⟩) (by assumption) ?_
  rotate_left
  · (intro w hSw; (try dsimp only at hSw); go_simp <;> with_reducible rfl)
  try simp only [Act.put, List.setIfInBounds_toArray, List.set_cons_zero, List.set_cons_succ]
  refine wpAnyH_take (i := 2) (v := ?_) (by simp only [List.getElem?_toArray, List.getElem?_cons_succ, List.getElem?_cons_zero]; rfl) (by kernel_rfl) (by kernel_rfl) (by kernel_rfl) (by intro _ _ _ h; exact h) (Or.inl ⟨by rfl, ?_⟩) (by assumption) ?_
  rotate_left
  · (intro w hSw; (try dsimp only at hSw); go_simp <;> with_reducible rfl)
  try simp only [Act.put, List.setIfInBounds_toArray, List.set_cons_zero, List.set_cons_succ]
  refine wpAnyH_take (i := 3) (v := ?_) (by simp only [List.getElem?_toArray, List.getElem?_cons_succ, List.getElem?_cons_zero]; rfl) (by kernel_rfl) (by kernel_rfl) (by kernel_rfl) (by intro _ _ _ h; exact h) (Or.inl ⟨by rfl, ?_⟩) (by assumption) ?_
  rotate_left
  · (intro w hSw; (try dsimp only at hSw); go_simp <;> with_reducible rfl)
  try simp only [Act.put, List.setIfInBounds_toArray, List.set_cons_zero, List.set_cons_succ]
  refine wpAnyH_take (i := 4) (v := .agg [.int .u8 (x0 : Int), .int .u8 (x1 : Int), .int .u8 (x2 : Int), .int .u8 (x3 : Int), .int .u8 (x4 : Int)].toArray) (by simp only [List.getElem?_toArray, List.getElem?_cons_succ, List.getElem?_cons_zero]; rfl) (by kernel_rfl) (by kernel_rfl) (by kernel_rfl) (by intro _ _ _ h; exact h) (yieldsIf_load_mid (by rfl) 87 _ rfl g 0 rfl [.int .u8 (x0 : Int), .int .u8 (x1 : Int), .int .u8 (x2 : Int), .int .u8 (x3 : Int), .int .u8 (x4 : Int)] _ (fun w hw => hw.2) Tryd.underlying87 rfl (by kernel_rfl)) (by assumption) ?_
  simp only [Act.put, List.setIfInBounds_toArray, List.set_cons_zero, List.set_cons_succ]
  refine wpAnyH_ready (rs := [5]) (by kernel_rfl) (by simp) ?_
  refine AllReadyH.cons (by simp only [List.getElem?_toArray, List.getElem?_cons_succ, List.getElem?_cons_zero]; rfl) (fun KK hK => ?_) AllReadyH.nil
  go_simp
  refine (HPt.out wd (HH.out.up HUd.out)).mono ?_
  rintro e w5 ⟨rfl, hm5, f5⟩
  have HF5 : Hid (FK (fun k => C.m.kd = 0 ∨ k ≠ A.mb) W w5) := (FK.ofUp HUd.out).trans f5
  have HKg : Hid (C.m.kd = 0 ∨ g ≠ A.mb) := by
    rcases HH.out.mp.lt with q | q
    · exact Or.inl q
    · exact Or.inr (by have := HG.out; omega)
  have HM5 : Hid (MpAt w5 A.v ⟨C.m.kd, x0, x1, x2, x3, x4⟩ A.mb) := by rw [HV8.out]; exact hm5
  have HR5 : Hid (w5.heap[g]? = some (.cells #[.int .u8 (x0 : Int), .int .u8 (x1 : Int), .int .u8 (x2 : Int), .int .u8 (x3 : Int), .int .u8 (x4 : Int)] 87 (0, 0))) := (f5.block g (heap_at HRd.out) HKg.out).trans HRd.out
  have HC5 : Hid (CtAt w5 A { C with m := ⟨C.m.kd, x0, x1, x2, x3, x4⟩ }) := by
    have hX := HXs.out
    have q0 := (HReg.out 0 (by decide)).2
    have q1 := (HReg.out 1 (by decide)).2
    have q2 := (HReg.out 2 (by decide)).2
    have q3 := (HReg.out 3 (by decide)).2
    have q4 := (HReg.out 4 (by decide)).2
    rw [hX.1] at q0
    rw [hX.2.1] at q1
    rw [hX.2.2.1] at q2
    rw [hX.2.2.2.1] at q3
    rw [hX.2.2.2.2] at q4
    exact HH.out.changedK HF5.out (in_of hkd (by omega) (by omega) (by omega) (by omega) (by omega)) HM5.out
  clear hm5 f5 HPt
  refine hK.out _ _ ⟨by rw [← HV8.out]; exact heap_cell HC5.out.blk rfl, range_row HR5.out⟩ (fun hHeld => ?_)
  clear hK KK HUd HRd
  try simp only [Act.put, List.setIfInBounds_toArray, List.set_cons_zero, List.set_cons_succ]
  refine wpAnyH_done (by kernel_rfl) ?_ _
  clear hHeld HSw HM5 HR5
  go_wp2_with fail
  have HK7 : Hid (∀ w, Up w5 w → CtAt w A { C with m := ⟨C.m.kd, x0, x1, x2, x3, x4⟩ } ∧ w.cell? ⟨A.cb, 7, none⟩ = some (.slice (some ⟨A.rb, 0, none⟩) C.rm A.rc)) := fun w u => ⟨HC5.out.up u, heap_cell (HC5.out.up u).blk rfl⟩
  refine wp_region_held_drew (S := fun w => w.cell? ⟨A.cb, 7, none⟩ = some (.slice (some ⟨A.rb, 0, none⟩) C.rm A.rc)) (by kernel_rfl) ?_ (fun hHeld => ?_)
  · exact (HK7.out _ (Up.refl _).drew).2
  have HUe : Hid (Up w5 w5.drew) := (Up.refl _).drew
  generalize World.drew w5 = we at HUe hHeld ⊢
  refine wpAnyH_take (i := 0) (v := ?_) (by simp only [List.getElem?_toArray, List.getElem?_cons_zero]; rfl) (by kernel_rfl) (by kernel_rfl) (by kernel_rfl) (by intro _ _ _ h; exact h) (Or.inl ⟨by rfl, ?_⟩) (by assumption) ?_
  rotate_left
  · (intro w hSw; (try dsimp only at hSw); go_simp <;> with_reducible rfl)
  try simp only [Act.put, List.setIfInBounds_toArray, List.set_cons_zero, List.set_cons_succ]
  refine wpAnyH_take (i := 1) (v := ?_) (by simp only [List.getElem?_toArray, List.getElem?_cons_succ, List.getElem?_cons_zero]; rfl) (by kernel_rfl) (by kernel_rfl) (by kernel_rfl) (by intro _ _ _ h; exact h) (Or.inl ⟨by rfl, ?_⟩) (by assumption) ?_
  rotate_left
  · (intro w hSw; (try dsimp only at hSw); go_simp <;> with_reducible rfl)
  try simp only [Act.put, List.setIfInBounds_toArray, List.set_cons_zero, List.set_cons_succ]
  refine wpAnyH_take (i := 2) (v := ?_) (by simp only [List.getElem?_toArray, List.getElem?_cons_succ, List.getElem?_cons_zero]; rfl) (by kernel_rfl) (by kernel_rfl) (by kernel_rfl) (by intro _ _ _ h; exact h) (Or.inl ⟨by rfl, ?_⟩) (by assumption) ?_
  rotate_left
  · (intro w hSw; (try dsimp only at hSw); go_simp <;> with_reducible rfl)
  try simp only [Act.put, List.setIfInBounds_toArray, List.set_cons_zero, List.set_cons_succ]
  refine wpAnyH_take (i := 3) (v := ?_) (by simp only [List.getElem?_toArray, List.getElem?_cons_succ, List.getElem?_cons_zero]; rfl) (by kernel_rfl) (by kernel_rfl) (by kernel_rfl) (by intro _ _ _ h; exact h) (Or.inl ⟨by rfl, ?_⟩) (by assumption) ?_
  rotate_left
  · (intro w hSw; (try dsimp only at hSw); go_simp <;> with_reducible rfl)
  try simp only [Act.put, List.setIfInBounds_toArray, List.set_cons_zero, List.set_cons_succ]
  refine wpAnyH_take (i := 4) (v := ?_) (by simp only [List.getElem?_toArray, List.getElem?_cons_succ, List.getElem?_cons_zero]; rfl) (by kernel_rfl) (by kernel_rfl) (by kernel_rfl) (by intro _ _ _ h; exact h) (Or.inl ⟨by rfl, ?_⟩) (by assumption) ?_
  rotate_left
  · (intro w hSw; (try dsimp only at hSw); go_simp <;> with_reducible rfl)
  try simp only [Act.put, List.setIfInBounds_toArray, List.set_cons_zero, List.set_cons_succ]
  refine wpAnyH_take (i := 5) (v := ?_) (by simp only [List.getElem?_toArray, List.getElem?_cons_succ, List.getElem?_cons_zero]; rfl) (by kernel_rfl) (by kernel_rfl) (by kernel_rfl) (by intro _ _ _ h; exact h) (Or.inl ⟨by rfl, ?_⟩) (by assumption) ?_
  rotate_left
  · (intro w hSw; (try dsimp only at hSw); go_simp <;> with_reducible rfl)
  try simp only [Act.put, List.setIfInBounds_toArray, List.set_cons_zero, List.set_cons_succ]
  try rw [if_neg hc5]
  have HCp2 : Hid (∀ ty, (Builtin.copy_ #[24, 24] ty #[.slice (some ⟨A.rb, 0, none⟩) C.rm A.rc, .slice (some ⟨ab, ao + 5, none⟩) 0 (c - 5)]).run Tryd.prog we = .ok (goInt C.rm) (we.setCells A.rb 0 (byL (fun k => f (5 + k)) C.rm))) := fun ty => copy_run (k := C.rm) (HK7.out we HUe.out).1.ram (by show 0 + C.rm ≤ C.rm; omega) (by rw [HNn.out.2]; rfl) (fun j hj => absurd hj (by rw [HNn.out.2]; exact Nat.not_lt_zero j)) A.rc (c - 5) ty
  refine wpAnyH_ready (rs := [6]) (by kernel_rfl) (by simp) ?_
  refine AllReadyH.cons (by simp only [List.getElem?_toArray, List.getElem?_cons_succ, List.getElem?_cons_zero]; rfl) (fun KK hK => ?_) AllReadyH.nil
  refine wp_copy_runI we _ _ 24 24 rfl _ _ rfl rfl (HCp2.out _) ?_
  have HZ : Hid (CtAt (we.setCells A.rb 0 (byL (fun k => f (5 + k)) C.rm)) A (C.loaded f)) := by
    have hc := (HK7.out we HUe.out).1
    have fr := fr_setCells A.rb (byL (fun k => f (5 + k)) C.rm) 0 we
    have hX := HXs.out
    have hb := hc.ram.setCells 0 C.rm (fun k => f (5 + k)) (by show 0 + C.rm ≤ C.rm; omega)
    have em : (⟨C.m.kd, x0, x1, x2, x3, x4⟩ : Mp) = (C.loaded f).m := by
      unfold Ct.loaded
      dsimp only
      rw [hX.1, hX.2.1, hX.2.2.1, hX.2.2.2.1, hX.2.2.2.2]
      simp only [Int.toNat_natCast]
    refine ⟨(fr.block A.cb (heap_at hc.blk) hc.d2).trans hc.blk, hc.rom.of_block (fr.block A.rg hc.rom.lt hc.d4), ?_, em ▸ (hc.mp.fr fr (Ne.symm hc.d6)), em ▸ hc.inn, hc.n1, hc.n2, hc.nc, hc.rc, hc.rm, hc.d1, hc.d2, hc.d3, hc.d4, hc.d5, hc.d6⟩
    exact hb.congr (fun k hk => by rw [putF_in _ _ (Nat.zero_le k) (by show k < 0 + C.rm; have : k < C.rm := hk; omega), Nat.sub_zero]; exact (if_pos hk).symm)
  have HFz : Hid (FK (A.K C.m.kd) W (we.setCells A.rb 0 (byL (fun k => f (5 + k)) C.rm))) := ((HF5.out.trans (FK.ofUp HUe.out)).mono (fun b _ h => h.2)).trans ((FK.ofFr (fr_setCells A.rb _ 0 we) (K := A.K C.m.kd) (fun h => h.1 rfl)))
  generalize World.setCells we _ _ _ = wz at HZ HFz ⊢
  refine hK.out _ _ (heap_cell HZ.out.blk rfl) (fun hHeld => ?_)
  clear hK KK HCp2
  simp only [goInt, Act.put, List.setIfInBounds_toArray, List.set_cons_zero, List.set_cons_succ]
  refine wpAnyH_done (by kernel_rfl) ?_ _
  clear hHeld
  go_wp2_with fail
  go_ret
  exact ⟨by first | rfl | (simp; done), HZ.out, HFz.out⟩
end Go.Proofs.YtojlappgmckokaaDoor
/- Cart: CartKept, plainly. -/
namespace Go.Proofs.YtojlappgmckokaaDoor
open Go.Shelf Go.RowKit
set_option linter.unusedVariables false
set_option linter.unusedSimpArgs false
variable {C : Ct} {f h : Nat → Int}
/-- how many of m bytes from 5 on are others -/
def cntF (f h : Nat → Int) : Nat → Nat
  | 0 => 0
  | m + 1 => cntF f h m + (if f (5 + m) = h (5 + m) then 0 else 1)
theorem cntF_zero {m : Nat} (e : ∀ k, k < m → f (5 + k) = h (5 + k)) : cntF f h m = 0 := by
  induction m with
  | zero => rfl
  | succ m ih =>
    unfold cntF
    rw [ih (fun k hk => e k (by omega)), if_pos (e m (by omega))]
theorem cntF_one {m p : Nat} (e : ∀ k, k < m → k ≠ p → f (5 + k) = h (5 + k)) : cntF f h m ≤ 1 := by
  induction m with
  | zero => exact Nat.zero_le _
  | succ m ih =>
    unfold cntF
    by_cases hp : m = p
    · rw [cntF_zero (fun k hk => e k (by omega) (by omega))]
      split <;> omega
    · rw [if_pos (e m (by omega) hp)]
      exact ih (fun k hk => e k (by omega))
theorem cntF_le (f h : Nat → Int) (m : Nat) : cntF f h m ≤ m := by
  induction m with
  | zero => exact Nat.le_refl _
  | succ m ih =>
    unfold cntF
    split <;> omega
/-- a write changes at most one byte of the RAM, and only where the RAM is -/
theorem wr_cnt (C : Ct) (a : Int) (x m : Nat) : cntF (C.wr a x).st C.st m ≤ 1 := by
  refine cntF_one (p := C.at' a) (fun k hk hp => ?_)
  rw [Ct.st_ram, Ct.st_ram]
  unfold Ct.wr
  split
  · rfl
  · split
    · unfold Ct.put
      dsimp only
      exact putF_out _ _ (by omega)
    · rfl
theorem wr_cnt_out {a : Int} {x m : Nat} (hn : ¬ (40960 ≤ a ∧ a < 49152)) : cntF (C.wr a x).st C.st m = 0 := by
  refine cntF_zero (fun k hk => ?_)
  rw [Ct.st_ram, Ct.st_ram]
  unfold Ct.wr
  split
  · rfl
  · rw [if_neg (fun q => hn ⟨q.1, q.2.1⟩)]
/-- a write to the RAM's addresses leaves the registers -/
theorem wr_regs {a : Int} {x k : Nat} (hr : 40960 ≤ a) (hk : k < 5) : (C.wr a x).st k = C.st k := by
  unfold Ct.st catF
  rw [if_pos hk, if_pos hk]
  unfold Ct.wr
  rw [if_neg (by omega)]
  split <;> rfl
theorem wr_m {a : Int} {x : Nat} (hr : 40960 ≤ a) : (C.wr a x).m = C.m := by
  unfold Ct.wr
  rw [if_neg (by omega)]
  split <;> rfl
theorem wr_rm (C : Ct) (a : Int) (x : Nat) : (C.wr a x).rm = C.rm := by
  unfold Ct.wr
  split
  · rfl
  · split <;> rfl
theorem Mp.shows_keeps2 (m : Mp) (x : Int) : m.shows (m.keeps x) = m.shows x := by
  unfold Mp.shows Mp.keeps
  split
  · rw [Int.emod_emod_of_dvd _ (Int.dvd_refl _)]
  · rfl
/-- what is read behind a write to the RAM's addresses -/
theorem wr_read {a : Int} {x : Nat} (h1 : 40960 ≤ a) (h2 : a < 49152) (hx : x ≤ 255) : (C.wr a x).rd a = (x : Int) ∨ (C.wr a x).rd a = (x : Int) % 16 + 240 ∨ ((C.wr a x).rd a = 255 ∧ C.rd a = 255) := by
  by_cases hh : C.here a
  · have e : C.wr a x = C.put a x := by unfold Ct.wr; rw [if_neg (by omega), if_pos hh]
    have hh2 : (C.put a x).here a := hh
    rw [e]
    unfold Ct.rd
    rw [if_neg (by omega), if_neg (by omega), if_neg (by omega), if_pos hh2]
    have e2 : (C.put a x).rf ((C.put a x).at' a) = C.m.keeps (x : Int) := by
      show putF C.rf (C.at' a) 1 (fun _ => C.m.keeps (x : Int)) (C.at' a) = _
      unfold putF
      rw [if_pos ⟨Nat.le_refl _, Nat.lt_succ_self _⟩]
    rw [e2]
    show C.m.shows (C.m.keeps (x : Int)) = _ ∨ C.m.shows (C.m.keeps (x : Int)) = _ ∨ _
    rw [Mp.shows_keeps2]
    unfold Mp.shows
    split
    · exact Or.inr (Or.inl rfl)
    · exact Or.inl rfl
  · have e : C.wr a x = C := by unfold Ct.wr; rw [if_neg (by omega), if_neg hh]
    have e2 : C.rd a = 255 := by
      unfold Ct.rd
      rw [if_neg (by omega), if_neg (by omega), if_neg (by omega), if_neg hh]
    rw [e]
    exact Or.inr (Or.inr ⟨e2, e2⟩)
theorem mod_banks (B banks m at' : Nat) (ha : at' < B) (hb : 1 ≤ banks) : (m * B + at') % (banks * B) = (m % banks) * B + at' := by
  have e : m * B + at' = (banks * B) * (m / banks) + ((m % banks) * B + at') := by
    have h := Nat.div_add_mod m banks
    have h2 : m * B = (banks * (m / banks) + m % banks) * B := by rw [h]
    rw [h2, Nat.add_mul, Nat.mul_right_comm, Nat.add_assoc]
  have hl : (m % banks) * B + at' < banks * B := by
    have h1 : m % banks + 1 ≤ banks := Nat.mod_lt m hb
    have h2 : (m % banks + 1) * B ≤ banks * B := Nat.mul_le_mul_right _ h1
    rw [Nat.add_mul, Nat.one_mul] at h2
    exact Nat.lt_of_lt_of_le (Nat.add_lt_add_left ha _) h2
  rw [e, Nat.mul_add_mod, Nat.mod_eq_of_lt hl]
/-- a byte of the ROM that is read is that of some bank at that place -/
theorem rd_bank {a : Int} (h0 : 0 ≤ a) (h1 : a < 32768) {banks : Nat} (hn : C.n = banks * 16384) (hb : 1 ≤ banks) : ∃ b, b < banks ∧ C.rd a = C.f (b * 16384 + a.toNat % 16384) := by
  unfold Ct.rd
  rw [if_neg (by omega), hn]
  by_cases h2 : a < 16384
  · rw [if_pos h2]
    have ha : a.toNat < 16384 := by omega
    exact ⟨C.m.lower % banks, Nat.mod_lt _ hb, by rw [mod_banks _ _ _ _ ha hb, Nat.mod_eq_of_lt ha]⟩
  · rw [if_neg h2, if_pos h1]
    have ha : a.toNat - 16384 < 16384 := by omega
    have e : a.toNat % 16384 = a.toNat - 16384 := by omega
    exact ⟨C.m.upper % banks, Nat.mod_lt _ hb, by rw [mod_banks _ _ _ _ ha hb, e]⟩
end Go.Proofs.YtojlappgmckokaaDoor
/- Cart: CartKept: what New answers of any bytes; two cartridges and a list that was told. -/
namespace Go.Proofs.YtojlappgmckokaaDoor
open Go.Shelf Go.RowKit
set_option linter.unusedVariables false
set_option linter.unusedSimpArgs false
variable {w w' W : World} {g N : Nat} {f : Nat → Int} {A A2 : Ad} {C D : Ct}
theorem takes_len {R : Rw} {rc n : Nat} (h : takesB R rc n = true) : 2 * 2 ^ rc * 16384 = n := by
  unfold takesB at h
  simp at h
  exact h.2
/-- New without a save, of any bytes -/
theorem new_kept (hT : Tb W) (hB : By W g N f) (h8 : ∀ k, 0 ≤ f k ∧ f k ≤ 255) (hn : N ≤ 2097451) : Calls Tryd.prog 15 #[.slice (some ⟨g, 0, none⟩) N N, .slice none 0 0] W fun e w' => Up W w' ∧ ((∃ x : Int, x ≠ 0 ∧ e = .returned (.tuple #[.pointer none, .int .i64 x])) ∨ (∃ A C, e = .returned (.tuple #[.pointer (some ⟨A.cb, 0, none⟩), .int .i64 0]) ∧ Cz W.heap.size w'.heap.size A C w' ∧ C.n = N ∧ C.f = f ∧ C.n = C.bk * 16384 ∧ 1 ≤ C.bk)) := by
  by_cases hs : N < 32768 ∨ 2097152 < N
  · exact (new_short (Nat.le_refl _) (by omega) hs).mono fun e w' ⟨q1, q2⟩ => ⟨q2, Or.inl ⟨41, by decide, q1⟩⟩
  · refine (new_any hT hB (by omega) (by omega) (Nat.le_refl _) (by omega) h8).mono ?_
    rintro e w' ⟨R, b, mk, hr, hm, u, hcs⟩
    refine ⟨u, ?_⟩
    rcases hcs with ⟨h1, he⟩ | ⟨h1, m, A, ht, hc, a1, a2, a3, a4, he⟩
    · exact Or.inl ⟨_, h1, he⟩
    · have hmp : R.mapper = 0 ∨ R.mapper = 1 ∨ R.mapper = 2 ∨ R.mapper = 3 ∨ R.mapper = 5 := by
        rcases hr with ⟨_, hr, _⟩ | ⟨_, hr, _⟩
        · exact rowsT_mp R hr
        · subst hr; decide
      have htk : takesB R (f 328).toNat N = true := by
        cases hq : takesB R (f 328).toNat N with
        | true => rfl
        | false =>
          unfold faultI at h1
          rw [hq] at h1
          repeat' split at h1
          all_goals first | (exact absurd h1 (by decide)) | (exact absurd rfl (by assumption))
      refine Or.inr ⟨A, _, he, Cz.of ⟨hc, u, a1, a2, a3, a4⟩ (fun k => ⟨Int.le_refl 0, Int.natCast_nonneg _⟩) (Mp.new_std hmp), rfl, rfl, (takes_len htk).symm, ?_⟩
      show 1 ≤ 2 * 2 ^ (f 328).toNat
      have := Nat.two_pow_pos (f 328).toNat
      omega
/-- Load of a state that was told, with RAM or without -/
theorem load_any {lo hi tg sc kd RN : Nat} {F : Nat → Int} (hc : Cz lo hi A D w) (hk : D.m.kd = C.m.kd) (hr : D.rm = C.rm) (ok : C.Ok) (std : C.m.Std) (st : By w tg (5 + C.rm) C.st) (h1 : 5 + C.rm ≤ sc) (h2 : sc ≤ maxLen) (d : Off lo hi tg) : Calls Tryd.prog 20 #[.pointer (some ⟨A.cb, 0, none⟩), .slice (some ⟨tg, 0, none⟩) (5 + C.rm) sc] w fun e w' => e = .returned (.int .i64 0) ∧ Cz lo hi A (D.loaded C.st) w' ∧ FK (Off lo hi) w w' := by
  have hkp : D.m.kp = C.m.kp := by unfold Mp.kp; rw [hk]
  have hb := st.byts h1 h2 (fun k => Ct.st_u8 ok std k)
  have hreg := Ct.st_reg (D := D) std hk
  have hfit : ∀ k, k < D.rm → C.st (5 + k) ≤ (D.m.kp : Int) := fun k hk => by
    rw [Ct.st_ram, hkp]
    exact (ok k).2
  have fin : ∀ (e : Ending) (w' : World), (e = .returned (.int .i64 0) ∧ CtAt w' A (D.loaded C.st) ∧ FK (A.K D.m.kd) w w') → (e = .returned (.int .i64 0) ∧ Cz lo hi A (D.loaded C.st) w' ∧ FK (Off lo hi) w w') := by
    rintro e w' ⟨q1, q2, q3⟩
    refine ⟨q1, ⟨q2, ?_, Mp.std_of_f hc.std.kd hreg, hc.l1, hc.l2, hc.l3, hc.l4⟩, q3.mono (fun k _ hk => hc.offK hk)⟩
    intro k
    show 0 ≤ (if k < D.rm then C.st (5 + k) else 0) ∧ (if k < D.rm then C.st (5 + k) else 0) ≤ (D.m.kp : Int)
    split
    · rename_i hk
      exact ⟨(hb.u8 _).1, hfit k hk⟩
    · exact ⟨Int.le_refl 0, Int.natCast_nonneg _⟩
  by_cases h0 : C.rm = 0
  · by_cases h5 : sc = 5
    · exact (hc.ct.loadNil5 hb (by rw [hr]) (by rw [hr]; exact h0) h5 hfit hreg hc.std.kd (hc.offK d)).mono fin
    · exact (hc.ct.loadNilM hb (by rw [hr]) (by rw [hr]; exact h0) (by omega) hfit hreg hc.std.kd (hc.offK d)).mono fin
  · exact (hc.ct.loadOk hb (by rw [hr]) (by rw [hr]; omega) hfit hreg hc.std.kd (hc.offK d)).mono fin
/-- steps as they come in: rows of four numbers -/
structure Ops4 (W : World) (oa : Option Addr) (ob oo on oc : Nat) (q : Nat → Nat → Int) : Prop where
  lc : on ≤ oc
  cm : oc ≤ maxLen
  ad : 0 < on → oa = some ⟨ob, oo, none⟩
  i64 : ∀ k j, I64 (q k j)
  cell : ∀ k, k < on → ∀ j, j < 4 → W.cell? ⟨ob, oo + k * 4 + j, none⟩ = some (.int .i64 (q k j))
theorem Ops4.up {oa : Option Addr} {ob oo on oc : Nat} {q : Nat → Nat → Int} (h : Ops4 W oa ob oo on oc q) (u : Up W w) : Ops4 w oa ob oo on oc q :=
  ⟨h.lc, h.cm, h.ad, h.i64, fun k hk j hj => cell_up u (h.cell k hk j hj)⟩
/-- the cartridge x beside y, the ROM's bytes, and what was told last -/
structure Kx (W : World) (g N : Nat) (f : Nat → Int) (lo hi lo2 hi2 tg RN KD : Nat) (A A2 : Ad) (C D : Ct) (S : Nat → Int) (w : World) : Prop where
  x : Cz lo hi A C w
  y : Cz lo2 hi2 A2 D w
  rom : By w g N f
  was : By w tg (5 + RN) S
  up : Up W w
  cn : C.n = N ∧ C.f = f ∧ C.rm = RN ∧ C.m.kd = KD ∧ C.n = C.bk * 16384 ∧ 1 ≤ C.bk
  o1 : W.heap.size ≤ lo
  o2 : g < lo
  o3 : hi ≤ lo2
  o4 : hi2 ≤ tg
variable {lo hi lo2 hi2 tg RN KD : Nat} {S : Nat → Int}
theorem Kx.more (h : Kx W g N f lo hi lo2 hi2 tg RN KD A A2 C D S w) (u : Up w w') : Kx W g N f lo hi lo2 hi2 tg RN KD A A2 C D S w' :=
  ⟨h.x.up u, h.y.up u, h.rom.up u, h.was.up u, h.up.trans u, h.cn, h.o1, h.o2, h.o3, h.o4⟩
theorem wr_keep (C : Ct) (a : Int) (x : Nat) : (C.wr a x).n = C.n ∧ (C.wr a x).f = C.f ∧ (C.wr a x).rm = C.rm ∧ (C.wr a x).bk = C.bk := by
  unfold Ct.wr
  split
  · exact ⟨rfl, rfl, rfl, rfl⟩
  · split <;> exact ⟨rfl, rfl, rfl, rfl⟩
theorem Kx.write {a : Int} {v : Nat} (h : Kx W g N f lo hi lo2 hi2 tg RN KD A A2 C D S w) (hv : v ≤ 255) : Calls Tryd.prog 18 #[.pointer (some ⟨A.cb, 0, none⟩), .int .i64 a, .int .u8 (v : Int)] w fun e w' => e = .returned (.tuple #[]) ∧ Kx W g N f lo hi lo2 hi2 tg RN KD A A2 (C.wr a v) D S w' := by
  have o1 := h.o1; have o2 := h.o2; have o3 := h.o3; have o4 := h.o4
  have l2 := h.y.l1
  refine (h.x.write hv).mono fun e w' ⟨q1, q2, q3⟩ => ⟨q1, q2, h.y.keep q3 (fun k hk _ => Or.inr (by omega)), h.rom.of_block (q3.block g h.rom.lt (Or.inl o2)), h.was.of_block (q3.block tg h.was.lt (Or.inr (by omega))), up_off h.up q3 o1, ?_, o1, o2, o3, o4⟩
  obtain ⟨k1, k2, k3, k4⟩ := wr_keep C a v
  obtain ⟨c1, c2, c3, c4, c5, c6⟩ := h.cn
  exact ⟨k1.trans c1, k2.trans c2, k3.trans c3, (Ct.wr_kd C a v).trans c4, by rw [k1, k4]; exact c5, by rw [k4]; exact c6⟩
/-- a new list is told: it takes the elder one's place -/
theorem Kx.told {tg' : Nat} {S' : Nat → Int} (h : Kx W g N f lo hi lo2 hi2 tg RN KD A A2 C D S w) (hb : By w tg' (5 + RN) S') (ho : hi2 ≤ tg') : Kx W g N f lo hi lo2 hi2 tg' RN KD A A2 C D S' w :=
  ⟨h.x, h.y, h.rom, hb, h.up, h.cn, h.o1, h.o2, h.o3, ho⟩
end Go.Proofs.YtojlappgmckokaaDoor
/- What the card of CartKept has besides: how steps come in. -/
namespace Go.Proofs.YtojlappgmckokaaDoor
open Go.ChangeShapes Go.WideShapes Go.ChangeAt Go.RowKit Go.Deep
set_option linter.unusedVariables false
theorem cO : Tryd.prog.cellsOf 52 = 4 := by kernel_rfl
set_option maxRecDepth 100000 in
/-- Steps as they come in. -/
theorem ops_of {H : Type} {enc : TypeId × Value → H} {W : World} {n : Nat} {aa : Option Addr} {len cap : Nat} {x : DataW H × List MemPlace}
    (h2 : DataW.trod enc Tryd.prog W 0 (fun _ => true) true n 50 [.slice aa len cap] = some x) :
    ∃ (ob oo : Nat) (q : Nat → Nat → Int), Ops4 W aa ob oo len cap q := by
  have z0 : I64 0 := by unfold I64; decide
  rcases open_slice Tryd.underlying50 h2 with ⟨hcs, hx⟩ | ⟨a, len', cap', m, n', D, Pl, hcs, _, hl, hm, hmm, hx, hxx⟩
  · simp at hcs
    obtain ⟨rfl, rfl, rfl⟩ := hcs
    exact ⟨0, 0, fun _ _ => 0, Nat.le_refl _, Nat.zero_le _, fun h => by omega, fun _ _ => z0, fun k hk => by omega⟩
  · simp at hcs
    obtain ⟨rfl, rfl, rfl⟩ := hcs
    simp only [if_true] at hmm
    rw [hmm] at hxx
    have each : ∀ i, i < len → ∃ z : Nat → Int, (∀ j, I64 (z j)) ∧ ∀ j, j < 4 → W.cell? (a.add (i * 4 + j)) = some (.int .i64 (z j)) := by
      intro i hi
      obtain ⟨cs', h1, h3⟩ := hxx i (by omega)
      rw [cO] at h1
      obtain ⟨_, hlen, hcell⟩ := World.cells?_some h1
      obtain ⟨xs, k, hk, hxy, _, hxl, hf⟩ := DataW.trod_struct Tryd.underlying52 h3
      match xs, hxl, cs', hlen with
      | [y0, y1, y2, y3], _, [v0, v1, v2, v3], _ =>
        have g0 := hf 0 _ rfl
        have g1 := hf 1 _ rfl
        have g2 := hf 2 _ rfl
        have g3 := hf 3 _ rfl
        simp [cells3] at g0 g1 g2 g3
        obtain ⟨a0, e0, f0, w0⟩ := DataW.trod_int Tryd.underlying3 g0
        obtain ⟨a1, e1, f1, w1⟩ := DataW.trod_int Tryd.underlying3 g1
        obtain ⟨a2, e2, f2, w2⟩ := DataW.trod_int Tryd.underlying3 g2
        obtain ⟨a3, e3, f3, w3⟩ := DataW.trod_int Tryd.underlying3 g3
        simp at e0 e1 e2 e3
        subst e0 e1 e2 e3
        refine ⟨fun j => if j = 0 then a0 else if j = 1 then a1 else if j = 2 then a2 else a3, fun j => ?_, fun j hj => ?_⟩
        · show I64 (if j = 0 then a0 else if j = 1 then a1 else if j = 2 then a2 else a3)
          split
          · exact i64Of w0
          · split
            · exact i64Of w1
            · split
              · exact i64Of w2
              · exact i64Of w3
        · have c := hcell j hj
          rw [add_add] at c
          rw [c]
          have : j = 0 ∨ j = 1 ∨ j = 2 ∨ j = 3 := by omega
          rcases this with rfl | rfl | rfl | rfl <;> rfl
    have all : ∀ i, ∃ z : Nat → Int, (∀ j, I64 (z j)) ∧ (i < len → ∀ j, j < 4 → W.cell? (a.add (i * 4 + j)) = some (.int .i64 (z j))) := fun i => by
      by_cases hi : i < len
      · obtain ⟨z, h1, h2⟩ := each i hi
        exact ⟨z, h1, fun _ => h2⟩
      · exact ⟨fun _ => 0, fun _ => z0, fun h => absurd h hi⟩
    obtain ⟨q, hq⟩ : ∃ q : Nat → Nat → Int, ∀ i, (∀ j, I64 (q i j)) ∧ (i < len → ∀ j, j < 4 → W.cell? (a.add (i * 4 + j)) = some (.int .i64 (q i j))) := ⟨fun i => Classical.choose (all i), fun i => Classical.choose_spec (all i)⟩
    by_cases h0 : len = 0
    · subst h0
      exact ⟨0, 0, q, hl, hm, fun h => by omega, fun k j => (hq k).1 j, fun k hk => by omega⟩
    · obtain ⟨b, off, spot⟩ := a
      have hspot : spot = none := by simpa [Addr.add] using World.cell?_spot ((hq 0).2 (by omega) 0 (by decide))
      subst hspot
      refine ⟨b, off, q, hl, hm, fun _ => rfl, fun k j => (hq k).1 j, fun k hk j hj => ?_⟩
      have := (hq k).2 hk j hj
      rw [addOf, ← Nat.add_assoc] at this
      exact this
end Go.Proofs.YtojlappgmckokaaDoor
