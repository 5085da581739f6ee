import Derived.Test.YtojlappgmckokaaDoorXmD
import Derived.Test.YtojlappgmckokaaDoorXmI
import Derived.Test.YtojlappgmckokaaDoorXmG
import Derived.Test.YtojlappgmckokaaDoorXmL
import Derived.Test.YtojlappgmckokaaDoorXmH
/- Cart: Load of five bytes that is refused. -/
namespace Go.Proofs.YtojlappgmckokaaDoor
open Go.Shelf Go.RowKit
set_option linter.unusedVariables false
set_option linter.unusedSimpArgs false
variable {w w' W : World} {b : Nat} {A : Ad} {C : Ct}
set_option maxRecDepth 100000 in
set_option maxHeartbeats 2000000 in
theorem CtAt.loadOut5 {n c ab ao : Nat} {aa : Option Addr} {f : Nat → Int} (h : CtAt W A C) (hL : Byts W aa ab ao n c f) (hn : n = 5 + C.rm) (hn1 : C.rm = 0) (hc : c = 5) (hfit : ∀ k, k < C.rm → f (5 + k) ≤ (C.m.kp : Int)) (hreg : ¬ ∀ k, k < 5 → (loB C.m.kd k : Int) ≤ f k ∧ f k ≤ (hiB C.m.kd k : Int)) : Calls Tryd.prog 20 #[.pointer (some ⟨A.cb, 0, none⟩), .slice aa n c] W fun e w' => e = .returned (.int .i64 49) ∧ Up W w' := by
  have lcm : c ≤ 9223372036854775807 := by have := hL.cm; unfold maxLen at this; omega
  have lnc := hL.lc
  obtain rfl : aa = some ⟨ab, ao, none⟩ := hL.ad (by omega)
  have k7 : W.cell? ⟨A.cb, 7, none⟩ = some (.slice (some ⟨A.rb, 0, none⟩) C.rm A.rc) := heap_cell h.blk rfl
  have k8 : W.cell? ⟨A.cb, 8, none⟩ = some A.v := heap_cell h.blk rfl
  obtain ⟨t8, p8, hv8⟩ := mp_iface h.mp
  have HH : Hid (CtAt W A C) := h
  have HL : Hid (Byts W (some ⟨ab, ao, none⟩) ab ao n c f) := hL
  have hrm := h.rm
  have HFi : Hid (∀ w, Up W w → Calls Tryd.prog 42 #[.pointer (some ⟨A.cb, 0, none⟩), .slice (some ⟨ab, ao, none⟩) 0 0] w fun e w' => e = .returned (.bool true) ∧ Up w w') := fun w u => (h.up u).fits (t := true) (ab := ab) (ao := ao) (f := f) ⟨Nat.zero_le _, by have := hL.cm; exact Nat.zero_le _, fun h0 => absurd h0 (by decide), hL.u8, fun k hk => absurd hk (Nat.not_lt_zero k)⟩ ⟨fun _ => ⟨hn1.symm, fun k hk => absurd hk (Nat.not_lt_zero k)⟩, fun _ => rfl⟩
  obtain ⟨x0, hx0⟩ := Int.eq_ofNat_of_zero_le (hL.u8 0).1
  obtain ⟨x1, hx1⟩ := Int.eq_ofNat_of_zero_le (hL.u8 1).1
  obtain ⟨x2, hx2⟩ := Int.eq_ofNat_of_zero_le (hL.u8 2).1
  obtain ⟨x3, hx3⟩ := Int.eq_ofNat_of_zero_le (hL.u8 3).1
  obtain ⟨x4, hx4⟩ := Int.eq_ofNat_of_zero_le (hL.u8 4).1
  have HXs : Hid (f 0 = (x0 : Int) ∧ f 1 = (x1 : Int) ∧ f 2 = (x2 : Int) ∧ f 3 = (x3 : Int) ∧ f 4 = (x4 : Int)) := ⟨hx0, hx1, hx2, hx3, hx4⟩
  have HGv : Hid (∀ w, Calls Tryd.prog 43 #[A.v, .agg #[.int .u8 (x0 : Int), .int .u8 (x1 : Int), .int .u8 (x2 : Int), .int .u8 (x3 : Int), .int .u8 (x4 : Int)]] w fun e w' => e = .returned (.bool false) ∧ Up w w') := fun w => by
    refine given_any (t := false) hv8 (l0 := loB C.m.kd 0) (l1 := loB C.m.kd 1) (l2 := loB C.m.kd 2) (l3 := loB C.m.kd 3) (l4 := loB C.m.kd 4) (h0 := hiB C.m.kd 0) (h1 := hiB C.m.kd 1) (h2 := hiB C.m.kd 2) (h3 := hiB C.m.kd 3) (h4 := hiB C.m.kd 4) (fun w => h.mp.bounds w) ⟨(fun q => (by cases q)), fun q => absurd (fun k hk => ?_) hreg⟩
    match k, hk with
    | 0, _ => rw [hx0]; omega
    | 1, _ => rw [hx1]; omega
    | 2, _ => rw [hx2]; omega
    | 3, _ => rw [hx3]; omega
    | 4, _ => rw [hx4]; omega
  rw [hv8] at HGv
  have HV8 : Hid (A.v = .iface t8 p8) := hv8
  rw [hv8] at k8
  have HN : Hid (n = 5 + C.rm) := hn
  have HNn : Hid (n = 5 + C.rm ∧ C.rm = 0) := ⟨hn, hn1⟩
  have hn55 : n = 5 := by omega
  subst hn55
  subst hc
  clear h hL hfit hreg hx0 hx1 hx2 hx3 hx4 hv8 hn hn1 HN
  go_enter Tryd.func20, Tryd.ntmps20
  go_wp2_with fail
  refine (HFi.out _ ((Up.refl W).alloc _)).mono ?_
  rintro e w2 ⟨rfl, u2⟩
  have HU2 : Hid (Up W w2) := ((Up.refl W).alloc _).trans u2
  have hR : w2.heap[W.heap.size]? = some (.cells #[.int .u8 0, .int .u8 0, .int .u8 0, .int .u8 0, .int .u8 0] 87 (0, 0)) := (u2.block _ (heap_at (heap_alloc_new W _))).trans (heap_alloc_new W _)
  have HR : Hid _ := hR
  obtain ⟨g, hg⟩ : ∃ g, g = W.heap.size := ⟨_, rfl⟩
  rw [← hg] at HR ⊢
  have HG : Hid (g = W.heap.size) := hg
  clear hR hg u2 HFi k7 k8
  have HCp : Hid (∀ ty, (Builtin.copy_ #[24, 24] ty #[.slice (some ⟨g, 0, none⟩) 5 5, .slice (some ⟨ab, ao, none⟩) 5 5]).run Tryd.prog w2 = .ok (goInt 5) (w2.setCells g 0 (byL f 5))) := fun ty => copy_run (k := 5) (n := 5) (f := fun _ => 0) ⟨_, _, HR.out, by simp, fun k hk => by
    match k, hk with
    | 0, _ => rfl
    | 1, _ => rfl
    | 2, _ => rfl
    | 3, _ => rfl
    | 4, _ => rfl⟩ (by decide) (by show 5 = min 5 5; rfl) (fun j hj => by rw [Addr.add_lit]; exact (HL.out.upB HU2.out).cell j (by omega)) 5 5 ty
  have hX := HXs.out
  have HR3 : Hid ((w2.setCells g 0 (byL f 5)).heap[g]? = some (.cells #[.int .u8 (x0 : Int), .int .u8 (x1 : Int), .int .u8 (x2 : Int), .int .u8 (x3 : Int), .int .u8 (x4 : Int)] 87 (0, 0))) := by
    have hh := heap_setCells_same g 87 (byL f 5) 0 _ _ HR.out
    rw [show byL f 5 = [.int .u8 (f 0), .int .u8 (f 1), .int .u8 (f 2), .int .u8 (f 3), .int .u8 (f 4)] from rfl, hX.1, hX.2.1, hX.2.2.1, hX.2.2.2.1, hX.2.2.2.2] at hh
    rw [show byL f 5 = [.int .u8 (f 0), .int .u8 (f 1), .int .u8 (f 2), .int .u8 (f 3), .int .u8 (f 4)] from rfl, hX.1, hX.2.1, hX.2.2.1, hX.2.2.2.1, hX.2.2.2.2]
    exact hh
  have HU3 : Hid (Up W (w2.setCells g 0 (byL f 5))) := Fr.up HU2.out (by rw [HG.out]; exact Nat.le_refl _) (fr_setCells g _ 0 w2)
  clear hX
  go_wp2_with (refine wpList_copy_runI _ rfl _ _ 24 24 rfl _ _ rfl rfl (HCp.out _) ?_)
  simp only [goInt, Act.put, List.setIfInBounds_toArray, List.set_cons_zero, List.set_cons_succ]
  generalize World.setCells w2 _ _ _ = w3 at HR3 HU3 ⊢
  clear HCp HR HU2
  have HSw : Hid (∀ w, Up W w → w.heap[g]? = some (.cells #[.int .u8 (x0 : Int), .int .u8 (x1 : Int), .int .u8 (x2 : Int), .int .u8 (x3 : Int), .int .u8 (x4 : Int)] 87 (0, 0)) → w.cell? ⟨A.cb, 8, none⟩ = some (.iface t8 p8) ∧ w.rangeAt g 0 [.int .u8 (x0 : Int), .int .u8 (x1 : Int), .int .u8 (x2 : Int), .int .u8 (x3 : Int), .int .u8 (x4 : Int)]) := fun w u hr => ⟨by rw [← HV8.out]; exact heap_cell (HH.out.up u).blk rfl, range_row hr⟩
  refine wp_region_held_drew (S := fun w => w.cell? ⟨A.cb, 8, none⟩ = some (.iface t8 p8) ∧ w.rangeAt g 0 [.int .u8 (x0 : Int), .int .u8 (x1 : Int), .int .u8 (x2 : Int), .int .u8 (x3 : Int), .int .u8 (x4 : Int)]) (by kernel_rfl) ?_ (fun hHeld => ?_)
  · exact HSw.out _ HU3.out.drew HR3.out
  have HUd : Hid _ := HU3.out.drew
  have HRd : Hid ((World.drew w3).heap[g]? = some (.cells #[.int .u8 (x0 : Int), .int .u8 (x1 : Int), .int .u8 (x2 : Int), .int .u8 (x3 : Int), .int .u8 (x4 : Int)] 87 (0, 0))) := HR3.out
  generalize World.drew w3 = wd at HUd HRd hHeld ⊢
  refine wpAnyH_take (i := 0) (v := ?_) (by simp only [List.getElem?_toArray, List.getElem?_cons_zero]; rfl) (by kernel_rfl) (by kernel_rfl) (by kernel_rfl) (by intro _ _ _ h; exact h) (Or.inl ⟨by rfl, ?_⟩) (by assumption) ?_
  rotate_left
  · (intro w hSw; (try dsimp only at hSw); go_simp <;> with_reducible rfl)
  try simp only [Act.put, List.setIfInBounds_toArray, List.set_cons_zero, List.set_cons_succ]
  refine wpAnyH_take (i := 1) (v := ?_) (by simp only [List.getElem?_toArray, List.getElem?_cons_succ, List.getElem?_cons_zero]; rfl) (by kernel_rfl) (by kernel_rfl) (by kernel_rfl) (by intro _ _ _ h; exact h) (Or.inl ⟨by rfl, ?_⟩) (by assumption) ?_
  rotate_left
  · (intro w hSw; (try dsimp only at hSw); go_simp <;> with_reducible rfl)
  try simp only [Act.put, List.setIfInBounds_toArray, List.set_cons_zero, List.set_cons_succ]
  refine wpAnyH_take (i := 2) (v := ?_) (by simp only [List.getElem?_toArray, List.getElem?_cons_succ, List.getElem?_cons_zero]; rfl) (by kernel_rfl) (by kernel_rfl) (by kernel_rfl) (by intro _ _ _ h; exact h) (Or.inl ⟨by rfl, ?_⟩) (by assumption) ?_
  rotate_left
  · (intro w hSw; (try dsimp only at hSw); go_simp <;> with_reducible rfl)
  try simp only [Act.put, List.setIfInBounds_toArray, List.set_cons_zero, List.set_cons_succ]
  refine wpAnyH_take (i := 3) (v := ?_) (by simp only [List.getElem?_toArray, List.getElem?_cons_succ, List.getElem?_cons_zero]; rfl) (by kernel_rfl) (by kernel_rfl) (by kernel_rfl) (by intro _ _ _ h; exact h) (Or.inl ⟨by rfl, ?_⟩) (by assumption) ?_
  rotate_left
  · (intro w hSw; (try dsimp only at hSw); go_simp <;> with_reducible rfl)
  try simp only [Act.put, List.setIfInBounds_toArray, List.set_cons_zero, List.set_cons_succ]
  refine wpAnyH_take (i := 4) (v := .agg [.int .u8 (x0 : Int), .int .u8 (x1 : Int), .int .u8 (x2 : Int), .int .u8 (x3 : Int), .int .u8 (x4 : Int)].toArray) (by simp only [List.getElem?_toArray, List.getElem?_cons_succ, List.getElem?_cons_zero]; rfl) (by kernel_rfl) (by kernel_rfl) (by kernel_rfl) (by intro _ _ _ h; exact h) (yieldsIf_load_mid (by rfl) 87 _ rfl g 0 rfl [.int .u8 (x0 : Int), .int .u8 (x1 : Int), .int .u8 (x2 : Int), .int .u8 (x3 : Int), .int .u8 (x4 : Int)] _ (fun w hw => hw.2) Tryd.underlying87 rfl (by kernel_rfl)) (by assumption) ?_
  simp only [Act.put, List.setIfInBounds_toArray, List.set_cons_zero, List.set_cons_succ]
  refine wpAnyH_ready (rs := [5]) (by kernel_rfl) (by simp) ?_
  refine AllReadyH.cons (by simp only [List.getElem?_toArray, List.getElem?_cons_succ, List.getElem?_cons_zero]; rfl) (fun KK hK => ?_) AllReadyH.nil
  go_simp
  refine (HGv.out wd).mono ?_
  rintro e w4 ⟨rfl, u4⟩
  have HU4 : Hid (Up W w4) := HUd.out.trans u4
  have HR4 : Hid (w4.heap[g]? = some (.cells #[.int .u8 (x0 : Int), .int .u8 (x1 : Int), .int .u8 (x2 : Int), .int .u8 (x3 : Int), .int .u8 (x4 : Int)] 87 (0, 0))) := (u4.block g (heap_at HRd.out)).trans HRd.out
  clear u4
  refine hK.out _ _ (HSw.out _ HU4.out HR4.out) (fun hHeld => ?_)
  clear hK KK HUd HRd HR3 HU3 HGv
  try simp only [Act.put, List.setIfInBounds_toArray, List.set_cons_zero, List.set_cons_succ]
  refine wpAnyH_take (i := 6) (v := ?_) (by simp only [List.getElem?_toArray, List.getElem?_cons_succ, List.getElem?_cons_zero]; rfl) (by kernel_rfl) (by kernel_rfl) (by kernel_rfl) (by intro _ _ _ h; exact h) (Or.inl ⟨by rfl, ?_⟩) (by assumption) ?_
  rotate_left
  · (intro w hSw; (try dsimp only at hSw); go_simp <;> with_reducible rfl)
  try simp only [Act.put, List.setIfInBounds_toArray, List.set_cons_zero, List.set_cons_succ]
  refine wpAnyH_done (by kernel_rfl) ?_ _
  clear hHeld
  go_wp2_with fail
  go_ret
  exact ⟨by first | rfl | (simp; done), HU4.out⟩
set_option maxRecDepth 100000 in
set_option maxHeartbeats 2000000 in
theorem CtAt.loadOutM {n c ab ao : Nat} {aa : Option Addr} {f : Nat → Int} (h : CtAt W A C) (hL : Byts W aa ab ao n c f) (hn : n = 5 + C.rm) (hn1 : C.rm = 0) (hc : 5 < c) (hfit : ∀ k, k < C.rm → f (5 + k) ≤ (C.m.kp : Int)) (hreg : ¬ ∀ k, k < 5 → (loB C.m.kd k : Int) ≤ f k ∧ f k ≤ (hiB C.m.kd k : Int)) : Calls Tryd.prog 20 #[.pointer (some ⟨A.cb, 0, none⟩), .slice aa n c] W fun e w' => e = .returned (.int .i64 49) ∧ Up W w' := by
  have lcm : c ≤ 9223372036854775807 := by have := hL.cm; unfold maxLen at this; omega
  have lnc := hL.lc
  obtain rfl : aa = some ⟨ab, ao, none⟩ := hL.ad (by omega)
  have k7 : W.cell? ⟨A.cb, 7, none⟩ = some (.slice (some ⟨A.rb, 0, none⟩) C.rm A.rc) := heap_cell h.blk rfl
  have k8 : W.cell? ⟨A.cb, 8, none⟩ = some A.v := heap_cell h.blk rfl
  obtain ⟨t8, p8, hv8⟩ := mp_iface h.mp
  have HH : Hid (CtAt W A C) := h
  have HL : Hid (Byts W (some ⟨ab, ao, none⟩) ab ao n c f) := hL
  have hrm := h.rm
  have HFi : Hid (∀ w, Up W w → Calls Tryd.prog 42 #[.pointer (some ⟨A.cb, 0, none⟩), .slice (some ⟨ab, ao + 5, none⟩) 0 (c - 5)] w fun e w' => e = .returned (.bool true) ∧ Up w w') := fun w u => (h.up u).fits (t := true) (ab := ab) (ao := ao) (f := f) ⟨Nat.zero_le _, by have := hL.cm; omega, fun h0 => absurd h0 (by decide), hL.u8, fun k hk => absurd hk (Nat.not_lt_zero k)⟩ ⟨fun _ => ⟨hn1.symm, fun k hk => absurd hk (Nat.not_lt_zero k)⟩, fun _ => rfl⟩
  obtain ⟨x0, hx0⟩ := Int.eq_ofNat_of_zero_le (hL.u8 0).1
  obtain ⟨x1, hx1⟩ := Int.eq_ofNat_of_zero_le (hL.u8 1).1
  obtain ⟨x2, hx2⟩ := Int.eq_ofNat_of_zero_le (hL.u8 2).1
  obtain ⟨x3, hx3⟩ := Int.eq_ofNat_of_zero_le (hL.u8 3).1
  obtain ⟨x4, hx4⟩ := Int.eq_ofNat_of_zero_le (hL.u8 4).1
  have HXs : Hid (f 0 = (x0 : Int) ∧ f 1 = (x1 : Int) ∧ f 2 = (x2 : Int) ∧ f 3 = (x3 : Int) ∧ f 4 = (x4 : Int)) := ⟨hx0, hx1, hx2, hx3, hx4⟩
  have HGv : Hid (∀ w, Calls Tryd.prog 43 #[A.v, .agg #[.int .u8 (x0 : Int), .int .u8 (x1 : Int), .int .u8 (x2 : Int), .int .u8 (x3 : Int), .int .u8 (x4 : Int)]] w fun e w' => e = .returned (.bool false) ∧ Up w w') := fun w => by
    refine given_any (t := false) hv8 (l0 := loB C.m.kd 0) (l1 := loB C.m.kd 1) (l2 := loB C.m.kd 2) (l3 := loB C.m.kd 3) (l4 := loB C.m.kd 4) (h0 := hiB C.m.kd 0) (h1 := hiB C.m.kd 1) (h2 := hiB C.m.kd 2) (h3 := hiB C.m.kd 3) (h4 := hiB C.m.kd 4) (fun w => h.mp.bounds w) ⟨(fun q => (by cases q)), fun q => absurd (fun k hk => ?_) hreg⟩
    match k, hk with
    | 0, _ => rw [hx0]; omega
    | 1, _ => rw [hx1]; omega
    | 2, _ => rw [hx2]; omega
    | 3, _ => rw [hx3]; omega
    | 4, _ => rw [hx4]; omega
  rw [hv8] at HGv
  have HV8 : Hid (A.v = .iface t8 p8) := hv8
  rw [hv8] at k8
  have HN : Hid (n = 5 + C.rm) := hn
  have HNn : Hid (n = 5 + C.rm ∧ C.rm = 0) := ⟨hn, hn1⟩
  have hn55 : n = 5 := by omega
  subst hn55
  have hc5 : ¬ c = 5 := by omega
  clear h hL hfit hreg hx0 hx1 hx2 hx3 hx4 hv8 hn hn1 HN
  go_enter Tryd.func20, Tryd.ntmps20
  go_wp2_with fail
  refine (HFi.out _ ((Up.refl W).alloc _)).mono ?_
  rintro e w2 ⟨rfl, u2⟩
  have HU2 : Hid (Up W w2) := ((Up.refl W).alloc _).trans u2
  have hR : w2.heap[W.heap.size]? = some (.cells #[.int .u8 0, .int .u8 0, .int .u8 0, .int .u8 0, .int .u8 0] 87 (0, 0)) := (u2.block _ (heap_at (heap_alloc_new W _))).trans (heap_alloc_new W _)
  have HR : Hid _ := hR
  obtain ⟨g, hg⟩ : ∃ g, g = W.heap.size := ⟨_, rfl⟩
  rw [← hg] at HR ⊢
  have HG : Hid (g = W.heap.size) := hg
  clear hR hg u2 HFi k7 k8
  have HCp : Hid (∀ ty, (Builtin.copy_ #[24, 24] ty #[.slice (some ⟨g, 0, none⟩) 5 5, .slice (some ⟨ab, ao, none⟩) 5 c]).run Tryd.prog w2 = .ok (goInt 5) (w2.setCells g 0 (byL f 5))) := fun ty => copy_run (k := 5) (n := 5) (f := fun _ => 0) ⟨_, _, HR.out, by simp, fun k hk => by
    match k, hk with
    | 0, _ => rfl
    | 1, _ => rfl
    | 2, _ => rfl
    | 3, _ => rfl
    | 4, _ => rfl⟩ (by decide) (by show 5 = min 5 5; rfl) (fun j hj => by rw [Addr.add_lit]; exact (HL.out.upB HU2.out).cell j (by omega)) 5 c ty
  have hX := HXs.out
  have HR3 : Hid ((w2.setCells g 0 (byL f 5)).heap[g]? = some (.cells #[.int .u8 (x0 : Int), .int .u8 (x1 : Int), .int .u8 (x2 : Int), .int .u8 (x3 : Int), .int .u8 (x4 : Int)] 87 (0, 0))) := by
    have hh := heap_setCells_same g 87 (byL f 5) 0 _ _ HR.out
    rw [show byL f 5 = [.int .u8 (f 0), .int .u8 (f 1), .int .u8 (f 2), .int .u8 (f 3), .int .u8 (f 4)] from rfl, hX.1, hX.2.1, hX.2.2.1, hX.2.2.2.1, hX.2.2.2.2] at hh
    rw [show byL f 5 = [.int .u8 (f 0), .int .u8 (f 1), .int .u8 (f 2), .int .u8 (f 3), .int .u8 (f 4)] from rfl, hX.1, hX.2.1, hX.2.2.1, hX.2.2.2.1, hX.2.2.2.2]
    exact hh
  have HU3 : Hid (Up W (w2.setCells g 0 (byL f 5))) := Fr.up HU2.out (by rw [HG.out]; exact Nat.le_refl _) (fr_setCells g _ 0 w2)
  clear hX
  go_wp2_with (refine wpList_copy_runI _ rfl _ _ 24 24 rfl _ _ rfl rfl (HCp.out _) ?_)
  simp only [goInt, Act.put, List.setIfInBounds_toArray, List.set_cons_zero, List.set_cons_succ]
  generalize World.setCells w2 _ _ _ = w3 at HR3 HU3 ⊢
  clear HCp HR HU2
  have HSw : Hid (∀ w, Up W w → w.heap[g]? = some (.cells #[.int .u8 (x0 : Int), .int .u8 (x1 : Int), .int .u8 (x2 : Int), .int .u8 (x3 : Int), .int .u8 (x4 : Int)] 87 (0, 0)) → w.cell? ⟨A.cb, 8, none⟩ = some (.iface t8 p8) ∧ w.rangeAt g 0 [.int .u8 (x0 : Int), .int .u8 (x1 : Int), .int .u8 (x2 : Int), .int .u8 (x3 : Int), .int .u8 (x4 : Int)]) := fun w u hr => ⟨by rw [← HV8.out]; exact heap_cell (HH.out.up u).blk rfl, range_row hr⟩
  refine wp_region_held_drew (S := fun w => w.cell? ⟨A.cb, 8, none⟩ = some (.iface t8 p8) ∧ w.rangeAt g 0 [.int .u8 (x0 : Int), .int .u8 (x1 : Int), .int .u8 (x2 : Int), .int .u8 (x3 : Int), .int .u8 (x4 : Int)]) (by kernel_rfl) ?_ (fun hHeld => ?_)
  · exact HSw.out _ HU3.out.drew HR3.out
  have HUd : Hid _ := HU3.out.drew
  have HRd : Hid ((World.drew w3).heap[g]? = some (.cells #[.int .u8 (x0 : Int), .int .u8 (x1 : Int), .int .u8 (x2 : Int), .int .u8 (x3 : Int), .int .u8 (x4 : Int)] 87 (0, 0))) := HR3.out
  generalize World.drew w3 = wd at HUd HRd hHeld ⊢
  refine wpAnyH_take (i := 0) (v := ?_) (by simp only [List.getElem?_toArray, List.getElem?_cons_zero]; rfl) (by kernel_rfl) (by kernel_rfl) (by kernel_rfl) (by intro _ _ _ h; exact h) (Or.inl ⟨by rfl, ?_⟩) (by assumption) ?_
  rotate_left
  · (intro w hSw; (try dsimp only at hSw); go_simp <;> with_reducible rfl)
  try simp only [Act.put, List.setIfInBounds_toArray, List.set_cons_zero, List.set_cons_succ]
  refine wpAnyH_take (i := 1) (v := ?_) (by simp only [List.getElem?_toArray, List.getElem?_cons_succ, List.getElem?_cons_zero]; rfl) (by kernel_rfl) (by kernel_rfl) (by kernel_rfl) (by intro _ _ _ h; exact h) (Or.inl ⟨by rfl, ?_⟩) (by assumption) ?_
  rotate_left
  · (intro w hSw; (try dsimp only at hSw); go_simp <;> with_reducible rfl)
  try simp only [Act.put, List.setIfInBounds_toArray, List.set_cons_zero, List.set_cons_succ]
  refine wpAnyH_take (i := 2) (v := ?_) (by simp only [List.getElem?_toArray, List.getElem?_cons_succ, List.getElem?_cons_zero]; rfl) (by kernel_rfl) (by kernel_rfl) (by kernel_rfl) (by intro _ _ _ h; exact h) (Or.inl ⟨by rfl, ?_⟩) (by assumption) ?_
  rotate_left
  · (intro w hSw; (try dsimp only at hSw); go_simp <;> with_reducible rfl)
  try simp only [Act.put, List.setIfInBounds_toArray, List.set_cons_zero, List.set_cons_succ]
  refine wpAnyH_take (i := 3) (v := ?_) (by simp only [List.getElem?_toArray, List.getElem?_cons_succ, List.getElem?_cons_zero]; rfl) (by kernel_rfl) (by kernel_rfl) (by kernel_rfl) (by intro _ _ _ h; exact h) (Or.inl ⟨by rfl, ?_⟩) (by assumption) ?_
  rotate_left
  · (intro w hSw; (try dsimp only at hSw); go_simp <;> with_reducible rfl)
  try simp only [Act.put, List.setIfInBounds_toArray, List.set_cons_zero, List.set_cons_succ]
  refine wpAnyH_take (i := 4) (v := .agg [.int .u8 (x0 : Int), .int .u8 (x1 : Int), .int .u8 (x2 : Int), .int .u8 (x3 : Int), .int .u8 (x4 : Int)].toArray) (by simp only [List.getElem?_toArray, List.getElem?_cons_succ, List.getElem?_cons_zero]; rfl) (by kernel_rfl) (by kernel_rfl) (by kernel_rfl) (by intro _ _ _ h; exact h) (yieldsIf_load_mid (by rfl) 87 _ rfl g 0 rfl [.int .u8 (x0 : Int), .int .u8 (x1 : Int), .int .u8 (x2 : Int), .int .u8 (x3 : Int), .int .u8 (x4 : Int)] _ (fun w hw => hw.2) Tryd.underlying87 rfl (by kernel_rfl)) (by assumption) ?_
  simp only [Act.put, List.setIfInBounds_toArray, List.set_cons_zero, List.set_cons_succ]
  refine wpAnyH_ready (rs := [5]) (by kernel_rfl) (by simp) ?_
  refine AllReadyH.cons (by simp only [List.getElem?_toArray, List.getElem?_cons_succ, List.getElem?_cons_zero]; rfl) (fun KK hK => ?_) AllReadyH.nil
  go_simp
  refine (HGv.out wd).mono ?_
  rintro e w4 ⟨rfl, u4⟩
  have HU4 : Hid (Up W w4) := HUd.out.trans u4
  have HR4 : Hid (w4.heap[g]? = some (.cells #[.int .u8 (x0 : Int), .int .u8 (x1 : Int), .int .u8 (x2 : Int), .int .u8 (x3 : Int), .int .u8 (x4 : Int)] 87 (0, 0))) := (u4.block g (heap_at HRd.out)).trans HRd.out
  clear u4
  refine hK.out _ _ (HSw.out _ HU4.out HR4.out) (fun hHeld => ?_)
  clear hK KK HUd HRd HR3 HU3 HGv
  try simp only [Act.put, List.setIfInBounds_toArray, List.set_cons_zero, List.set_cons_succ]
  refine wpAnyH_take (i := 6) (v := ?_) (by simp only [List.getElem?_toArray, List.getElem?_cons_succ, List.getElem?_cons_zero]; rfl) (by kernel_rfl) (by kernel_rfl) (by kernel_rfl) (by intro _ _ _ h; exact h) (Or.inl ⟨by rfl, ?_⟩) (by assumption) ?_
  rotate_left
  · (intro w hSw; (try dsimp only at hSw); go_simp <;> with_reducible rfl)
  try simp only [Act.put, List.setIfInBounds_toArray, List.set_cons_zero, List.set_cons_succ]
  refine wpAnyH_done (by kernel_rfl) ?_ _
  clear hHeld
  go_wp2_with fail
  go_ret
  exact ⟨by first | rfl | (simp; done), HU4.out⟩
set_option maxRecDepth 100000 in
theorem CtAt.loadUnfit5 {c ab ao : Nat} {aa : Option Addr} {f : Nat → Int} (h : CtAt W A C) (hL : Byts W aa ab ao 5 c f) (hc : c = 5) (h1 : 1 ≤ C.rm) : Calls Tryd.prog 20 #[.pointer (some ⟨A.cb, 0, none⟩), .slice aa 5 c] W fun e w' => e = .returned (.int .i64 49) ∧ Up W w' := by
  have lcm : c ≤ 9223372036854775807 := by have := hL.cm; unfold maxLen at this; omega
  obtain rfl : aa = some ⟨ab, ao, none⟩ := hL.ad (by omega)
  have HFi : Hid (∀ w, Up W w → Calls Tryd.prog 42 #[.pointer (some ⟨A.cb, 0, none⟩), .slice (some ⟨ab, ao, none⟩) 0 0] w fun e w' => e = .returned (.bool false) ∧ Up w w') := fun w u => (h.up u).fits (t := false) (ab := ab) (ao := ao) (f := fun k => f (5 + k)) ⟨Nat.zero_le _, by have := hL.cm; omega, fun q => by omega, fun k => hL.u8 _, fun k hk => by omega⟩ ⟨(fun q => (by cases q)), fun q => by have := q.1; omega⟩
  subst hc
  clear h hL
  go_enter Tryd.func20, Tryd.ntmps20
  go_wp2_with fail
  refine (HFi.out _ ((Up.refl W).alloc _)).mono ?_
  rintro e w2 ⟨rfl, u2⟩
  have HU2 : Hid (Up W w2) := ((Up.refl W).alloc _).trans u2
  clear u2 HFi
  go_wp2_with fail
  go_ret
  exact ⟨by first | rfl | (simp; done), HU2.out⟩
set_option maxRecDepth 100000 in
theorem CtAt.loadUnfitM {c ab ao : Nat} {aa : Option Addr} {f : Nat → Int} (h : CtAt W A C) (hL : Byts W aa ab ao 5 c f) (hc : 5 < c) (h1 : 1 ≤ C.rm) : Calls Tryd.prog 20 #[.pointer (some ⟨A.cb, 0, none⟩), .slice aa 5 c] W fun e w' => e = .returned (.int .i64 49) ∧ Up W w' := by
  have lcm : c ≤ 9223372036854775807 := by have := hL.cm; unfold maxLen at this; omega
  obtain rfl : aa = some ⟨ab, ao, none⟩ := hL.ad (by omega)
  have HFi : Hid (∀ w, Up W w → Calls Tryd.prog 42 #[.pointer (some ⟨A.cb, 0, none⟩), .slice (some ⟨ab, ao + 5, none⟩) 0 (c - 5)] w fun e w' => e = .returned (.bool false) ∧ Up w w') := fun w u => (h.up u).fits (t := false) (ab := ab) (ao := ao + 5) (f := fun k => f (5 + k)) ⟨Nat.zero_le _, by have := hL.cm; omega, fun q => by omega, fun k => hL.u8 _, fun k hk => by omega⟩ ⟨(fun q => (by cases q)), fun q => by have := q.1; omega⟩
  have hc5 : ¬ c = 5 := by omega
  clear h hL
  go_enter Tryd.func20, Tryd.ntmps20
  go_wp2_with fail
  refine (HFi.out _ ((Up.refl W).alloc _)).mono ?_
  rintro e w2 ⟨rfl, u2⟩
  have HU2 : Hid (Up W w2) := ((Up.refl W).alloc _).trans u2
  clear u2 HFi
  go_wp2_with fail
  go_ret
  exact ⟨by first | rfl | (simp; done), HU2.out⟩
end Go.Proofs.YtojlappgmckokaaDoor
/- Cart: the program's Load, of any bytes. -/
namespace Go.Proofs.YtojlappgmckokaaDoor
open Go.Shelf Go.RowKit
set_option linter.unusedVariables false
set_option linter.unusedSimpArgs false
variable {w w' W : World} {A : Ad} {C : Ct} {lo hi : Nat}
theorem load_all {n c ab ao : Nat} {aa : Option Addr} {f : Nat → Int} (h : Cz lo hi A C w) (hL : Byts w aa ab ao n c f) (d : Off lo hi ab) : Calls Tryd.prog 20 #[.pointer (some ⟨A.cb, 0, none⟩), .slice aa n c] w fun e w' => (¬ C.Takes n f ∧ e = .returned (.int .i64 49) ∧ Up w w') ∨ (C.Takes n f ∧ e = .returned (.int .i64 0) ∧ Cz lo hi A (C.loaded f) w' ∧ FK (Off lo hi) w w') := by
  have cm : c ≤ 9223372036854775807 := by have := hL.cm; unfold maxLen at this; omega
  have no : ∀ {e : Ending} {w' : World}, ¬ C.Takes n f → (e = .returned (.int .i64 49) ∧ Up w w') → ((¬ C.Takes n f ∧ e = .returned (.int .i64 49) ∧ Up w w') ∨ (C.Takes n f ∧ e = .returned (.int .i64 0) ∧ Cz lo hi A (C.loaded f) w' ∧ FK (Off lo hi) w w')) := fun h1 h2 => Or.inl ⟨h1, h2⟩
  by_cases h5 : n < 5
  · exact (load_short h5 hL.lc cm).mono fun e w' q => no (fun t => by have := t.1; omega) q
  by_cases hn : ¬ n = 5 + C.rm
  · by_cases h6 : 5 < n
    · exact (h.ct.loadUnfit hL h6 (fun t => by have := t.1; omega)).mono fun e w' q => no (fun t => hn t.1) q
    · obtain rfl : n = 5 := by omega
      by_cases hc : c = 5
      · exact (h.ct.loadUnfit5 hL hc (by omega)).mono fun e w' q => no (fun t => hn t.1) q
      · exact (h.ct.loadUnfitM hL (by have := hL.lc; omega) (by omega)).mono fun e w' q => no (fun t => hn t.1) q
  have hn : n = 5 + C.rm := Decidable.not_not.1 hn
  by_cases hfit : ¬ ∀ k, k < C.rm → f (5 + k) ≤ (C.m.kp : Int)
  · have h1 : 1 ≤ C.rm := by
      by_cases h0 : C.rm = 0
      · exact absurd (fun k hk => by omega) hfit
      · omega
    refine (h.ct.loadUnfit hL (by omega) (fun t => hfit (fun k hk => t.2 k (by omega)))).mono fun e w' q => no (fun t => hfit t.2.2) q
  have hfit : ∀ k, k < C.rm → f (5 + k) ≤ (C.m.kp : Int) := Classical.not_not.1 hfit
  by_cases hreg : ∀ k, k < 5 → (loB C.m.kd k : Int) ≤ f k ∧ f k ≤ (hiB C.m.kd k : Int)
  · have fin : ∀ (e : Ending) (w' : World), (e = .returned (.int .i64 0) ∧ CtAt w' A (C.loaded f) ∧ FK (A.K C.m.kd) w w') → ((¬ C.Takes n f ∧ e = .returned (.int .i64 49) ∧ Up w w') ∨ (C.Takes n f ∧ e = .returned (.int .i64 0) ∧ Cz lo hi A (C.loaded f) w' ∧ FK (Off lo hi) w w')) := by
      rintro e w' ⟨q1, q2, q3⟩
      refine Or.inr ⟨⟨hn, hreg, hfit⟩, q1, ⟨q2, ?_, Mp.std_of_f h.std.kd hreg, h.l1, h.l2, h.l3, h.l4⟩, q3.mono (fun k _ hk => h.offK hk)⟩
      intro k
      show 0 ≤ (if k < C.rm then f (5 + k) else 0) ∧ (if k < C.rm then f (5 + k) else 0) ≤ (C.m.kp : Int)
      split
      · rename_i hk
        exact ⟨(hL.u8 _).1, hfit k hk⟩
      · exact ⟨Int.le_refl 0, Int.natCast_nonneg _⟩
    by_cases h0 : C.rm = 0
    · by_cases hc : c = 5
      · exact (h.ct.loadNil5 hL hn h0 hc hfit hreg h.std.kd (h.offK d)).mono fin
      · exact (h.ct.loadNilM hL hn h0 (by have := hL.lc; omega) hfit hreg h.std.kd (h.offK d)).mono fin
    · exact (h.ct.loadOk hL hn (by omega) hfit hreg h.std.kd (h.offK d)).mono fin
  · by_cases h0 : C.rm = 0
    · by_cases hc : c = 5
      · exact (h.ct.loadOut5 hL hn h0 hc hfit hreg).mono fun e w' q => no (fun t => hreg t.2.1) q
      · exact (h.ct.loadOutM hL hn h0 (by have := hL.lc; omega) hfit hreg).mono fun e w' q => no (fun t => hreg t.2.1) q
    · exact (h.ct.loadOut hL hn (by omega) hfit hreg).mono fun e w' q => no (fun t => hreg t.2.1) q
end Go.Proofs.YtojlappgmckokaaDoor
/- Cart: the law's pair with its book. -/
namespace Go.Proofs.YtojlappgmckokaaDoor
open Go.Shelf Go.RowKit
set_option linter.unusedVariables false
set_option linter.unusedSimpArgs false
/-- blocks of others that a pair does not touch -/
structure Qk where
  K : Nat → Prop
  W : World
variable {w w' W : World} {pb lo hi n H : Nat} {Q : Qk} {A : Ad} {Y : Yd} {C D C' D' : Ct} {S : Nat → Prop} {L : Bd} {f hf : Nat → Int} {v u : Value}
/-- a pair, its book, and what State told last -/
structure Pw (W : World) (Q : Qk) (pb lo hi : Nat) (A : Ad) (Y : Yd) (C D : Ct) (S : Nat → Prop) (L : Bd) (H : Nat) (hf : Nat → Int) (w : World) : Prop where
  up : Up W w
  wl : W.heap.size ≤ lo
  x : Cz lo hi A C w
  y : RtAt w Y D
  y1 : hi ≤ Y.yb ∧ Y.yb < pb
  y2 : hi ≤ Y.rg ∧ Y.rg < pb
  y3 : hi ≤ Y.rb ∧ Y.rb < pb
  bf : Bf S (pb + 1) pb w L H hf
  e0 : L.x0 = .pointer (some ⟨A.cb, 0, none⟩)
  e1 : L.x1 = .pointer (some ⟨Y.yb, 0, none⟩)
  la : ∃ a b o n c f, L.x2 = .slice a n c ∧ Byts w a b o n c f ∧ (n ≤ 4000000 ∧ (a = none → c = 0)) ∧ ∀ g, L.x2.ownBlock = some g → pb < g ∧ g < w.heap.size ∧ ¬ Al S L g
  hb : C.bat = true → 1 ≤ C.rm
  kp : ∀ b, Q.K b → pb < b ∧ b < w.heap.size ∧ ¬ Al S L b ∧ L.x2.ownBlock ≠ some b ∧ w.heap[b]? = Q.W.heap[b]?
theorem Byts.keep {a : Option Addr} {b o c : Nat} (h : Byts w a b o n c f) (hk : 0 < n → w'.heap[b]? = w.heap[b]?) : Byts w' a b o n c f := by
  refine ⟨h.lc, h.cm, h.ad, h.u8, fun k q => ?_⟩
  unfold World.cell?
  rw [show (w'.heap[(⟨b, o + k, none⟩ : Addr).block]?) = w.heap[(⟨b, o + k, none⟩ : Addr).block]? from hk (by omega)]
  exact h.cell k q
theorem Pw.lh (h : Pw W Q pb lo hi A Y C D S L H hf w) : lo ≤ hi ∧ hi ≤ pb ∧ pb < w.heap.size ∧ W.heap.size ≤ pb := by
  have h1 := h.x.l1; have h2 := h.y1; have h3 := h.bf.bl.pl; have := h.wl
  omega
theorem RtAt.keepK {K : Nat → Prop} (h : RtAt w Y D) (f : FK K w w') (h1 : K Y.yb) (h2 : K Y.rg) (h3 : K Y.rb) : RtAt w' Y D :=
  ⟨(f.block _ (heap_at h.blk) h1).trans h.blk, h.rom.of_block (f.block _ h.rom.lt h2), h.ram.of_block (f.block _ h.ram.lt h3), h.std, h.ok, h.mp, h.nb, h.nc, h.rc, h.rm, h.d1, h.d2, h.d3⟩
theorem Pw.al (h : Pw W Q pb lo hi A Y C D S L H hf w) {b : Nat} (hb : Al S L b) : pb < b := (h.bf.al hb).1
theorem Pw.upW (h : Pw W Q pb lo hi A Y C D S L H hf w) (q : Up w w') : Pw W Q pb lo hi A Y C D S L H hf w' := by
  obtain ⟨a, b, o, n, c, f, e, hy, hn, h0⟩ := h.la
  exact ⟨h.up.trans q, h.wl, h.x.up q, h.y.up q, h.y1, h.y2, h.y3, h.bf.up q, h.e0, h.e1, ⟨a, b, o, n, c, f, e, hy.upB q, hn, fun g hg => ⟨(h0 g hg).1, Nat.lt_of_lt_of_le (h0 g hg).2.1 q.size, (h0 g hg).2.2⟩⟩, h.hb, fun b hb => by obtain ⟨k1, k2, k3, k4, k5⟩ := h.kp b hb; exact ⟨k1, Nat.lt_of_lt_of_le k2 q.size, k3, k4, (q.block b k2).trans k5⟩⟩
/-- the program's cartridge has changed -/
theorem Pw.chX (h : Pw W Q pb lo hi A Y C D S L H hf w) (x : Cz lo hi A C' w') (q : FK (Off lo hi) w w') (hb : C'.bat = true → 1 ≤ C'.rm) : Pw W Q pb lo hi A Y C' D S L H hf w' := by
  obtain ⟨l1, l2, l3, l4⟩ := h.lh
  have hw := h.wl
  have a1 := h.y1; have a2 := h.y2; have a3 := h.y3
  obtain ⟨a, b, o, n, c, f, e, hy, hn, h0⟩ := h.la
  have h1 := fun k : 0 < n => h0 b (by rw [e, hy.ad k]; rfl)
  refine ⟨⟨q.os.trans h.up.os, q.output.trans h.up.output, Nat.le_trans h.up.size q.size, fun b hb => (q.block b (Nat.lt_of_lt_of_le hb h.up.size) (Or.inl (by omega))).trans (h.up.block b hb)⟩, h.wl, x, h.y.keepK q (Or.inr (by omega)) (Or.inr (by omega)) (Or.inr (by omega)), h.y1, h.y2, h.y3, h.bf.keep q (Or.inr (by omega)) (fun b hb => Or.inr (by have := h.al hb; omega)), h.e0, h.e1, ⟨a, b, o, n, c, f, e, hy.keep (fun k => q.block b (h1 k).2.1 (Or.inr (by have := (h1 k).1; omega))), hn, fun g hg => ⟨(h0 g hg).1, Nat.lt_of_lt_of_le (h0 g hg).2.1 q.size, (h0 g hg).2.2⟩⟩, hb, fun b hb => by obtain ⟨k1, k2, k3, k4, k5⟩ := h.kp b hb; exact ⟨k1, Nat.lt_of_lt_of_le k2 q.size, k3, k4, (q.block b k2 (Or.inr (by omega))).trans k5⟩⟩
/-- the document's cartridge has changed -/
theorem Pw.chY (h : Pw W Q pb lo hi A Y C D S L H hf w) (y : RtAt w' Y D') (q : FK Y.K w w') : Pw W Q pb lo hi A Y C D' S L H hf w' := by
  obtain ⟨l1, l2, l3, l4⟩ := h.lh
  have hw := h.wl
  have a1 := h.y1; have a2 := h.y2; have a3 := h.y3
  have hk : ∀ b, b < hi ∨ pb ≤ b → Y.K b := fun b hb => ⟨by rcases hb with q | q <;> omega, by rcases hb with q | q <;> omega⟩
  obtain ⟨a, b, o, n, c, f, e, hy, hn, h0⟩ := h.la
  have h1 := fun k : 0 < n => h0 b (by rw [e, hy.ad k]; rfl)
  refine ⟨⟨q.os.trans h.up.os, q.output.trans h.up.output, Nat.le_trans h.up.size q.size, fun b hb => (q.block b (Nat.lt_of_lt_of_le hb h.up.size) (hk b (Or.inl (by omega)))).trans (h.up.block b hb)⟩, h.wl, h.x.keep q (fun k _ k2 => hk k (Or.inl k2)), y, h.y1, h.y2, h.y3, h.bf.keep q (hk pb (Or.inr (Nat.le_refl _))) (fun b hb => hk b (Or.inr (by have := h.al hb; omega))), h.e0, h.e1, ⟨a, b, o, n, c, f, e, hy.keep (fun k => q.block b (h1 k).2.1 (hk b (Or.inr (by have := (h1 k).1; omega)))), hn, fun g hg => ⟨(h0 g hg).1, Nat.lt_of_lt_of_le (h0 g hg).2.1 q.size, (h0 g hg).2.2⟩⟩, h.hb, fun b hb => by obtain ⟨k1, k2, k3, k4, k5⟩ := h.kp b hb; exact ⟨k1, Nat.lt_of_lt_of_le k2 q.size, k3, k4, (q.block b k2 (hk b (Or.inr (by omega)))).trans k5⟩⟩
theorem Pw.c0 (h : Pw W Q pb lo hi A Y C D S L H hf w) : w.cell? ⟨pb, 0, none⟩ = some (.pointer (some ⟨A.cb, 0, none⟩)) := by rw [← h.e0]; exact heap_cell h.bf.bl.blk rfl
theorem Pw.c1 (h : Pw W Q pb lo hi A Y C D S L H hf w) : w.cell? ⟨pb, 1, none⟩ = some (.pointer (some ⟨Y.yb, 0, none⟩)) := by rw [← h.e1]; exact heap_cell h.bf.bl.blk rfl
/-- a list is put into the book -/
theorem Pw.put (h : Pw W Q pb lo hi A Y C D S L H hf w) (hv : w.ownsRow (pb + 1) 5 1 v n (byL f n)) (h8 : ∀ k, 0 ≤ f k ∧ f k ≤ 255) (hn : n ≤ 4000000) (hA : ∀ b, v.ownBlock = some b → ¬ Al S L b ∧ L.x2.ownBlock ≠ some b ∧ ¬ Q.K b) (hN : L.es.length ≤ 20000000) :
    Calls Tryd.prog 51 #[.pointer (some ⟨pb, 3, none⟩), v] w fun e w' => e = .returned (.bool true) ∧ FK (fun b => ¬ Al S L b ∧ b ≠ pb) w w' ∧ ∃ S' L', Pw W Q pb lo hi A Y C D S' L' n f w' ∧ L'.es.length = L.es.length + 4 ∧ L'.x2 = L.x2 ∧ (∀ b, Al S' L' b → Al S L b ∨ v.ownBlock = some b ∨ w.heap.size ≤ b) := by
  refine (putB_any h.bf hv h8 hn (fun b hb => (hA b hb).1) hN).mono ?_
  rintro e w' ⟨rfl, ⟨⟨S', L', bf, ehv, en, q0, q1, q2, qa⟩, ch⟩⟩
  obtain ⟨l1, l2, l3, l4⟩ := h.lh
  have hw := h.wl
  have a1 := h.y1; have a2 := h.y2; have a3 := h.y3
  have hk : ∀ b, b < pb → ¬ Al S L b ∧ b ≠ pb := fun b hb => ⟨fun q => by have := h.al q; omega, by omega⟩
  obtain ⟨a, b, o, m, c, g, e, hy, hm, h0⟩ := h.la
  have h1 := fun k : 0 < m => h0 b (by rw [e, hy.ad k]; rfl)
  refine ⟨rfl, ch, S', L', ⟨⟨ch.os.trans h.up.os, ch.output.trans h.up.output, Nat.le_trans h.up.size ch.size, fun b hb => (ch.block b (Nat.lt_of_lt_of_le hb h.up.size) (hk b (by omega))).trans (h.up.block b hb)⟩, h.wl, h.x.keep ch (fun k _ k2 => hk k (by omega)), h.y.keepK ch (hk _ a1.2) (hk _ a2.2) (hk _ a3.2), h.y1, h.y2, h.y3, bf, by rw [q0, h.e0], by rw [q1, h.e1], ⟨a, b, o, m, c, g, by rw [q2, e], hy.keep (fun k => ch.block b (h1 k).2.1 ⟨(h1 k).2.2, by have := (h1 k).1; omega⟩), hm, fun b hb => ?_⟩, h.hb, fun b hb => by
    obtain ⟨k1, k2, k3, k4, k5⟩ := h.kp b hb
    refine ⟨k1, Nat.lt_of_lt_of_le k2 ch.size, fun q => ?_, by rw [q2]; exact k4, (ch.block b k2 ⟨k3, by omega⟩).trans k5⟩
    rcases qa b q with q | q | q
    · exact k3 q
    · exact (hA b q).2.2 hb
    · omega⟩, en, q2, qa⟩
  rw [q2] at hb
  have k := h0 b hb
  refine ⟨k.1, Nat.lt_of_lt_of_le k.2.1 ch.size, fun q => ?_⟩
  rcases qa b q with q | q | q
  · exact k.2.2 q
  · exact (hA b q).2.1 hb
  · omega
/-- what State told last is another list now -/
theorem Pw.last {b c : Nat} (h : Pw W Q pb lo hi A Y C D S L H hf w) (hy : By w b n f) (h8 : ∀ k, 0 ≤ f k ∧ f k ≤ 255) (hc : n ≤ c) (hm : c ≤ maxLen) (hn : n ≤ 4000000) (hb : pb < b) (hA : ¬ Al S L b) (hQ : ¬ Q.K b) : Pw W Q pb lo hi A Y C D S { L with x2 := .slice (some ⟨b, 0, none⟩) n c } H hf (w.setCell ⟨pb, 2, none⟩ (.slice (some ⟨b, 0, none⟩) n c)) ∧ w.cell? ⟨pb, 2, none⟩ = some L.x2 ∧ w.frozen? ⟨pb, 2, none⟩ = false := by
  have fr : Fr pb w (w.setCell ⟨pb, 2, none⟩ (.slice (some ⟨b, 0, none⟩) n c)) := (Fr.refl pb w).setCell
  have k := heap_setCell_same w pb 2 _ _ (.slice (some ⟨b, 0, none⟩) n c) h.bf.bl.blk
  obtain ⟨l1, l2, l3, l4⟩ := h.lh
  have a1 := h.y1; have a2 := h.y2; have a3 := h.y3
  have q : FK (fun b => b ≠ pb) w (w.setCell ⟨pb, 2, none⟩ (.slice (some ⟨b, 0, none⟩) n c)) := FK.ofFr fr (fun h => h rfl)
  refine ⟨⟨⟨q.os.trans h.up.os, q.output.trans h.up.output, Nat.le_trans h.up.size q.size, fun b hb => (q.block b (Nat.lt_of_lt_of_le hb h.up.size) (by omega)).trans (h.up.block b hb)⟩, h.wl, h.x.keep q (fun k _ k2 => by omega), h.y.keepK q (by omega) (by omega) (by omega), h.y1, h.y2, h.y3, ⟨h.bf.bl.cells fr k rfl rfl rfl rfl, own_keep h.bf.ho fun g hg => q.block g (h.bf.ho.lt g hg).2 (by have := (h.bf.ho.lt g hg).1; omega), own_keep h.bf.wo fun g hg => q.block g (h.bf.wo.lt g hg).2 (by have := (h.bf.wo.lt g hg).1; omega), h.bf.hn, h.bf.h8, h.bf.hS, h.bf.wS⟩, h.e0, h.e1, ⟨_, b, 0, n, c, f, rfl, (hy.of_block (q.block b hy.lt (by omega))).byts hc hm h8, ⟨hn, fun e => by cases e⟩, fun g hg => by injection hg with hg; subst hg; exact ⟨hb, Nat.lt_of_lt_of_le hy.lt q.size, hA⟩⟩, h.hb, fun k hk => by obtain ⟨k1, k2, k3, k4, k5⟩ := h.kp k hk; exact ⟨k1, Nat.lt_of_lt_of_le k2 q.size, k3, fun e => (by injection e with e; have e2 : b = k := e; rw [← e2] at hk; exact hQ hk), (q.block k k2 (by omega)).trans k5⟩⟩, heap_cell h.bf.bl.blk rfl, heap_fz h.bf.bl.blk⟩
/-- what is new is nothing of the book -/
theorem Pw.new (h : Pw W Q pb lo hi A Y C D S L H hf w) {b : Nat} (hb : w.heap.size ≤ b) : ¬ Al S L b ∧ L.x2.ownBlock ≠ some b ∧ ¬ Q.K b := by
  obtain ⟨_, _, _, _, _, _, _, _, _, h0⟩ := h.la
  exact ⟨fun q => by have := (h.bf.al q).2; omega, fun q => by have := (h0 b q).2.1; omega, fun q => by have := (h.kp b q).2.1; omega⟩
/-- a block of another's, laid now -/
theorem Pw.setQ (h : Pw W Q pb lo hi A Y C D S L H hf w) (x : Obj) : Pw W ⟨fun b => b = w.heap.size, w.alloc x⟩ pb lo hi A Y C D S L H hf (w.alloc x) := by
  have q := h.upW ((Up.refl w).alloc x)
  refine ⟨q.up, q.wl, q.x, q.y, q.y1, q.y2, q.y3, q.bf, q.e0, q.e1, q.la, q.hb, fun b hb => ?_⟩
  have hb : b = w.heap.size := hb
  subst hb
  exact ⟨h.lh.2.2.1, by rw [alloc_size']; omega, (h.new (Nat.le_refl _)).1, (h.new (Nat.le_refl _)).2.1, rfl⟩
theorem Pw.looks (h : Pw W Q pb lo hi A Y C D S L H hf w) : Calls Tryd.prog 27 #[.pointer (some ⟨pb, 3, none⟩)] w fun e w' => e = .returned (.bool true) ∧ Up w w' := looksB_any h.bf
end Go.Proofs.YtojlappgmckokaaDoor
