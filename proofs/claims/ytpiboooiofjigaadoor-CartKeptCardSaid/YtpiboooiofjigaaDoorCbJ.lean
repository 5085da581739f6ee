/- Cart: Load. -/
import Derived.Test.YtpiboooiofjigaaDoorCbG
import Derived.Test.YtpiboooiofjigaaDoorCbH
import Derived.Test.YtpiboooiofjigaaDoorCbI
namespace Go.Proofs.YtpiboooiofjigaaDoor
open Go.Shelf Go.RowKit
set_option linter.unusedVariables false
set_option linter.unusedSimpArgs false
variable {w w' W : World} {b : Nat} {A : Ad} {C : Ct}
/-- the blocks that a cartridge does not write -/
def Ad.K (A : Ad) (kd k : Nat) : Prop := k ≠ A.rb ∧ (kd = 0 ∨ k ≠ A.mb)
theorem MpAt.putK {v : Value} {m : Mp} {r0 r1 r2 r3 r4 : Nat} (h : MpAt W v m b) : Calls Tryd.prog 44 #[v, .agg #[.int .u8 (r0 : Int), .int .u8 (r1 : Int), .int .u8 (r2 : Int), .int .u8 (r3 : Int), .int .u8 (r4 : Int)]] W fun e w' => e = .returned (.tuple #[]) ∧ MpAt w' v ⟨m.kd, r0, r1, r2, r3, r4⟩ b ∧ FK (fun k => m.kd = 0 ∨ k ≠ b) W w' := by
  by_cases hk : m.kd = 0
  · obtain ⟨kd, on, low, high, pick, mode⟩ := m
    rcases h with ⟨hk, hv⟩ | ⟨hk2, hv, hb⟩
    · have hk : kd = 0 := hk
      subst hk hv
      exact put_0.mono fun e w' ⟨q1, q2⟩ => ⟨q1, Or.inl ⟨rfl, rfl⟩, FK.ofUp q2⟩
    · have hk : kd = 0 := hk
      have hk2 : kd = 1 ∨ kd = 2 ∨ kd = 3 ∨ kd = 5 := hk2
      omega
  · exact h.put.mono fun e w' ⟨q1, q2, q3⟩ => ⟨q1, q2, FK.ofFr q3 (fun h => h.elim hk (fun h => h rfl))⟩
/-- a cartridge behind a Load -/
def Ct.loaded (C : Ct) (f : Nat → Int) : Ct := { C with m := ⟨C.m.kd, (f 0).toNat, (f 1).toNat, (f 2).toNat, (f 3).toNat, (f 4).toNat⟩, rf := fun k => if k < C.rm then f (5 + k) else 0 }
theorem copy_run {g o n m c k : Nat} {ad : Addr} {f h : Nat → Int} (hB : By w g n f) (ho : o + k ≤ n) (hk : k = Nat.min m c) (hs : ∀ j, j < k → w.cell? (ad.add j) = some (.int .u8 (h j))) (dc sc : Nat) (ty : TypeId) : (Builtin.copy_ #[24, 24] ty #[.slice (some ⟨g, o, none⟩) c dc, .slice (some ad) m sc]).run Tryd.prog w = .ok (goInt k) (w.setCells g o (byL h k)) := by
  have hr := run_copy_cells (P := Tryd.prog) w 24 24 ty 5 g o c dc ad m sc (byL h k) Tryd.underlying24 (by kernel_rfl) (by rw [byL_len]; exact hk) (fun j v hj => ?_) (fun j hj => ?_) (fun j hj => hB.fz _) (byL_one h k)
  · rw [byL_len] at hr
    exact hr
  · have hjn : j < k := by have := (List.getElem?_eq_some_iff.1 hj).1; rwa [byL_len] at this
    rw [byL_at hjn] at hj
    rw [← hj]
    exact hs j hjn
  · rw [byL_len] at hj
    rw [hB.cell (o + j) (by omega)]
    rfl
theorem byts_tail {n c ab ao : Nat} {aa : Option Addr} {f : Nat → Int} (h : Byts W aa ab ao n c f) (hn : 5 ≤ n) : Byts W (some ⟨ab, ao + 5, none⟩) ab (ao + 5) (n - 5) (c - 5) (fun k => f (5 + k)) :=
  ⟨by have := h.lc; omega, by have := h.cm; omega, fun _ => rfl, fun k => h.u8 _, fun k hk => by rw [Nat.add_assoc]; exact h.cell (5 + k) (by omega)⟩
theorem CtAt.changedK {m : Mp} (h : CtAt W A C) (f : FK (fun k => C.m.kd = 0 ∨ k ≠ A.mb) W w') (hm : m.In) (hp : MpAt w' A.v m A.mb) : CtAt w' A { C with m := m } :=
  ⟨(f.block A.cb (heap_at h.blk) (Or.inr h.d3)).trans h.blk, h.rom.of_block (f.block A.rg h.rom.lt (Or.inr h.d5)), h.ram.of_block (f.block A.rb h.ram.lt (Or.inr h.d6)), hp, hm, h.n1, h.n2, h.nc, h.rc, h.rm, h.d1, h.d2, h.d3, h.d4, h.d5, h.d6⟩
theorem range_row {g : Nat} {l : List Value} {t : TypeId} (h : w.heap[g]? = some (.cells l.toArray t (0, 0))) : w.rangeAt g 0 l := fun k v hv => by
  rw [Nat.zero_add]
  exact heap_cell h (by simpa using hv)
theorem MpAt.lt {v : Value} {m : Mp} (h : MpAt w v m b) : m.kd = 0 ∨ b < w.heap.size := by
  rcases h with ⟨h1, _⟩ | ⟨_, _, h3⟩
  · exact Or.inl h1
  · exact Or.inr (heap_at h3)
theorem in_of {kd x0 x1 x2 x3 x4 : Nat} (hk : kd = 0 ∨ kd = 1 ∨ kd = 2 ∨ kd = 3 ∨ kd = 5) (h0 : x0 ≤ hiB kd 0) (h1 : x1 ≤ hiB kd 1) (h2 : x2 ≤ hiB kd 2) (h3 : x3 ≤ hiB kd 3) (h4 : x4 ≤ hiB kd 4) : (⟨kd, x0, x1, x2, x3, x4⟩ : Mp).In := by
  refine ⟨hk, ?_, ?_, ?_, ?_, ?_⟩ <;> dsimp only <;> rcases hk with rfl | rfl | rfl | rfl | rfl <;> simp [hiB] at h0 h1 h2 h3 h4 <;> omega
set_option maxRecDepth 100000 in
set_option maxHeartbeats 2000000 in
theorem CtAt.loadOk {n c ab ao : Nat} {aa : Option Addr} {f : Nat → Int} (h : CtAt W A C) (hL : Byts W aa ab ao n c f) (hn : n = 5 + C.rm) (hn1 : 1 ≤ C.rm) (hfit : ∀ k, k < C.rm → f (5 + k) ≤ (C.m.kp : Int)) (hreg : ∀ k, k < 5 → (loB C.m.kd k : Int) ≤ f k ∧ f k ≤ (hiB C.m.kd k : Int)) (hkd : C.m.kd = 0 ∨ C.m.kd = 1 ∨ C.m.kd = 2 ∨ C.m.kd = 3 ∨ C.m.kd = 5) (d : A.K C.m.kd ab) : Calls Tryd.prog 20 #[.pointer (some ⟨A.cb, 0, none⟩), .slice aa n c] W fun e w' => e = .returned (.int .i64 0) ∧ CtAt w' A (C.loaded f) ∧ FK (A.K C.m.kd) W w' := by
  have lcm : c ≤ 9223372036854775807 := by have := hL.cm; unfold maxLen at this; omega
  have lnc := hL.lc
  obtain rfl : aa = some ⟨ab, ao, none⟩ := hL.ad (by omega)
  have k7 : W.cell? ⟨A.cb, 7, none⟩ = some (.slice (some ⟨A.rb, 0, none⟩) C.rm A.rc) := heap_cell h.blk rfl
  have k8 : W.cell? ⟨A.cb, 8, none⟩ = some A.v := heap_cell h.blk rfl
  obtain ⟨t8, p8, hv8⟩ := mp_iface h.mp
  have HH : Hid (CtAt W A C) := h
  have HL : Hid (Byts W (some ⟨ab, ao, none⟩) ab ao n c f) := hL
  have HD : Hid (A.K C.m.kd ab) := d
  have hrm := h.rm
  have HFi : Hid (∀ w, Up W w → Calls Tryd.prog 42 #[.pointer (some ⟨A.cb, 0, none⟩), .slice (some ⟨ab, ao + 5, none⟩) (n - 5) (c - 5)] w fun e w' => e = .returned (.bool true) ∧ Up w w') := fun w u => (h.up u).fits (t := true) (byts_tail (hL.upB u) (by omega)) ⟨fun _ => ⟨by omega, fun k hk => hfit k (by omega)⟩, fun _ => rfl⟩
  obtain ⟨x0, hx0⟩ := Int.eq_ofNat_of_zero_le (hL.u8 0).1
  obtain ⟨x1, hx1⟩ := Int.eq_ofNat_of_zero_le (hL.u8 1).1
  obtain ⟨x2, hx2⟩ := Int.eq_ofNat_of_zero_le (hL.u8 2).1
  obtain ⟨x3, hx3⟩ := Int.eq_ofNat_of_zero_le (hL.u8 3).1
  obtain ⟨x4, hx4⟩ := Int.eq_ofNat_of_zero_le (hL.u8 4).1
  have HXs : Hid (f 0 = (x0 : Int) ∧ f 1 = (x1 : Int) ∧ f 2 = (x2 : Int) ∧ f 3 = (x3 : Int) ∧ f 4 = (x4 : Int)) := ⟨hx0, hx1, hx2, hx3, hx4⟩
  have HGv : Hid (∀ w, Calls Tryd.prog 43 #[A.v, .agg #[.int .u8 (x0 : Int), .int .u8 (x1 : Int), .int .u8 (x2 : Int), .int .u8 (x3 : Int), .int .u8 (x4 : Int)]] w fun e w' => e = .returned (.bool true) ∧ Up w w') := fun w => by
    refine given_any (t := true) hv8 (l0 := loB C.m.kd 0) (l1 := loB C.m.kd 1) (l2 := loB C.m.kd 2) (l3 := loB C.m.kd 3) (l4 := loB C.m.kd 4) (h0 := hiB C.m.kd 0) (h1 := hiB C.m.kd 1) (h2 := hiB C.m.kd 2) (h3 := hiB C.m.kd 3) (h4 := hiB C.m.kd 4) (fun w => h.mp.bounds w) ⟨fun _ => ?_, fun _ => rfl⟩
    have q0 := hreg 0 (by decide)
    have q1 := hreg 1 (by decide)
    have q2 := hreg 2 (by decide)
    have q3 := hreg 3 (by decide)
    have q4 := hreg 4 (by decide)
    rw [hx0] at q0
    rw [hx1] at q1
    rw [hx2] at q2
    rw [hx3] at q3
    rw [hx4] at q4
    omega
  have HN : Hid (∀ w, CtAt w A C → MpAt w A.v C.m A.mb) := fun w h => h.mp
  have HPt : Hid (∀ w, CtAt w A C → Calls Tryd.prog 44 #[A.v, .agg #[.int .u8 (x0 : Int), .int .u8 (x1 : Int), .int .u8 (x2 : Int), .int .u8 (x3 : Int), .int .u8 (x4 : Int)]] w fun e w' => e = .returned (.tuple #[]) ∧ MpAt w' A.v ⟨C.m.kd, x0, x1, x2, x3, x4⟩ A.mb ∧ FK (fun k => C.m.kd = 0 ∨ k ≠ A.mb) w w') := fun w h => h.mp.putK
  have HReg : Hid (∀ k, k < 5 → (loB C.m.kd k : Int) ≤ f k ∧ f k ≤ (hiB C.m.kd k : Int)) := hreg
  rw [hv8] at HGv HPt
  have HV8 : Hid (A.v = .iface t8 p8) := hv8
  rw [hv8] at k8
  have e5 : ¬ (n : Int) < 5 := by omega
  have en : n - 5 = C.rm := by omega
  have HE5 : Hid (n - 5 = C.rm) := en
  have HNn : Hid (n = 5 + C.rm ∧ 1 ≤ C.rm) := ⟨hn, hn1⟩
  have hc5 : 5 < c := by omega
  have hn5 : 5 < n := by omega
  clear h hL d hfit hreg hx0 hx1 hx2 hx3 hx4 hv8 hn hn1 en HN
  go_enter Tryd.func20, Tryd.ntmps20
  go_wp2_with fail
  refine (HFi.out _ ((Up.refl W).alloc _)).mono ?_
  rintro e w2 ⟨rfl, u2⟩
  have HU2 : Hid (Up W w2) := ((Up.refl W).alloc _).trans u2
  have hR : w2.heap[W.heap.size]? = some (.cells #[.int .u8 0, .int .u8 0, .int .u8 0, .int .u8 0, .int .u8 0] 87 (0, 0)) := (u2.block _ (heap_at (heap_alloc_new W _))).trans (heap_alloc_new W _)
  have HR : Hid _ := hR
  obtain ⟨g, hg⟩ : ∃ g, g = W.heap.size := ⟨_, rfl⟩
  rw [← hg] at HR ⊢
  have HG : Hid (g = W.heap.size) := hg
  clear hR hg u2 HFi k7 k8
  have HCp : Hid (∀ ty, (Builtin.copy_ #[24, 24] ty #[.slice (some ⟨g, 0, none⟩) 5 5, .slice (some ⟨ab, ao, none⟩) n c]).run Tryd.prog w2 = .ok (goInt 5) (w2.setCells g 0 (byL f 5))) := fun ty => copy_run (k := 5) (n := 5) (f := fun _ => 0) ⟨_, _, HR.out, by simp, fun k hk => by
    match k, hk with
    | 0, _ => rfl
    | 1, _ => rfl
    | 2, _ => rfl
    | 3, _ => rfl
    | 4, _ => rfl⟩ (by decide) (by show 5 = min n 5; omega) (fun j hj => by rw [Addr.add_lit]; exact (HL.out.upB HU2.out).cell j (by omega)) 5 c ty
  have hX := HXs.out
  have HR3 : Hid ((w2.setCells g 0 (byL f 5)).heap[g]? = some (.cells #[.int .u8 (x0 : Int), .int .u8 (x1 : Int), .int .u8 (x2 : Int), .int .u8 (x3 : Int), .int .u8 (x4 : Int)] 87 (0, 0))) := by
    have hh := heap_setCells_same g 87 (byL f 5) 0 _ _ HR.out
    rw [show byL f 5 = [.int .u8 (f 0), .int .u8 (f 1), .int .u8 (f 2), .int .u8 (f 3), .int .u8 (f 4)] from rfl, hX.1, hX.2.1, hX.2.2.1, hX.2.2.2.1, hX.2.2.2.2] at hh
    rw [show byL f 5 = [.int .u8 (f 0), .int .u8 (f 1), .int .u8 (f 2), .int .u8 (f 3), .int .u8 (f 4)] from rfl, hX.1, hX.2.1, hX.2.2.1, hX.2.2.2.1, hX.2.2.2.2]
    exact hh
  have HU3 : Hid (Up W (w2.setCells g 0 (byL f 5))) := Fr.up HU2.out (by rw [HG.out]; exact Nat.le_refl _) (fr_setCells g _ 0 w2)
  clear hX
  go_wp2_with (refine wpList_copy_runI _ rfl _ _ 24 24 rfl _ _ rfl rfl (HCp.out _) ?_)
  simp only [goInt, Act.put, List.setIfInBounds_toArray, List.set_cons_zero, List.set_cons_succ]
  generalize World.setCells w2 _ _ _ = w3 at HR3 HU3 ⊢
  clear HCp HR HU2
  have HSw : Hid (∀ w, Up W w → w.heap[g]? = some (.cells #[.int .u8 (x0 : Int), .int .u8 (x1 : Int), .int .u8 (x2 : Int), .int .u8 (x3 : Int), .int .u8 (x4 : Int)] 87 (0, 0)) → w.cell? ⟨A.cb, 8, none⟩ = some (.iface t8 p8) ∧ w.rangeAt g 0 [.int .u8 (x0 : Int), .int .u8 (x1 : Int), .int .u8 (x2 : Int), .int .u8 (x3 : Int), .int .u8 (x4 : Int)]) := fun w u hr => ⟨by rw [← HV8.out]; exact heap_cell (HH.out.up u).blk rfl, range_row hr⟩
  refine wp_region_held_drew (S := fun w => w.cell? ⟨A.cb, 8, none⟩ = some (.iface t8 p8) ∧ w.rangeAt g 0 [.int .u8 (x0 : Int), .int .u8 (x1 : Int), .int .u8 (x2 : Int), .int .u8 (x3 : Int), .int .u8 (x4 : Int)]) (by kernel_rfl) ?_ (fun hHeld => ?_)
  · exact HSw.out _ HU3.out.drew HR3.out
  have HUd : Hid _ := HU3.out.drew
  have HRd : Hid ((World.drew w3).heap[g]? = some (.cells #[.int .u8 (x0 : Int), .int .u8 (x1 : Int), .int .u8 (x2 : Int), .int .u8 (x3 : Int), .int .u8 (x4 : Int)] 87 (0, 0))) := HR3.out
  generalize World.drew w3 = wd at HUd HRd hHeld ⊢
  refine wpAnyH_take (i := 0) (v := ?_) (by simp only [List.getElem?_toArray, List.getElem?_cons_zero]; rfl) (by kernel_rfl) (by kernel_rfl) (by kernel_rfl) (by intro _ _ _ h; exact h) (Or.inl ⟨by rfl, ?_⟩) (by assumption) ?_
  rotate_left
  · (intro w hSw; (try dsimp only at hSw); go_simp <;> with_reducible rfl)
  try simp only [Act.put, List.setIfInBounds_toArray, List.set_cons_zero, List.set_cons_succ]
  refine wpAnyH_take (i := 1) (v := ?_) (by simp only [List.getElem?_toArray, List.getElem?_cons_succ, List.getElem?_cons_zero]; rfl) (by kernel_rfl) (by kernel_rfl) (by kernel_rfl) (by intro _ _ _ h; exact h) (Or.inl ⟨by rfl, ?_⟩) (by assumption) ?_
  rotate_left
  · (intro w hSw; (try dsimp only at hSw); go_simp <;> with_reducible rfl)
  try simp only [Act.put, List.setIfInBounds_toArray, List.set_cons_zero, List.set_cons_succ]
  refine wpAnyH_take (i := 2) (v := ?_) (by simp only [List.getElem?_toArray, List.getElem?_cons_succ, List.getElem?_cons_zero]; rfl) (by kernel_rfl) (by kernel_rfl) (by kernel_rfl) (by intro _ _ _ h; exact h) (Or.inl ⟨by rfl, ?_⟩) (by assumption) ?_
  rotate_left
  · (intro w hSw; (try dsimp only at hSw); go_simp <;> with_reducible rfl)
  try simp only [Act.put, List.setIfInBounds_toArray, List.set_cons_zero, List.set_cons_succ]
  refine wpAnyH_take (i := 3) (v := ?_) (by simp only [List.getElem?_toArray, List.getElem?_cons_succ, List.getElem?_cons_zero]; rfl) (by kernel_rfl) (by kernel_rfl) (by kernel_rfl) (by intro _ _ _ h; exact h) (Or.inl ⟨by rfl, ?_⟩) (by assumption) ?_
  rotate_left
  · (intro w hSw; (try dsimp only at hSw); go_simp <;> with_reducible rfl)
  try simp only [Act.put, List.setIfInBounds_toArray, List.set_cons_zero, List.set_cons_succ]
  refine wpAnyH_take (i := 4) (v := .agg [.int .u8 (x0 : Int), .int .u8 (x1 : Int), .int .u8 (x2 : Int), .int .u8 (x3 : Int), .int .u8 (x4 : Int)].toArray) (by simp only [List.getElem?_toArray, List.getElem?_cons_succ, List.getElem?_cons_zero]; rfl) (by kernel_rfl) (by kernel_rfl) (by kernel_rfl) (by intro _ _ _ h; exact h) (yieldsIf_load_mid (by rfl) 87 _ rfl g 0 rfl [.int .u8 (x0 : Int), .int .u8 (x1 : Int), .int .u8 (x2 : Int), .int .u8 (x3 : Int), .int .u8 (x4 : Int)] _ (fun w hw => hw.2) Tryd.underlying87 rfl (by kernel_rfl)) (by assumption) ?_
  simp only [Act.put, List.setIfInBounds_toArray, List.set_cons_zero, List.set_cons_succ]
  refine wpAnyH_ready (rs := [5]) (by kernel_rfl) (by simp) ?_
  refine AllReadyH.cons (by simp only [List.getElem?_toArray, List.getElem?_cons_succ, List.getElem?_cons_zero]; rfl) (fun KK hK => ?_) AllReadyH.nil
  go_simp
  refine (HGv.out wd).mono ?_
  rintro e w4 ⟨rfl, u4⟩
  have HU4 : Hid (Up W w4) := HUd.out.trans u4
  have HR4 : Hid (w4.heap[g]? = some (.cells #[.int .u8 (x0 : Int), .int .u8 (x1 : Int), .int .u8 (x2 : Int), .int .u8 (x3 : Int), .int .u8 (x4 : Int)] 87 (0, 0))) := (u4.block g (heap_at HRd.out)).trans HRd.out
  clear u4
  refine hK.out _ _ (HSw.out _ HU4.out HR4.out) (fun hHeld => ?_)
  clear hK KK HUd HRd HR3 HU3 HGv
  try simp only [Act.put, List.setIfInBounds_toArray, List.set_cons_zero, List.set_cons_succ]
  refine wpAnyH_take (i := 6) (v := ?_) (by simp only [List.getElem?_toArray, List.getElem?_cons_succ, List.getElem?_cons_zero]; rfl) (by kernel_rfl) (by kernel_rfl) (by kernel_rfl) (by intro _ _ _ h; exact h) (Or.inl ⟨by rfl, ?_⟩) (by assumption) ?_
  rotate_left
  · (intro w hSw; (try dsimp only at hSw); go_simp <;> with_reducible rfl)
  try simp only [Act.put, List.setIfInBounds_toArray, List.set_cons_zero, List.set_cons_succ]
  refine wpAnyH_done (by kernel_rfl) ?_ _
  clear hHeld
  go_wp2_with fail
  refine wp_region_held_drew (S := fun w => w.cell? ⟨A.cb, 8, none⟩ = some (.iface t8 p8) ∧ w.rangeAt g 0 [.int .u8 (x0 : Int), .int .u8 (x1 : Int), .int .u8 (x2 : Int), .int .u8 (x3 : Int), .int .u8 (x4 : Int)]) (by kernel_rfl) ?_ (fun hHeld => ?_)
  · exact HSw.out _ HU4.out.drew HR4.out
  have HUd : Hid _ := HU4.out.drew
  have HRd : Hid ((World.drew w4).heap[g]? = some (.cells #[.int .u8 (x0 : Int), .int .u8 (x1 : Int), .int .u8 (x2 : Int), .int .u8 (x3 : Int), .int .u8 (x4 : Int)] 87 (0, 0))) := HR4.out
  generalize World.drew w4 = wd at HUd HRd hHeld ⊢
  refine wpAnyH_take (i := 0) (v := ?_) (by simp only [List.getElem?_toArray, List.getElem?_cons_zero]; rfl) (by kernel_rfl) (by kernel_rfl) (by kernel_rfl) (by intro _ _ _ h; exact h) (Or.inl ⟨by rfl, ?_⟩) (by assumption) ?_
  rotate_left
  · (intro w hSw; (try dsimp only at hSw); go_simp <;> with_reducible rfl)
  try simp only [Act.put, List.setIfInBounds_toArray, List.set_cons_zero, List.set_cons_succ]
  refine wpAnyH_take (i := 1) (v := ?_) (by simp only [List.getElem?_toArray, List.getElem?_cons_succ, List.getElem?_cons_zero]; rfl) (by kernel_rfl) (by kernel_rfl) (by kernel_rfl) (by intro _ _ _ h; exact h) (Or.inl ⟨by rfl, ?_⟩) (by assumption) ?_
  rotate_left
  · (intro w hSw; (try dsimp only at hSw); go_simp <;> with_reducible rfl)
  try simp only [Act.put, List.setIfInBounds_toArray, List.set_cons_zero, List.set_cons_succ]
  refine wpAnyH_take (i := 2) (v := ?_) (by simp only [List.getElem?_toArray, List.getElem?_cons_succ, List.getElem?_cons_zero]; rfl) (by kernel_rfl) (by kernel_rfl) (by kernel_rfl) (by intro _ _ _ h; exact h) (Or.inl ⟨by rfl, ?_⟩) (by assumption) ?_
  rotate_left
  · (intro w hSw; (try dsimp only at hSw); go_simp <;> with_reducible rfl)
  try simp only [Act.put, List.setIfInBounds_toArray, List.set_cons_zero, List.set_cons_succ]
  refine wpAnyH_take (i := 3) (v := ?_) (by simp only [List.getElem?_toArray, List.getElem?_cons_succ, List.getElem?_cons_zero]; rfl) (by kernel_rfl) (by kernel_rfl) (by kernel_rfl) (by intro _ _ _ h; exact h) (Or.inl ⟨by rfl, ?_⟩) (by assumption) ?_
  rotate_left
  · (intro w hSw; (try dsimp only at hSw); go_simp <;> with_reducible rfl)
  try simp only [Act.put, List.setIfInBounds_toArray, List.set_cons_zero, List.set_cons_succ]
  refine wpAnyH_take (i := 4) (v := .agg [.int .u8 (x0 : Int), .int .u8 (x1 : Int), .int .u8 (x2 : Int), .int .u8 (x3 : Int), .int .u8 (x4 : Int)].toArray) (by simp only [List.getElem?_toArray, List.getElem?_cons_succ, List.getElem?_cons_zero]; rfl) (by kernel_rfl) (by kernel_rfl) (by kernel_rfl) (by intro _ _ _ h; exact h) (yieldsIf_load_mid (by rfl) 87 _ rfl g 0 rfl [.int .u8 (x0 : Int), .int .u8 (x1 : Int), .int .u8 (x2 : Int), .int .u8 (x3 : Int), .int .u8 (x4 : Int)] _ (fun w hw => hw.2) Tryd.underlying87 rfl (by kernel_rfl)) (by assumption) ?_
  simp only [Act.put, List.setIfInBounds_toArray, List.set_cons_zero, List.set_cons_succ]
  refine wpAnyH_ready (rs := [5]) (by kernel_rfl) (by simp) ?_
  refine AllReadyH.cons (by simp only [List.getElem?_toArray, List.getElem?_cons_succ, List.getElem?_cons_zero]; rfl) (fun KK hK => ?_) AllReadyH.nil
  go_simp
  refine (HPt.out wd (HH.out.up HUd.out)).mono ?_
  rintro e w5 ⟨rfl, hm5, f5⟩
  have HF5 : Hid (FK (fun k => C.m.kd = 0 ∨ k ≠ A.mb) W w5) := (FK.ofUp HUd.out).trans f5
  have HKg : Hid (C.m.kd = 0 ∨ g ≠ A.mb) := by
    rcases HH.out.mp.lt with q | q
    · exact Or.inl q
    · exact Or.inr (by have := HG.out; omega)
  have HM5 : Hid (MpAt w5 A.v ⟨C.m.kd, x0, x1, x2, x3, x4⟩ A.mb) := by rw [HV8.out]; exact hm5
  have HR5 : Hid (w5.heap[g]? = some (.cells #[.int .u8 (x0 : Int), .int .u8 (x1 : Int), .int .u8 (x2 : Int), .int .u8 (x3 : Int), .int .u8 (x4 : Int)] 87 (0, 0))) := (f5.block g (heap_at HRd.out) HKg.out).trans HRd.out
  have HC5 : Hid (CtAt w5 A { C with m := ⟨C.m.kd, x0, x1, x2, x3, x4⟩ }) := by
    have hX := HXs.out
    have q0 := (HReg.out 0 (by decide)).2
    have q1 := (HReg.out 1 (by decide)).2
    have q2 := (HReg.out 2 (by decide)).2
    have q3 := (HReg.out 3 (by decide)).2
    have q4 := (HReg.out 4 (by decide)).2
    rw [hX.1] at q0
    rw [hX.2.1] at q1
    rw [hX.2.2.1] at q2
    rw [hX.2.2.2.1] at q3
    rw [hX.2.2.2.2] at q4
    exact HH.out.changedK HF5.out (in_of hkd (by omega) (by omega) (by omega) (by omega) (by omega)) HM5.out
  clear hm5 f5 HPt
  refine hK.out _ _ ⟨by rw [← HV8.out]; exact heap_cell HC5.out.blk rfl, range_row HR5.out⟩ (fun hHeld => ?_)
  clear hK KK HUd HRd
  try simp only [Act.put, List.setIfInBounds_toArray, List.set_cons_zero, List.set_cons_succ]
  refine wpAnyH_done (by kernel_rfl) ?_ _
  clear hHeld HSw HM5 HR5
  go_wp2_with fail
  have HL5 : Hid (∀ j, j < C.rm → w5.cell? ⟨ab, ao + 5 + j, none⟩ = some (.int .u8 (f (5 + j)))) := fun j hj => by
    have hc := HL.out.cell (5 + j) (by have := HNn.out.1; omega)
    have hb := HF5.out.block ab (World.block_lt_of_cell? _ _ hc) HD.out.2
    rw [Nat.add_assoc]
    unfold World.cell? at hc ⊢
    simp only [hb]
    exact hc
  have HK7 : Hid (∀ w, Up w5 w → CtAt w A { C with m := ⟨C.m.kd, x0, x1, x2, x3, x4⟩ } ∧ w.cell? ⟨A.cb, 7, none⟩ = some (.slice (some ⟨A.rb, 0, none⟩) C.rm A.rc)) := fun w u => ⟨HC5.out.up u, heap_cell (HC5.out.up u).blk rfl⟩
  refine wp_region_held_drew (S := fun w => w.cell? ⟨A.cb, 7, none⟩ = some (.slice (some ⟨A.rb, 0, none⟩) C.rm A.rc)) (by kernel_rfl) ?_ (fun hHeld => ?_)
  · exact (HK7.out _ (Up.refl _).drew).2
  have HUe : Hid (Up w5 w5.drew) := (Up.refl _).drew
  generalize World.drew w5 = we at HUe hHeld ⊢
  refine wpAnyH_take (i := 0) (v := ?_) (by simp only [List.getElem?_toArray, List.getElem?_cons_zero]; rfl) (by kernel_rfl) (by kernel_rfl) (by kernel_rfl) (by intro _ _ _ h; exact h) (Or.inl ⟨by rfl, ?_⟩) (by assumption) ?_
  rotate_left
  · (intro w hSw; (try dsimp only at hSw); go_simp <;> with_reducible rfl)
  try simp only [Act.put, List.setIfInBounds_toArray, List.set_cons_zero, List.set_cons_succ]
  refine wpAnyH_take (i := 1) (v := ?_) (by simp only [List.getElem?_toArray, List.getElem?_cons_succ, List.getElem?_cons_zero]; rfl) (by kernel_rfl) (by kernel_rfl) (by kernel_rfl) (by intro _ _ _ h; exact h) (Or.inl ⟨by rfl, ?_⟩) (by assumption) ?_
  rotate_left
  · (intro w hSw; (try dsimp only at hSw); go_simp <;> with_reducible rfl)
  try simp only [Act.put, List.setIfInBounds_toArray, List.set_cons_zero, List.set_cons_succ]
  refine wpAnyH_take (i := 2) (v := ?_) (by simp only [List.getElem?_toArray, List.getElem?_cons_succ, List.getElem?_cons_zero]; rfl) (by kernel_rfl) (by kernel_rfl) (by kernel_rfl) (by intro _ _ _ h; exact h) (Or.inl ⟨by rfl, ?_⟩) (by assumption) ?_
  rotate_left
  · (intro w hSw; (try dsimp only at hSw); go_simp <;> with_reducible rfl)
  try simp only [Act.put, List.setIfInBounds_toArray, List.set_cons_zero, List.set_cons_succ]
  refine wpAnyH_take (i := 3) (v := ?_) (by simp only [List.getElem?_toArray, List.getElem?_cons_succ, List.getElem?_cons_zero]; rfl) (by kernel_rfl) (by kernel_rfl) (by kernel_rfl) (by intro _ _ _ h; exact h) (Or.inl ⟨by rfl, ?_⟩) (by assumption) ?_
  rotate_left
  · (intro w hSw; (try dsimp only at hSw); go_simp <;> with_reducible rfl)
  try simp only [Act.put, List.setIfInBounds_toArray, List.set_cons_zero, List.set_cons_succ]
  refine wpAnyH_take (i := 4) (v := ?_) (by simp only [List.getElem?_toArray, List.getElem?_cons_succ, List.getElem?_cons_zero]; rfl) (by kernel_rfl) (by kernel_rfl) (by kernel_rfl) (by intro _ _ _ h; exact h) (Or.inl ⟨by rfl, ?_⟩) (by assumption) ?_
  rotate_left
  · (intro w hSw; (try dsimp only at hSw); go_simp <;> with_reducible rfl)
  try simp only [Act.put, List.setIfInBounds_toArray, List.set_cons_zero, List.set_cons_succ]
  refine wpAnyH_take (i := 5) (v := ?_) (by simp only [List.getElem?_toArray, List.getElem?_cons_succ, List.getElem?_cons_zero]; rfl) (by kernel_rfl) (by kernel_rfl) (by kernel_rfl) (by intro _ _ _ h; exact h) (Or.inl ⟨by rfl, ?_⟩) (by assumption) ?_
  rotate_left
  · (intro w hSw; (try dsimp only at hSw); go_simp <;> with_reducible rfl)
  try simp only [Act.put, List.setIfInBounds_toArray, List.set_cons_zero, List.set_cons_succ]
  rw [if_neg (show ¬ c = 5 by omega)]
  have HCp2 : Hid (∀ ty, (Builtin.copy_ #[24, 24] ty #[.slice (some ⟨A.rb, 0, none⟩) C.rm A.rc, .slice (some ⟨ab, ao + 5, none⟩) (n - 5) (c - 5)]).run Tryd.prog we = .ok (goInt C.rm) (we.setCells A.rb 0 (byL (fun k => f (5 + k)) C.rm))) := fun ty => copy_run (k := C.rm) (HK7.out we HUe.out).1.ram (by show 0 + C.rm ≤ C.rm; omega) (by rw [HE5.out]; exact (Nat.min_self _).symm) (fun j hj => by rw [Addr.add_lit]; exact (cell_up HUe.out (HL5.out j hj))) A.rc (c - 5) ty
  refine wpAnyH_ready (rs := [6]) (by kernel_rfl) (by simp) ?_
  refine AllReadyH.cons (by simp only [List.getElem?_toArray, List.getElem?_cons_succ, List.getElem?_cons_zero]; rfl) (fun KK hK => ?_) AllReadyH.nil
  refine wp_copy_runI we _ _ 24 24 rfl _ _ rfl rfl (HCp2.out _) ?_
  have HZ : Hid (CtAt (we.setCells A.rb 0 (byL (fun k => f (5 + k)) C.rm)) A (C.loaded f)) := by
    have hc := (HK7.out we HUe.out).1
    have fr := fr_setCells A.rb (byL (fun k => f (5 + k)) C.rm) 0 we
    have hX := HXs.out
    have hb := hc.ram.setCells 0 C.rm (fun k => f (5 + k)) (by show 0 + C.rm ≤ C.rm; omega)
    have em : (⟨C.m.kd, x0, x1, x2, x3, x4⟩ : Mp) = (C.loaded f).m := by
      unfold Ct.loaded
      dsimp only
      rw [hX.1, hX.2.1, hX.2.2.1, hX.2.2.2.1, hX.2.2.2.2]
      simp only [Int.toNat_natCast]
    refine ⟨(fr.block A.cb (heap_at hc.blk) hc.d2).trans hc.blk, hc.rom.of_block (fr.block A.rg hc.rom.lt hc.d4), ?_, em ▸ (hc.mp.fr fr (Ne.symm hc.d6)), em ▸ hc.inn, hc.n1, hc.n2, hc.nc, hc.rc, hc.rm, hc.d1, hc.d2, hc.d3, hc.d4, hc.d5, hc.d6⟩
    exact hb.congr (fun k hk => by rw [putF_in _ _ (Nat.zero_le k) (by show k < 0 + C.rm; have : k < C.rm := hk; omega), Nat.sub_zero]; exact (if_pos hk).symm)
  have HFz : Hid (FK (A.K C.m.kd) W (we.setCells A.rb 0 (byL (fun k => f (5 + k)) C.rm))) := ((HF5.out.trans (FK.ofUp HUe.out)).mono (fun b _ h => h.2)).trans ((FK.ofFr (fr_setCells A.rb _ 0 we) (K := A.K C.m.kd) (fun h => h.1 rfl)))
  generalize World.setCells we _ _ _ = wz at HZ HFz ⊢
  refine hK.out _ _ (heap_cell HZ.out.blk rfl) (fun hHeld => ?_)
  clear hK KK HCp2
  simp only [goInt, Act.put, List.setIfInBounds_toArray, List.set_cons_zero, List.set_cons_succ]
  refine wpAnyH_done (by kernel_rfl) ?_ _
  clear hHeld
  go_wp2_with fail
  go_ret
  exact ⟨by first | rfl | (simp; done), HZ.out, HFz.out⟩
end Go.Proofs.YtpiboooiofjigaaDoor
