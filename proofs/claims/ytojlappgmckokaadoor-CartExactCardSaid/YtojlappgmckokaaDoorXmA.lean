import Derived.Test.YtojlappgmckokaaDoorCbG
import Derived.Test.YtojlappgmckokaaDoorCbH
import Derived.Test.YtojlappgmckokaaDoorCbI
import Derived.Deep.DeepCutAuto
import Derived.Test.YtojlappgmckokaaDoorCaT
import Derived.Laws.BitsAllLaws
/- Cart: Load. -/
namespace Go.Proofs.YtojlappgmckokaaDoor
open Go.Shelf Go.RowKit
set_option linter.unusedVariables false
set_option linter.unusedSimpArgs false
variable {w w' W : World} {b : Nat} {A : Ad} {C : Ct}
/-- the blocks that a cartridge does not write -/
def Ad.K (A : Ad) (kd k : Nat) : Prop := k ≠ A.rb ∧ (kd = 0 ∨ k ≠ A.mb)
theorem MpAt.putK {v : Value} {m : Mp} {r0 r1 r2 r3 r4 : Nat} (h : MpAt W v m b) : Calls Tryd.prog 44 #[v, .agg #[.int .u8 (r0 : Int), .int .u8 (r1 : Int), .int .u8 (r2 : Int), .int .u8 (r3 : Int), .int .u8 (r4 : Int)]] W fun e w' => e = .returned (.tuple #[]) ∧ MpAt w' v ⟨m.kd, r0, r1, r2, r3, r4⟩ b ∧ FK (fun k => m.kd = 0 ∨ k ≠ b) W w' := by
  by_cases hk : m.kd = 0
  · obtain ⟨kd, on, low, high, pick, mode⟩ := m
    rcases h with ⟨hk, hv⟩ | ⟨hk2, hv, hb⟩
    · have hk : kd = 0 := hk
      subst hk hv
      exact put_0.mono fun e w' ⟨q1, q2⟩ => ⟨q1, Or.inl ⟨rfl, rfl⟩, FK.ofUp q2⟩
    · have hk : kd = 0 := hk
      have hk2 : kd = 1 ∨ kd = 2 ∨ kd = 3 ∨ kd = 5 := hk2
      omega
  · exact h.put.mono fun e w' ⟨q1, q2, q3⟩ => ⟨q1, q2, FK.ofFr q3 (fun h => h.elim hk (fun h => h rfl))⟩
/-- a cartridge behind a Load -/
def Ct.loaded (C : Ct) (f : Nat → Int) : Ct := { C with m := ⟨C.m.kd, (f 0).toNat, (f 1).toNat, (f 2).toNat, (f 3).toNat, (f 4).toNat⟩, rf := fun k => if k < C.rm then f (5 + k) else 0 }
theorem copy_run {g o n m c k : Nat} {ad : Addr} {f h : Nat → Int} (hB : By w g n f) (ho : o + k ≤ n) (hk : k = Nat.min m c) (hs : ∀ j, j < k → w.cell? (ad.add j) = some (.int .u8 (h j))) (dc sc : Nat) (ty : TypeId) : (Builtin.copy_ #[24, 24] ty #[.slice (some ⟨g, o, none⟩) c dc, .slice (some ad) m sc]).run Tryd.prog w = .ok (goInt k) (w.setCells g o (byL h k)) := by
  have hr := run_copy_cells (P := Tryd.prog) w 24 24 ty 5 g o c dc ad m sc (byL h k) Tryd.underlying24 (by kernel_rfl) (by rw [byL_len]; exact hk) (fun j v hj => ?_) (fun j hj => ?_) (fun j hj => hB.fz _) (byL_one h k)
  · rw [byL_len] at hr
    exact hr
  · have hjn : j < k := by have := (List.getElem?_eq_some_iff.1 hj).1; rwa [byL_len] at this
    rw [byL_at hjn] at hj
    rw [← hj]
    exact hs j hjn
  · rw [byL_len] at hj
    rw [hB.cell (o + j) (by omega)]
    rfl
theorem byts_tail {n c ab ao : Nat} {aa : Option Addr} {f : Nat → Int} (h : Byts W aa ab ao n c f) (hn : 5 ≤ n) : Byts W (some ⟨ab, ao + 5, none⟩) ab (ao + 5) (n - 5) (c - 5) (fun k => f (5 + k)) :=
  ⟨by have := h.lc; omega, by have := h.cm; omega, fun _ => rfl, fun k => h.u8 _, fun k hk => by rw [Nat.add_assoc]; exact h.cell (5 + k) (by omega)⟩
theorem CtAt.changedK {m : Mp} (h : CtAt W A C) (f : FK (fun k => C.m.kd = 0 ∨ k ≠ A.mb) W w') (hm : m.In) (hp : MpAt w' A.v m A.mb) : CtAt w' A { C with m := m } :=
  ⟨(f.block A.cb (heap_at h.blk) (Or.inr h.d3)).trans h.blk, h.rom.of_block (f.block A.rg h.rom.lt (Or.inr h.d5)), h.ram.of_block (f.block A.rb h.ram.lt (Or.inr h.d6)), hp, hm, h.n1, h.n2, h.nc, h.rc, h.rm, h.d1, h.d2, h.d3, h.d4, h.d5, h.d6⟩
theorem range_row {g : Nat} {l : List Value} {t : TypeId} (h : w.heap[g]? = some (.cells l.toArray t (0, 0))) : w.rangeAt g 0 l := fun k v hv => by
  rw [Nat.zero_add]
  exact heap_cell h (by simpa using hv)
theorem MpAt.lt {v : Value} {m : Mp} (h : MpAt w v m b) : m.kd = 0 ∨ b < w.heap.size := by
  rcases h with ⟨h1, _⟩ | ⟨_, _, h3⟩
  · exact Or.inl h1
  · exact Or.inr (heap_at h3)
theorem in_of {kd x0 x1 x2 x3 x4 : Nat} (hk : kd = 0 ∨ kd = 1 ∨ kd = 2 ∨ kd = 3 ∨ kd = 5) (h0 : x0 ≤ hiB kd 0) (h1 : x1 ≤ hiB kd 1) (h2 : x2 ≤ hiB kd 2) (h3 : x3 ≤ hiB kd 3) (h4 : x4 ≤ hiB kd 4) : (⟨kd, x0, x1, x2, x3, x4⟩ : Mp).In := by
  refine ⟨hk, ?_, ?_, ?_, ?_, ?_⟩ <;> dsimp only <;> rcases hk with rfl | rfl | rfl | rfl | rfl <;> simp [hiB] at h0 h1 h2 h3 h4 <;> omega
set_option maxRecDepth 100000 in
set_option maxHeartbeats 2000000 in
theorem CtAt.loadOk {n c ab ao : Nat} {aa : Option Addr} {f : Nat → Int} (h : CtAt W A C) (hL : Byts W aa ab ao n c f) (hn : n = 5 + C.rm) (hn1 : 1 ≤ C.rm) (hfit : ∀ k, k < C.rm → f (5 + k) ≤ (C.m.kp : Int)) (hreg : ∀ k, k < 5 → (loB C.m.kd k : Int) ≤ f k ∧ f k ≤ (hiB C.m.kd k : Int)) (hkd : C.m.kd = 0 ∨ C.m.kd = 1 ∨ C.m.kd = 2 ∨ C.m.kd = 3 ∨ C.m.kd = 5) (d : A.K C.m.kd ab) : Calls Tryd.prog 20 #[.pointer (some ⟨A.cb, 0, none⟩), .slice aa n c] W fun e w' => e = .returned (.int .i64 0) ∧ CtAt w' A (C.loaded f) ∧ FK (A.K C.m.kd) W w' := by
  have lcm : c ≤ 9223372036854775807 := by have := hL.cm; unfold maxLen at this; omega
  have lnc := hL.lc
  obtain rfl : aa = some ⟨ab, ao, none⟩ := hL.ad (by omega)
  have k7 : W.cell? ⟨A.cb, 7, none⟩ = some (.slice (some ⟨A.rb, 0, none⟩) C.rm A.rc) := heap_cell h.blk rfl
  have k8 : W.cell? ⟨A.cb, 8, none⟩ = some A.v := heap_cell h.blk rfl
  obtain ⟨t8, p8, hv8⟩ := mp_iface h.mp
  have HH : Hid (CtAt W A C) := h
  have HL : Hid (Byts W (some ⟨ab, ao, none⟩) ab ao n c f) := hL
  have HD : Hid (A.K C.m.kd ab) := d
  have hrm := h.rm
  have HFi : Hid (∀ w, Up W w → Calls Tryd.prog 42 #[.pointer (some ⟨A.cb, 0, none⟩), .slice (some ⟨ab, ao + 5, none⟩) (n - 5) (c - 5)] w fun e w' => e = .returned (.bool true) ∧ Up w w') := fun w u => (h.up u).fits (t := true) (byts_tail (hL.upB u) (by omega)) ⟨fun _ => ⟨by omega, fun k hk => hfit k (by omega)⟩, fun _ => rfl⟩
  obtain ⟨x0, hx0⟩ := Int.eq_ofNat_of_zero_le (hL.u8 0).1
  obtain ⟨x1, hx1⟩ := Int.eq_ofNat_of_zero_le (hL.u8 1).1
  obtain ⟨x2, hx2⟩ := Int.eq_ofNat_of_zero_le (hL.u8 2).1
  obtain ⟨x3, hx3⟩ := Int.eq_ofNat_of_zero_le (hL.u8 3).1
  obtain ⟨x4, hx4⟩ := Int.eq_ofNat_of_zero_le (hL.u8 4).1
  have HXs : Hid (f 0 = (x0 : Int) ∧ f 1 = (x1 : Int) ∧ f 2 = (x2 : Int) ∧ f 3 = (x3 : Int) ∧ f 4 = (x4 : Int)) := ⟨hx0, hx1, hx2, hx3, hx4⟩
  have HGv : Hid (∀ w, Calls Tryd.prog 43 #[A.v, .agg #[.int .u8 (x0 : Int), .int .u8 (x1 : Int), .int .u8 (x2 : Int), .int .u8 (x3 : Int), .int .u8 (x4 : Int)]] w fun e w' => e = .returned (.bool true) ∧ Up w w') := fun w => by
    refine given_any (t := true) hv8 (l0 := loB C.m.kd 0) (l1 := loB C.m.kd 1) (l2 := loB C.m.kd 2) (l3 := loB C.m.kd 3) (l4 := loB C.m.kd 4) (h0 := hiB C.m.kd 0) (h1 := hiB C.m.kd 1) (h2 := hiB C.m.kd 2) (h3 := hiB C.m.kd 3) (h4 := hiB C.m.kd 4) (fun w => h.mp.bounds w) ⟨fun _ => ?_, fun _ => rfl⟩
    have q0 := hreg 0 (by decide)
    have q1 := hreg 1 (by decide)
    have q2 := hreg 2 (by decide)
    have q3 := hreg 3 (by decide)
    have q4 := hreg 4 (by decide)
    rw [hx0] at q0
    rw [hx1] at q1
    rw [hx2] at q2
    rw [hx3] at q3
    rw [hx4] at q4
    omega
  have HN : Hid (∀ w, CtAt w A C → MpAt w A.v C.m A.mb) := fun w h => h.mp
  have HPt : Hid (∀ w, CtAt w A C → Calls Tryd.prog 44 #[A.v, .agg #[.int .u8 (x0 : Int), .int .u8 (x1 : Int), .int .u8 (x2 : Int), .int .u8 (x3 : Int), .int .u8 (x4 : Int)]] w fun e w' => e = .returned (.tuple #[]) ∧ MpAt w' A.v ⟨C.m.kd, x0, x1, x2, x3, x4⟩ A.mb ∧ FK (fun k => C.m.kd = 0 ∨ k ≠ A.mb) w w') := fun w h => h.mp.putK
  have HReg : Hid (∀ k, k < 5 → (loB C.m.kd k : Int) ≤ f k ∧ f k ≤ (hiB C.m.kd k : Int)) := hreg
  rw [hv8] at HGv HPt
  have HV8 : Hid (A.v = .iface t8 p8) := hv8
  rw [hv8] at k8
  have e5 : ¬ (n : Int) < 5 := by omega
  have en : n - 5 = C.rm := by omega
  have HE5 : Hid (n - 5 = C.rm) := en
  have HNn : Hid (n = 5 + C.rm ∧ 1 ≤ C.rm) := ⟨hn, hn1⟩
  have hc5 : 5 < c := by omega
  have hn5 : 5 < n := by omega
  clear h hL d hfit hreg hx0 hx1 hx2 hx3 hx4 hv8 hn hn1 en HN
  go_enter Tryd.func20, Tryd.ntmps20
  go_wp2_with fail
  refine (HFi.out _ ((Up.refl W).alloc _)).mono ?_
  rintro e w2 ⟨rfl, u2⟩
  have HU2 : Hid (Up W w2) := ((Up.refl W).alloc _).trans u2
  have hR : w2.heap[W.heap.size]? = some (.cells #[.int .u8 0, .int .u8 0, .int .u8 0, .int .u8 0, .int .u8 0] 87 (0, 0)) := (u2.block _ (heap_at (heap_alloc_new W _))).trans (heap_alloc_new W _)
  have HR : Hid _ := hR
  obtain ⟨g, hg⟩ : ∃ g, g = W.heap.size := ⟨_, rfl⟩
  rw [← hg] at HR ⊢
  have HG : Hid (g = W.heap.size) := hg
  clear hR hg u2 HFi k7 k8
  have HCp : Hid (∀ ty, (Builtin.copy_ #[24, 24] ty #[.slice (some ⟨g, 0, none⟩) 5 5, .slice (some ⟨ab, ao, none⟩) n c]).run Tryd.prog w2 = .ok (goInt 5) (w2.setCells g 0 (byL f 5))) := fun ty => copy_run (k := 5) (n := 5) (f := fun _ => 0) ⟨_, _, HR.out, by simp, fun k hk => by
    match k, hk with
    | 0, _ => rfl
    | 1, _ => rfl
    | 2, _ => rfl
    | 3, _ => rfl
    | 4, _ => rfl⟩ (by decide) (by show 5 = min n 5; omega) (fun j hj => by rw [Addr.add_lit]; exact (HL.out.upB HU2.out).cell j (by omega)) 5 c ty
  have hX := HXs.out
  have HR3 : Hid ((w2.setCells g 0 (byL f 5)).heap[g]? = some (.cells #[.int .u8 (x0 : Int), .int .u8 (x1 : Int), .int .u8 (x2 : Int), .int .u8 (x3 : Int), .int .u8 (x4 : Int)] 87 (0, 0))) := by
    have hh := heap_setCells_same g 87 (byL f 5) 0 _ _ HR.out
    rw [show byL f 5 = [.int .u8 (f 0), .int .u8 (f 1), .int .u8 (f 2), .int .u8 (f 3), .int .u8 (f 4)] from rfl, hX.1, hX.2.1, hX.2.2.1, hX.2.2.2.1, hX.2.2.2.2] at hh
    rw [show byL f 5 = [.int .u8 (f 0), .int .u8 (f 1), .int .u8 (f 2), .int .u8 (f 3), .int .u8 (f 4)] from rfl, hX.1, hX.2.1, hX.2.2.1, hX.2.2.2.1, hX.2.2.2.2]
    exact hh
  have HU3 : Hid (Up W (w2.setCells g 0 (byL f 5))) := Fr.up HU2.out (by rw [HG.out]; exact Nat.le_refl _) (fr_setCells g _ 0 w2)
  clear hX
  go_wp2_with (refine wpList_copy_runI _ rfl _ _ 24 24 rfl _ _ rfl rfl (HCp.out _) ?_)
  simp only [goInt, Act.put, List.setIfInBounds_toArray, List.set_cons_zero, List.set_cons_succ]
  generalize World.setCells w2 _ _ _ = w3 at HR3 HU3 ⊢
  clear HCp HR HU2
  have HSw : Hid (∀ w, Up W w → w.heap[g]? = some (.cells #[.int .u8 (x0 : Int), .int .u8 (x1 : Int), .int .u8 (x2 : Int), .int .u8 (x3 : Int), .int .u8 (x4 : Int)] 87 (0, 0)) → w.cell? ⟨A.cb, 8, none⟩ = some (.iface t8 p8) ∧ w.rangeAt g 0 [.int .u8 (x0 : Int), .int .u8 (x1 : Int), .int .u8 (x2 : Int), .int .u8 (x3 : Int), .int .u8 (x4 : Int)]) := fun w u hr => ⟨by rw [← HV8.out]; exact heap_cell (HH.out.up u).blk rfl, range_row hr⟩
  refine wp_region_held_drew (S := fun w => w.cell? ⟨A.cb, 8, none⟩ = some (.iface t8 p8) ∧ w.rangeAt g 0 [.int .u8 (x0 : Int), .int .u8 (x1 : Int), .int .u8 (x2 : Int), .int .u8 (x3 : Int), .int .u8 (x4 : Int)]) (by kernel_rfl) ?_ (fun hHeld => ?_)
  · exact HSw.out _ HU3.out.drew HR3.out
  have HUd : Hid _ := HU3.out.drew
  have HRd : Hid ((World.drew w3).heap[g]? = some (.cells #[.int .u8 (x0 : Int), .int .u8 (x1 : Int), .int .u8 (x2 : Int), .int .u8 (x3 : Int), .int .u8 (x4 : Int)] 87 (0, 0))) := HR3.out
  generalize World.drew w3 = wd at HUd HRd hHeld ⊢
  refine wpAnyH_take (i := 0) (v := ?_) (by simp only [List.getElem?_toArray, List.getElem?_cons_zero]; rfl) (by kernel_rfl) (by kernel_rfl) (by kernel_rfl) (by intro _ _ _ h; exact h) (Or.inl ⟨by rfl, ?_⟩) (by assumption) ?_
  rotate_left
  · (intro w hSw; (try dsimp only at hSw); go_simp <;> with_reducible rfl)
  try simp only [Act.put, List.setIfInBounds_toArray, List.set_cons_zero, List.set_cons_succ]
  refine wpAnyH_take (i := 1) (v := ?_) (by simp only [List.getElem?_toArray, List.getElem?_cons_succ, List.getElem?_cons_zero]; rfl) (by kernel_rfl) (by kernel_rfl) (by kernel_rfl) (by intro _ _ _ h; exact h) (Or.inl ⟨by rfl, ?_⟩) (by assumption) ?_
  rotate_left
  · (intro w hSw; (try dsimp only at hSw); go_simp <;> with_reducible rfl)
  try simp only [Act.put, List.setIfInBounds_toArray, List.set_cons_zero, List.set_cons_succ]
  refine wpAnyH_take (i := 2) (v := ?_) (by simp only [List.getElem?_toArray, List.getElem?_cons_succ, List.getElem?_cons_zero]; rfl) (by kernel_rfl) (by kernel_rfl) (by kernel_rfl) (by intro _ _ _ h; exact h) (Or.inl ⟨by rfl, ?_⟩) (by assumption) ?_
  rotate_left
  · (intro w hSw; (try dsimp only at hSw); go_simp <;> with_reducible rfl)
  try simp only [Act.put, List.setIfInBounds_toArray, List.set_cons_zero, List.set_cons_succ]
  refine wpAnyH_take (i := 3) (v := ?_) (by simp only [List.getElem?_toArray, List.getElem?_cons_succ, List.getElem?_cons_zero]; rfl) (by kernel_rfl) (by kernel_rfl) (by kernel_rfl) (by intro _ _ _ h; exact h) (Or.inl ⟨by rfl, ?_⟩) (by assumption) ?_
  rotate_left
  · (intro w hSw; (try dsimp only at hSw); go_simp <;> with_reducible rfl)
  try simp only [Act.put, List.setIfInBounds_toArray, List.set_cons_zero, List.set_cons_succ]
  refine wpAnyH_take (i := 4) (v := .agg [.int .u8 (x0 : Int), .int .u8 (x1 : Int), .int .u8 (x2 : Int), .int .u8 (x3 : Int), .int .u8 (x4 : Int)].toArray) (by simp only [List.getElem?_toArray, List.getElem?_cons_succ, List.getElem?_cons_zero]; rfl) (by kernel_rfl) (by kernel_rfl) (by kernel_rfl) (by intro _ _ _ h; exact h) (yieldsIf_load_mid (by rfl) 87 _ rfl g 0 rfl [.int .u8 (x0 : Int), .int .u8 (x1 : Int), .int .u8 (x2 : Int), .int .u8 (x3 : Int), .int .u8 (x4 : Int)] _ (fun w hw => hw.2) Tryd.underlying87 rfl (by kernel_rfl)) (by assumption) ?_
  simp only [Act.put, List.setIfInBounds_toArray, List.set_cons_zero, List.set_cons_succ]
  refine wpAnyH_ready (rs := [5]) (by kernel_rfl) (by simp) ?_
  refine AllReadyH.cons (by simp only [List.getElem?_toArray, List.getElem?_cons_succ, List.getElem?_cons_zero]; rfl) (fun KK hK => ?_) AllReadyH.nil
  go_simp
  refine (HGv.out wd).mono ?_
  rintro e w4 ⟨rfl, u4⟩
  have HU4 : Hid (Up W w4) := HUd.out.trans u4
  have HR4 : Hid (w4.heap[g]? = some (.cells #[.int .u8 (x0 : Int), .int .u8 (x1 : Int), .int .u8 (x2 : Int), .int .u8 (x3 : Int), .int .u8 (x4 : Int)] 87 (0, 0))) := (u4.block g (heap_at HRd.out)).trans HRd.out
  clear u4
  refine hK.out _ _ (HSw.out _ HU4.out HR4.out) (fun hHeld => ?_)
  clear hK KK HUd HRd HR3 HU3 HGv
  try simp only [Act.put, List.setIfInBounds_toArray, List.set_cons_zero, List.set_cons_succ]
  refine wpAnyH_take (i := 6) (v := ?_) (by simp only [List.getElem?_toArray, List.getElem?_cons_succ, List.getElem?_cons_zero]; rfl) (by kernel_rfl) (by kernel_rfl) (by kernel_rfl) (by intro _ _ _ h; exact h) (Or.inl ⟨by rfl, ?_⟩) (by assumption) ?_
  rotate_left
  · (intro w hSw; (try dsimp only at hSw); go_simp <;> with_reducible rfl)
  try simp only [Act.put, List.setIfInBounds_toArray, List.set_cons_zero, List.set_cons_succ]
  refine wpAnyH_done (by kernel_rfl) ?_ _
  clear hHeld
  go_wp2_with fail
  refine wp_region_held_drew (S := fun w => w.cell? ⟨A.cb, 8, none⟩ = some (.iface t8 p8) ∧ w.rangeAt g 0 [.int .u8 (x0 : Int), .int .u8 (x1 : Int), .int .u8 (x2 : Int), .int .u8 (x3 : Int), .int .u8 (x4 : Int)]) (by kernel_rfl) ?_ (fun hHeld => ?_)
  · exact HSw.out _ HU4.out.drew HR4.out
  have HUd : Hid _ := HU4.out.drew
  have HRd : Hid ((World.drew w4).heap[g]? = some (.cells #[.int .u8 (x0 : Int), .int .u8 (x1 : Int), .int .u8 (x2 : Int), .int .u8 (x3 : Int), .int .u8 (x4 : Int)] 87 (0, 0))) := HR4.out
  generalize World.drew w4 = wd at HUd HRd hHeld ⊢
  refine wpAnyH_take (i := 0) (v := ?_) (by simp only [List.getElem?_toArray, List.getElem?_cons_zero]; rfl) (by kernel_rfl) (by kernel_rfl) (by kernel_rfl) (by intro _ _ _ h; exact h) (Or.inl ⟨by rfl, ?_⟩) (by assumption) ?_
  rotate_left
  · (intro w hSw; (try dsimp only at hSw); go_simp <;> with_reducible rfl)
  try simp only [Act.put, List.setIfInBounds_toArray, List.set_cons_zero, List.set_cons_succ]
  refine wpAnyH_take (i := 1) (v := ?_) (by simp only [List.getElem?_toArray, List.getElem?_cons_succ, List.getElem?_cons_zero]; rfl) (by kernel_rfl) (by kernel_rfl) (by kernel_rfl) (by intro _ _ _ h; exact h) (Or.inl ⟨by rfl, ?_⟩) (by assumption) ?_
  rotate_left
  · (intro w hSw; (try dsimp only at hSw); go_simp <;> with_reducible rfl)
  try simp only [Act.put, List.setIfInBounds_toArray, List.set_cons_zero, List.set_cons_succ]
  refine wpAnyH_take (i := 2) (v := ?_) (by simp only [List.getElem?_toArray, List.getElem?_cons_succ, List.getElem?_cons_zero]; rfl) (by kernel_rfl) (by kernel_rfl) (by kernel_rfl) (by intro _ _ _ h; exact h) (Or.inl ⟨by rfl, ?_⟩) (by assumption) ?_
  rotate_left
  · (intro w hSw; (try dsimp only at hSw); go_simp <;> with_reducible rfl)
  try simp only [Act.put, List.setIfInBounds_toArray, List.set_cons_zero, List.set_cons_succ]
  refine wpAnyH_take (i := 3) (v := ?_) (by simp only [List.getElem?_toArray, List.getElem?_cons_succ, List.getElem?_cons_zero]; rfl) (by kernel_rfl) (by kernel_rfl) (by kernel_rfl) (by intro _ _ _ h; exact h) (Or.inl ⟨by rfl, ?_⟩) (by assumption) ?_
  rotate_left
  · (intro w hSw; (try dsimp only at hSw); go_simp <;> with_reducible rfl)
  try simp only [Act.put, List.setIfInBounds_toArray, List.set_cons_zero, List.set_cons_succ]
  refine wpAnyH_take (i := 4) (v := .agg [.int .u8 (x0 : Int), .int .u8 (x1 : Int), .int .u8 (x2 : Int), .int .u8 (x3 : Int), .int .u8 (x4 : Int)].toArray) (by simp only [List.getElem?_toArray, List.getElem?_cons_succ, List.getElem?_cons_zero]; rfl) (by kernel_rfl) (by kernel_rfl) (by kernel_rfl) (by intro _ _ _ h; exact h) (yieldsIf_load_mid (by rfl) 87 _ rfl g 0 rfl [.int .u8 (x0 : Int), .int .u8 (x1 : Int), .int .u8 (x2 : Int), .int .u8 (x3 : Int), .int .u8 (x4 : Int)] _ (fun w hw => hw.2) Tryd.underlying87 rfl (by kernel_rfl)) (by assumption) ?_
  simp only [Act.put, List.setIfInBounds_toArray, List.set_cons_zero, List.set_cons_succ]
  refine wpAnyH_ready (rs := [5]) (by kernel_rfl) (by simp) ?_
  refine AllReadyH.cons (by simp only [List.getElem?_toArray, List.getElem?_cons_succ, List.getElem?_cons_zero]; rfl) (fun KK hK => ?_) AllReadyH.nil
  go_simp
  refine (HPt.out wd (HH.out.up HUd.out)).mono ?_
  rintro e w5 ⟨rfl, hm5, f5⟩
  have HF5 : Hid (FK (fun k => C.m.kd = 0 ∨ k ≠ A.mb) W w5) := (FK.ofUp HUd.out).trans f5
  have HKg : Hid (C.m.kd = 0 ∨ g ≠ A.mb) := by
    rcases HH.out.mp.lt with q | q
    · exact Or.inl q
    · exact Or.inr (by have := HG.out; omega)
  have HM5 : Hid (MpAt w5 A.v ⟨C.m.kd, x0, x1, x2, x3, x4⟩ A.mb) := by rw [HV8.out]; exact hm5
  have HR5 : Hid (w5.heap[g]? = some (.cells #[.int .u8 (x0 : Int), .int .u8 (x1 : Int), .int .u8 (x2 : Int), .int .u8 (x3 : Int), .int .u8 (x4 : Int)] 87 (0, 0))) := (f5.block g (heap_at HRd.out) HKg.out).trans HRd.out
  have HC5 : Hid (CtAt w5 A { C with m := ⟨C.m.kd, x0, x1, x2, x3, x4⟩ }) := by
    have hX := HXs.out
    have q0 := (HReg.out 0 (by decide)).2
    have q1 := (HReg.out 1 (by decide)).2
    have q2 := (HReg.out 2 (by decide)).2
    have q3 := (HReg.out 3 (by decide)).2
    have q4 := (HReg.out 4 (by decide)).2
    rw [hX.1] at q0
    rw [hX.2.1] at q1
    rw [hX.2.2.1] at q2
    rw [hX.2.2.2.1] at q3
    rw [hX.2.2.2.2] at q4
    exact HH.out.changedK HF5.out (in_of hkd (by omega) (by omega) (by omega) (by omega) (by omega)) HM5.out
  clear hm5 f5 HPt
  refine hK.out _ _ ⟨by rw [← HV8.out]; exact heap_cell HC5.out.blk rfl, range_row HR5.out⟩ (fun hHeld => ?_)
  clear hK KK HUd HRd
  try simp only [Act.put, List.setIfInBounds_toArray, List.set_cons_zero, List.set_cons_succ]
  refine wpAnyH_done (by kernel_rfl) ?_ _
  clear hHeld HSw HM5 HR5
  go_wp2_with fail
  have HL5 : Hid (∀ j, j < C.rm → w5.cell? ⟨ab, ao + 5 + j, none⟩ = some (.int .u8 (f (5 + j)))) := fun j hj => by
    have hc := HL.out.cell (5 + j) (by have := HNn.out.1; omega)
    have hb := HF5.out.block ab (World.block_lt_of_cell? _ _ hc) HD.out.2
    rw [Nat.add_assoc]
    unfold World.cell? at hc ⊢
    simp only [hb]
    exact hc
  have HK7 : Hid (∀ w, Up w5 w → CtAt w A { C with m := ⟨C.m.kd, x0, x1, x2, x3, x4⟩ } ∧ w.cell? ⟨A.cb, 7, none⟩ = some (.slice (some ⟨A.rb, 0, none⟩) C.rm A.rc)) := fun w u => ⟨HC5.out.up u, heap_cell (HC5.out.up u).blk rfl⟩
  refine wp_region_held_drew (S := fun w => w.cell? ⟨A.cb, 7, none⟩ = some (.slice (some ⟨A.rb, 0, none⟩) C.rm A.rc)) (by kernel_rfl) ?_ (fun hHeld => ?_)
  · exact (HK7.out _ (Up.refl _).drew).2
  have HUe : Hid (Up w5 w5.drew) := (Up.refl _).drew
  generalize World.drew w5 = we at HUe hHeld ⊢
  refine wpAnyH_take (i := 0) (v := ?_) (by simp only [List.getElem?_toArray, List.getElem?_cons_zero]; rfl) (by kernel_rfl) (by kernel_rfl) (by kernel_rfl) (by intro _ _ _ h; exact h) (Or.inl ⟨by rfl, ?_⟩) (by assumption) ?_
  rotate_left
  · (intro w hSw; (try dsimp only at hSw); go_simp <;> with_reducible rfl)
  try simp only [Act.put, List.setIfInBounds_toArray, List.set_cons_zero, List.set_cons_succ]
  refine wpAnyH_take (i := 1) (v := ?_) (by simp only [List.getElem?_toArray, List.getElem?_cons_succ, List.getElem?_cons_zero]; rfl) (by kernel_rfl) (by kernel_rfl) (by kernel_rfl) (by intro _ _ _ h; exact h) (Or.inl ⟨by rfl, ?_⟩) (by assumption) ?_
  rotate_left
  · (intro w hSw; (try dsimp only at hSw); go_simp <;> with_reducible rfl)
  try simp only [Act.put, List.setIfInBounds_toArray, List.set_cons_zero, List.set_cons_succ]
  refine wpAnyH_take (i := 2) (v := ?_) (by simp only [List.getElem?_toArray, List.getElem?_cons_succ, List.getElem?_cons_zero]; rfl) (by kernel_rfl) (by kernel_rfl) (by kernel_rfl) (by intro _ _ _ h; exact h) (Or.inl ⟨by rfl, ?_⟩) (by assumption) ?_
  rotate_left
  · (intro w hSw; (try dsimp only at hSw); go_simp <;> with_reducible rfl)
  try simp only [Act.put, List.setIfInBounds_toArray, List.set_cons_zero, List.set_cons_succ]
  refine wpAnyH_take (i := 3) (v := ?_) (by simp only [List.getElem?_toArray, List.getElem?_cons_succ, List.getElem?_cons_zero]; rfl) (by kernel_rfl) (by kernel_rfl) (by kernel_rfl) (by intro _ _ _ h; exact h) (Or.inl ⟨by rfl, ?_⟩) (by assumption) ?_
  rotate_left
  · (intro w hSw; (try dsimp only at hSw); go_simp <;> with_reducible rfl)
  try simp only [Act.put, List.setIfInBounds_toArray, List.set_cons_zero, List.set_cons_succ]
  refine wpAnyH_take (i := 4) (v := ?_) (by simp only [List.getElem?_toArray, List.getElem?_cons_succ, List.getElem?_cons_zero]; rfl) (by kernel_rfl) (by kernel_rfl) (by kernel_rfl) (by intro _ _ _ h; exact h) (Or.inl ⟨by rfl, ?_⟩) (by assumption) ?_
  rotate_left
  · (intro w hSw; (try dsimp only at hSw); go_simp <;> with_reducible rfl)
  try simp only [Act.put, List.setIfInBounds_toArray, List.set_cons_zero, List.set_cons_succ]
  refine wpAnyH_take (i := 5) (v := ?_) (by simp only [List.getElem?_toArray, List.getElem?_cons_succ, List.getElem?_cons_zero]; rfl) (by kernel_rfl) (by kernel_rfl) (by kernel_rfl) (by intro _ _ _ h; exact h) (Or.inl ⟨by rfl, ?_⟩) (by assumption) ?_
  rotate_left
  · (intro w hSw; (try dsimp only at hSw); go_simp <;> with_reducible rfl)
  try simp only [Act.put, List.setIfInBounds_toArray, List.set_cons_zero, List.set_cons_succ]
  rw [if_neg (show ¬ c = 5 by omega)]
  have HCp2 : Hid (∀ ty, (Builtin.copy_ #[24, 24] ty #[.slice (some ⟨A.rb, 0, none⟩) C.rm A.rc, .slice (some ⟨ab, ao + 5, none⟩) (n - 5) (c - 5)]).run Tryd.prog we = .ok (goInt C.rm) (we.setCells A.rb 0 (byL (fun k => f (5 + k)) C.rm))) := fun ty => copy_run (k := C.rm) (HK7.out we HUe.out).1.ram (by show 0 + C.rm ≤ C.rm; omega) (by rw [HE5.out]; exact (Nat.min_self _).symm) (fun j hj => by rw [Addr.add_lit]; exact (cell_up HUe.out (HL5.out j hj))) A.rc (c - 5) ty
  refine wpAnyH_ready (rs := [6]) (by kernel_rfl) (by simp) ?_
  refine AllReadyH.cons (by simp only [List.getElem?_toArray, List.getElem?_cons_succ, List.getElem?_cons_zero]; rfl) (fun KK hK => ?_) AllReadyH.nil
  refine wp_copy_runI we _ _ 24 24 rfl _ _ rfl rfl (HCp2.out _) ?_
  have HZ : Hid (CtAt (we.setCells A.rb 0 (byL (fun k => f (5 + k)) C.rm)) A (C.loaded f)) := by
    have hc := (HK7.out we HUe.out).1
    have fr := fr_setCells A.rb (byL (fun k => f (5 + k)) C.rm) 0 we
    have hX := HXs.out
    have hb := hc.ram.setCells 0 C.rm (fun k => f (5 + k)) (by show 0 + C.rm ≤ C.rm; omega)
    have em : (⟨C.m.kd, x0, x1, x2, x3, x4⟩ : Mp) = (C.loaded f).m := by
      unfold Ct.loaded
      dsimp only
      rw [hX.1, hX.2.1, hX.2.2.1, hX.2.2.2.1, hX.2.2.2.2]
      simp only [Int.toNat_natCast]
    refine ⟨(fr.block A.cb (heap_at hc.blk) hc.d2).trans hc.blk, hc.rom.of_block (fr.block A.rg hc.rom.lt hc.d4), ?_, em ▸ (hc.mp.fr fr (Ne.symm hc.d6)), em ▸ hc.inn, hc.n1, hc.n2, hc.nc, hc.rc, hc.rm, hc.d1, hc.d2, hc.d3, hc.d4, hc.d5, hc.d6⟩
    exact hb.congr (fun k hk => by rw [putF_in _ _ (Nat.zero_le k) (by show k < 0 + C.rm; have : k < C.rm := hk; omega), Nat.sub_zero]; exact (if_pos hk).symm)
  have HFz : Hid (FK (A.K C.m.kd) W (we.setCells A.rb 0 (byL (fun k => f (5 + k)) C.rm))) := ((HF5.out.trans (FK.ofUp HUe.out)).mono (fun b _ h => h.2)).trans ((FK.ofFr (fr_setCells A.rb _ 0 we) (K := A.K C.m.kd) (fun h => h.1 rfl)))
  generalize World.setCells we _ _ _ = wz at HZ HFz ⊢
  refine hK.out _ _ (heap_cell HZ.out.blk rfl) (fun hHeld => ?_)
  clear hK KK HCp2
  simp only [goInt, Act.put, List.setIfInBounds_toArray, List.set_cons_zero, List.set_cons_succ]
  refine wpAnyH_done (by kernel_rfl) ?_ _
  clear hHeld
  go_wp2_with fail
  go_ret
  exact ⟨by first | rfl | (simp; done), HZ.out, HFz.out⟩
end Go.Proofs.YtojlappgmckokaaDoor
/- Cart: New, with a save. -/
namespace Go.Proofs.YtojlappgmckokaaDoor
open Go.Shelf Go.RowKit
set_option linter.unusedVariables false
set_option linter.unusedSimpArgs false
variable {w w' W : World} {g n : Nat} {f : Nat → Int}
theorem fits_mp {cb rb rc rm mb n c ab ao : Nat} {v : Value} {m : Mp} {aa : Option Addr} {f : Nat → Int} {t : Bool} (k7 : W.cell? ⟨cb, 7, none⟩ = some (.slice (some ⟨rb, 0, none⟩) rm rc)) (k8 : W.cell? ⟨cb, 8, none⟩ = some v) (hm : MpAt W v m mb) (hL : Byts W aa ab ao n c f) (ht : t = true ↔ n = rm ∧ ∀ k, k < n → f k ≤ (m.kp : Int)) (hrm : rm ≤ 131072) : Calls Tryd.prog 42 #[.pointer (some ⟨cb, 0, none⟩), .slice aa n c] W fun e w' => e = .returned (.bool t) ∧ Up W w' := by
  rcases hm with ⟨hk, hv⟩ | ⟨hk, hv, hb⟩
  · rw [hv] at k8
    have e9 : m.kp = 255 := by unfold Mp.kp; rw [hk]; rfl
    rw [e9] at ht
    exact fits_0 k7 k8 hL ht hrm
  · rcases hk with hk | hk | hk | hk
    · have e9 : m.kp = 255 := by unfold Mp.kp; rw [hk]; rfl
      rw [hv, hk] at k8
      rw [e9] at ht
      exact fits_1 k7 k8 hL ht hrm
    · have e9 : m.kp = 15 := by unfold Mp.kp; rw [hk]; rfl
      rw [hv, hk] at k8
      rw [e9] at ht
      exact fits_2 k7 k8 hL ht hrm
    · have e9 : m.kp = 255 := by unfold Mp.kp; rw [hk]; rfl
      rw [hv, hk] at k8
      rw [e9] at ht
      exact fits_3 k7 k8 hL ht hrm
    · have e9 : m.kp = 255 := by unfold Mp.kp; rw [hk]; rfl
      rw [hv, hk] at k8
      rw [e9] at ht
      exact fits_5 k7 k8 hL ht hrm
set_option maxRecDepth 100000 in
theorem takesS_any {cb sg sn sc : Nat} {bt t : Bool} (k5 : W.cell? ⟨cb, 5, none⟩ = some (.bool bt)) (hn : 1 ≤ sn) (hn2 : sn ≤ 9223372036854775807) (HF : Hid (∀ w, Up W w → Calls Tryd.prog 42 #[.pointer (some ⟨cb, 0, none⟩), .slice (some ⟨sg, 0, none⟩) sn sc] w fun e w' => e = .returned (.bool t) ∧ Up w w')) : Calls Tryd.prog 38 #[.pointer (some ⟨cb, 0, none⟩), .slice (some ⟨sg, 0, none⟩) sn sc] W fun e w' => e = .returned (.bool (bt && t)) ∧ Up W w' := by
  have e0 : ¬ (sn : Int) = 0 := by omega
  have e1 : ((sn : Int) == 0) = false := by rw [beq_eq_false_iff_ne]; exact e0
  cases bt with
  | false =>
    go_enter Tryd.func38, Tryd.ntmps38
    go_wp2_with fail
    go_ret
    exact ⟨by first | rfl | (simp; done), by first | exact Up.refl _ | exact Up.drewN _ _⟩
  | true =>
    go_enter Tryd.func38, Tryd.ntmps38
    go_wp2_with fail
    refine (HF.out _ (by first | exact Up.refl _ | exact Up.drewN _ _ | exact (Up.refl _).drew)).mono ?_
    rintro e w5 ⟨rfl, u5⟩
    have HU5 : Hid (Up W w5) := by first | exact u5 | exact (Up.drewN _ _).trans u5 | exact ((Up.refl _).drew).trans u5
    clear u5
    go_wp2_with fail
    go_ret
    exact ⟨by first | rfl | (simp; done), HU5.out⟩
/-- may these bytes be the save of a cartridge of this row? -/
def SaveFits (R : Rw) (rn sn : Nat) (sf : Nat → Int) : Prop := R.bat = true ∧ sn = rn ∧ ∀ k, k < sn → sf k ≤ ((Mp.new R.mapper).kp : Int)
def NewSAns (W : World) (f : Nat → Int) (n sn : Nat) (sf : Nat → Int) (e : Ending) (w' : World) : Prop := ∃ R b mk, RowIs (f 327).toNat R b ∧ MarkIs f mk ∧ Up W w' ∧ ((faultI mk f R b n ≠ 0 ∧ e = .returned (.tuple #[.pointer none, .int .i64 (faultI mk f R b n)])) ∨ (faultI mk f R b n = 0 ∧ ¬ SaveFits R (ramN R (f 329).toNat) sn sf ∧ e = .returned (.tuple #[.pointer none, .int .i64 48])) ∨ (faultI mk f R b n = 0 ∧ SaveFits R (ramN R (f 329).toNat) sn sf ∧ ∃ m A, TitleIs f m ∧ CtAt w' A { ctNew f n m R (f 328).toNat (f 329).toNat with rf := sf } ∧ W.heap.size ≤ A.cb ∧ W.heap.size ≤ A.rg ∧ W.heap.size ≤ A.rb ∧ W.heap.size ≤ A.mb ∧ e = .returned (.tuple #[.pointer (some ⟨A.cb, 0, none⟩), .int .i64 0])))
set_option maxRecDepth 100000 in
set_option maxHeartbeats 2000000 in
theorem new_save {c sg sn sc : Nat} {sf : Nat → Int} (hS : By W sg sn sf) (hsn : 1 ≤ sn) (hsc : sn ≤ sc) (hsm : sc ≤ maxLen) (s8 : ∀ k, 0 ≤ sf k ∧ sf k ≤ 255) (hT : Tb W) (h : By W g n f) (hn : 32768 ≤ n) (hn2 : n ≤ 2097152) (hc : n ≤ c) (hm : c ≤ 9223372036854775807) (h8 : ∀ k, 0 ≤ f k ∧ f k ≤ 255) : Calls Tryd.prog 15 #[.slice (some ⟨g, 0, none⟩) n c, .slice (some ⟨sg, 0, none⟩) sn sc] W (NewSAns W f n sn sf) := by
  have HSv : Hid (By W sg sn sf ∧ (∀ k, 0 ≤ sf k ∧ sf k ≤ 255)) := ⟨hS, s8⟩
  have sc9 : sc ≤ 9223372036854775807 := by unfold maxLen at hsm; omega
  clear hS s8
  have HCk : Hid _ := check_any hT h hn hn2 hc hm h8
  have HB : Hid (By W g n f) := h
  clear hT h h8
  go_enter Tryd.func15, Tryd.ntmps15
  go_wp2_with fail
  refine Calls.mono HCk.out ?_
  rintro e w2 ⟨R, b, mk, hr, hk, u2, hcs⟩
  have HRw : Hid (RowIs (f 327).toNat R b ∧ MarkIs f mk ∧ Up W w2) := ⟨hr, hk, u2⟩
  clear HCk hr hk u2
  rcases hcs with ⟨hx, rfl⟩ | ⟨hx, m, ht, rfl⟩
  · have HX : Hid _ := hx
    obtain ⟨x, hxx⟩ : ∃ x, faultI mk f R b n = x := ⟨_, rfl⟩
    have hx0 : ¬ x = 0 := by rw [← hxx]; exact hx
    have HXX : Hid (faultI mk f R b n = x) := hxx
    rw [hxx]
    unfold zHead
    clear hx hxx HX
    go_wp2_with fail
    go_ret2
    exact ⟨R, b, mk, HRw.out.1, HRw.out.2.1, HRw.out.2.2.alloc _, Or.inl ⟨by rw [HXX.out]; exact hx0, by rw [HXX.out]; first | rfl | (simp; done)⟩⟩
  · obtain ⟨c8, hc8⟩ : ∃ c8, (f 328).toNat = c8 := ⟨_, rfl⟩
    obtain ⟨c9, hc9⟩ : ∃ c9, (f 329).toNat = c9 := ⟨_, rfl⟩
    rw [hc8, hc9]
    have HF : Hid (faultI mk f R b n = 0 ∧ TitleIs f m ∧ (f 328).toNat = c8 ∧ (f 329).toNat = c9) := ⟨hx, ht, hc8, hc9⟩
    clear hx ht hc8 hc9
    have hmp : R.mapper = 0 ∨ R.mapper = 1 ∨ R.mapper = 2 ∨ R.mapper = 3 ∨ R.mapper = 5 := by
      rcases HRw.out.1 with ⟨_, hr, _⟩ | ⟨_, hr, _⟩
      · exact rowsT_mp R hr
      · subst hr; decide
    have hrn : ramN R c9 ≤ 131072 := ramN_le R c9
    have HSf : Hid (SaveFits R (ramN R c9) sn sf ↔ R.bat = true ∧ sn = ramN R c9 ∧ ∀ k, k < sn → sf k ≤ ((Mp.new R.mapper).kp : Int)) := Iff.rfl
    have HCt : Hid (ctNew f n m R c8 c9 = ⟨strF f 308 m, R.kind, R.mapper, 2 * 2 ^ c8, ramN R c9, R.bat, n, f, fun _ => 0, Mp.new R.mapper⟩) := rfl
    unfold headC
    dsimp only
    have HMO : Hid (∀ w, Calls Tryd.prog 37 #[.int .i64 (R.mapper : Int)] w fun e w' => ∃ v, e = .returned v ∧ MpAt w' v (Mp.new R.mapper) w.heap.size ∧ Up w w' ∧ v.oneCell' = true) := fun w => mapperOf_any hmp
    have hmk : ∀ w : World, (Instr.makeSlice 24 (.int .i64 (ramN R c9 : Int)) (.int .i64 (ramN R c9 : Int))).run Tryd.prog w = .ok (.slice (some ⟨w.heap.size, 0, none⟩) (ramN R c9) (ramN R c9)) (w.alloc (.cells (madeCells #[.int .u8 0] (ramN R c9)) 5)) := fun w => mkB w _ (by omega)
    generalize strF f 308 m = T at HCt ⊢
    generalize R.kind = KD at HCt ⊢
    generalize R.mapper = MN at HCt HMO hmp HSf ⊢
    generalize 2 * 2 ^ c8 = BK at HCt ⊢
    generalize hRN : ramN R c9 = RN at HCt hrn hmk HSf ⊢
    have HRN : Hid (ramN R c9 = RN) := hRN
    clear hRN
    generalize R.bat = BT at HCt HSf ⊢
    go_upto_region 4 with fail
    have HU3 : Hid (Up W (w2.alloc (Obj.cells #[.string T, .int .i64 (KD : Int), .int .i64 (MN : Int), .int .i64 (BK : Int), .int .i64 (RN : Int), .bool BT] 30))) := HRw.out.2.2.alloc _
    have HB3 : Hid ((w2.alloc (Obj.cells #[.string T, .int .i64 (KD : Int), .int .i64 (MN : Int), .int .i64 (BK : Int), .int .i64 (RN : Int), .bool BT] 30)).heap[w2.heap.size]? = some (.cells #[.string T, .int .i64 (KD : Int), .int .i64 (MN : Int), .int .i64 (BK : Int), .int .i64 (RN : Int), .bool BT] 30 (0, 0))) := heap_alloc_new w2 _
    generalize World.alloc w2 _ = w3 at HU3 HB3 ⊢
    generalize w2.heap.size = hb at HB3 ⊢
    have hh3 := heap_at HB3.out
    have HSw : Hid (∀ w, Up w3 w → w.rangeAt hb 0 [.string T, .int .i64 (KD : Int), .int .i64 (MN : Int), .int .i64 (BK : Int), .int .i64 (RN : Int), .bool BT] ∧ w.cell? ⟨hb, 4, none⟩ = some (.int .i64 (RN : Int)) ∧ w.cell? ⟨hb, 2, none⟩ = some (.int .i64 (MN : Int))) := fun w u => ⟨range_up u (range_heap HB3.out), cell_up u (heap_cell HB3.out rfl), cell_up u (heap_cell HB3.out rfl)⟩
    go_cut [8] (fun X wy => ∃ (cb rb mb : Nat) (t : TypeId) (pv : Value), X = .pointer (some ⟨cb, 0, none⟩) ∧ Hid (wy.heap[cb]? = some (.cells #[.string T, .int .i64 (KD : Int), .int .i64 (MN : Int), .int .i64 (BK : Int), .int .i64 (RN : Int), .bool BT, .slice none 0 0, .slice (some ⟨rb, 0, none⟩) RN RN, .iface t pv] 81 (0, 0)) ∧ By wy rb RN (fun _ => 0) ∧ MpAt wy (.iface t pv) (Mp.new MN) mb ∧ Up w3 wy ∧ w3.heap.size ≤ cb ∧ w3.heap.size ≤ rb ∧ w3.heap.size ≤ mb ∧ cb ≠ rb ∧ cb ≠ mb ∧ rb ≠ mb ∧ (MN = 0 ∨ mb < wy.heap.size)))
    case first =>
      refine wp_region_held_drew (S := fun w => w.rangeAt hb 0 [.string T, .int .i64 (KD : Int), .int .i64 (MN : Int), .int .i64 (BK : Int), .int .i64 (RN : Int), .bool BT] ∧ w.cell? ⟨hb, 4, none⟩ = some (.int .i64 (RN : Int)) ∧ w.cell? ⟨hb, 2, none⟩ = some (.int .i64 (MN : Int))) (by kernel_rfl) ?_ (fun hHeld => ?_)
      · exact HSw.out _ (Up.refl w3).drew
      have u6 : Up w3 w3.drew := (Up.refl w3).drew
      generalize World.drew w3 = wd at u6 hHeld ⊢
      refine wpAnyH_take (i := 0) (v := .agg [.string T, .int .i64 (KD : Int), .int .i64 (MN : Int), .int .i64 (BK : Int), .int .i64 (RN : Int), .bool BT].toArray) (by simp only [List.getElem?_toArray, List.getElem?_cons_zero]; rfl) (by kernel_rfl) (by kernel_rfl) (by kernel_rfl) (by intro _ _ _ h; exact h) (yieldsIf_load_mid (by rfl) 30 _ rfl hb 0 rfl [.string T, .int .i64 (KD : Int), .int .i64 (MN : Int), .int .i64 (BK : Int), .int .i64 (RN : Int), .bool BT] _ (fun w hw => hw.1) Tryd.underlying30 rfl (by kernel_rfl)) (by assumption) ?_
      simp only [Act.put, List.setIfInBounds_toArray, List.set_cons_zero, List.set_cons_succ]
      refine wpAnyH_take (i := 1) (v := ?_) (by simp only [List.getElem?_toArray, List.getElem?_cons_succ, List.getElem?_cons_zero]; rfl) (by kernel_rfl) (by kernel_rfl) (by kernel_rfl) (by intro _ _ _ h; exact h) (Or.inl ⟨by rfl, ?_⟩) (by assumption) ?_
      rotate_left
      · (intro w hSw; (try dsimp only at hSw); go_simp <;> with_reducible rfl)
      try simp only [Act.put, List.setIfInBounds_toArray, List.set_cons_zero, List.set_cons_succ]
      refine wpAnyH_take (i := 2) (v := ?_) (by simp only [List.getElem?_toArray, List.getElem?_cons_succ, List.getElem?_cons_zero]; rfl) (by kernel_rfl) (by kernel_rfl) (by kernel_rfl) (by intro _ _ _ h; exact h) (Or.inl ⟨by rfl, ?_⟩) (by assumption) ?_
      rotate_left
      · (intro w hSw; (try dsimp only at hSw); go_simp <;> with_reducible rfl)
      try simp only [Act.put, List.setIfInBounds_toArray, List.set_cons_zero, List.set_cons_succ]
      refine wpAnyH_take (i := 4) (v := ?_) (by simp only [List.getElem?_toArray, List.getElem?_cons_succ, List.getElem?_cons_zero]; rfl) (by kernel_rfl) (by kernel_rfl) (by kernel_rfl) (by intro _ _ _ h; exact h) (Or.inl ⟨by rfl, ?_⟩) (by assumption) ?_
      rotate_left
      · (intro w hSw; (try dsimp only at hSw); go_simp <;> with_reducible rfl)
      try simp only [Act.put, List.setIfInBounds_toArray, List.set_cons_zero, List.set_cons_succ]
      refine wpAnyH_take (i := 5) (v := ?_) (by simp only [List.getElem?_toArray, List.getElem?_cons_succ, List.getElem?_cons_zero]; rfl) (by kernel_rfl) (by kernel_rfl) (by kernel_rfl) (by intro _ _ _ h; exact h) (Or.inl ⟨by rfl, ?_⟩) (by assumption) ?_
      rotate_left
      · (intro w hSw; (try dsimp only at hSw); go_simp <;> with_reducible rfl)
      try simp only [Act.put, List.setIfInBounds_toArray, List.set_cons_zero, List.set_cons_succ]
      refine wpAnyH_ready (rs := [3, 6]) (by kernel_rfl) (by simp) ?_
      refine AllReadyH.cons (by simp only [List.getElem?_toArray, List.getElem?_cons_succ, List.getElem?_cons_zero]; rfl) (fun KK hK => ?_) (AllReadyH.cons (by simp only [List.getElem?_toArray, List.getElem?_cons_succ, List.getElem?_cons_zero]; rfl) (fun KK hK => ?_) AllReadyH.nil)
      · go_simp
        have ua : Up w3 (wd.alloc (Obj.cells (madeCells #[.int .u8 0] RN) 5)) := u6.alloc _
        have hby := made_by wd RN 5
        have HA : Hid (Up w3 (wd.alloc (Obj.cells (madeCells #[.int .u8 0] RN) 5)) ∧ By (wd.alloc (Obj.cells (madeCells #[.int .u8 0] RN) 5)) wd.heap.size RN (fun _ => 0)) := ⟨ua, hby⟩
        clear ua hby
        generalize World.alloc wd _ = wa at HA ⊢
        generalize hrbe : wd.heap.size = rb at HA ⊢
        refine hK.out _ _ (HSw.out _ HA.out.1) (fun hHeld => ?_)
        clear hK KK
        try simp only [Act.put, List.setIfInBounds_toArray, List.set_cons_zero, List.set_cons_succ]
        refine wpAnyH_ready (rs := [6]) (by kernel_rfl) (by simp) ?_
        refine AllReadyH.cons (by simp only [List.getElem?_toArray, List.getElem?_cons_succ, List.getElem?_cons_zero]; rfl) (fun KK hK => ?_) AllReadyH.nil
        go_simp
        refine (HMO.out _).mono ?_
        rintro e w5 ⟨v, rfl, hmp5, u5, _⟩
        obtain ⟨t, pv, rfl⟩ := mp_iface hmp5
        have H5 : Hid (Up w3 w5 ∧ By w5 rb RN (fun _ => 0) ∧ MpAt w5 (.iface t pv) (Mp.new MN) wa.heap.size ∧ (w3.heap.size ≤ wa.heap.size ∧ (wa.heap.size ≠ rb ∨ MN = 0)) ∧ rb < w5.heap.size ∧ w3.heap.size ≤ rb) := ⟨HA.out.1.trans u5, HA.out.2.up u5, hmp5, ⟨HA.out.1.size, Or.inl (Nat.ne_of_gt HA.out.2.lt)⟩, Nat.lt_of_lt_of_le HA.out.2.lt u5.size, by have := u6.size; omega⟩
        clear hmp5 u5 HA
        refine hK.out _ _ (HSw.out _ H5.out.1) (fun hHeld => ?_)
        clear hK KK
        try simp only [Act.put, List.setIfInBounds_toArray, List.set_cons_zero, List.set_cons_succ]
        refine wpAnyH_take (i := 7) (v := ?_) (by simp only [List.getElem?_toArray, List.getElem?_cons_succ, List.getElem?_cons_zero]; rfl) (by kernel_rfl) (by kernel_rfl) (by kernel_rfl) (by intro _ _ _ h; exact h) (Or.inl ⟨by rfl, ?_⟩) (by assumption) ?_
        rotate_left
        · (intro w hSw; (try dsimp only at hSw); go_simp <;> with_reducible rfl)
        try simp only [Act.put, List.setIfInBounds_toArray, List.set_cons_zero, List.set_cons_succ]
        refine wpAnyH_ready (rs := [8]) (by kernel_rfl) (by simp) ?_
        refine AllReadyH.cons (by simp only [List.getElem?_toArray, List.getElem?_cons_succ, List.getElem?_cons_zero]; rfl) (fun KK hK => ?_) AllReadyH.nil
        rw [if_pos (by rfl)]
        go_simp
        have hbx : (w5.alloc (Obj.cells #[.string T, .int .i64 (KD : Int), .int .i64 (MN : Int), .int .i64 (BK : Int), .int .i64 (RN : Int), .bool BT, .slice none 0 0, .slice (some ⟨rb, 0, none⟩) RN RN, .iface t pv] 81)).heap[w5.heap.size]? = some (.cells #[.string T, .int .i64 (KD : Int), .int .i64 (MN : Int), .int .i64 (BK : Int), .int .i64 (RN : Int), .bool BT, .slice none 0 0, .slice (some ⟨rb, 0, none⟩) RN RN, .iface t pv] 81 (0, 0)) := heap_alloc_new w5 _
        have ux : Up w5 (w5.alloc (Obj.cells #[.string T, .int .i64 (KD : Int), .int .i64 (MN : Int), .int .i64 (BK : Int), .int .i64 (RN : Int), .bool BT, .slice none 0 0, .slice (some ⟨rb, 0, none⟩) RN RN, .iface t pv] 81)) := (Up.refl w5).alloc _
        have hsx : (w5.alloc (Obj.cells #[.string T, .int .i64 (KD : Int), .int .i64 (MN : Int), .int .i64 (BK : Int), .int .i64 (RN : Int), .bool BT, .slice none 0 0, .slice (some ⟨rb, 0, none⟩) RN RN, .iface t pv] 81)).heap.size = w5.heap.size + 1 := by simp
        refine hK.out _ _ (HSw.out _ (H5.out.1.trans ux)) (fun hHeld => ?_)
        clear hK KK
        try simp only [Act.put, List.setIfInBounds_toArray, List.set_cons_zero, List.set_cons_succ]
        refine wpAnyH_take (i := 9) (v := ?_) (by simp only [List.getElem?_toArray, List.getElem?_cons_succ, List.getElem?_cons_zero]; rfl) (by kernel_rfl) (by kernel_rfl) (by kernel_rfl) (by intro _ _ _ h; exact h) (Or.inl ⟨by rfl, ?_⟩) (by assumption) ?_
        rotate_left
        · (intro w hSw; (try dsimp only at hSw); go_simp <;> with_reducible rfl)
        try simp only [Act.put, List.setIfInBounds_toArray, List.set_cons_zero, List.set_cons_succ]
        refine wpAnyH_done (by kernel_rfl) ?_ _
        first | go_meet | (go_wp2_with fail; go_meet)
        obtain ⟨z1, z2, z3, z4, z5, z6⟩ := H5.out
        obtain ⟨mb, y1, y2, y3, y4, y5⟩ := mp_pick (c := w5.heap.size) (r := rb) (lo := w3.heap.size) z3 z4.1 (by omega) (by omega) rfl z4.2
        exact ⟨w5.heap.size, rb, mb, t, pv, rfl, hbx, z2.up ux, y1.up ux, z1.trans ux, by have := z1.size; omega, z6, y2, by omega, by omega, by omega, y5.imp id (fun h => by omega)⟩
      · go_simp
        refine (HMO.out _).mono ?_
        rintro e w4 ⟨v, rfl, hmp5, u4, _⟩
        obtain ⟨t, pv, rfl⟩ := mp_iface hmp5
        have H4 : Hid (Up w3 w4 ∧ MpAt w4 (.iface t pv) (Mp.new MN) wd.heap.size ∧ wd.heap.size ≤ w4.heap.size) := ⟨u6.trans u4, hmp5, u4.size⟩
        clear hmp5 u4
        refine hK.out _ _ (HSw.out _ H4.out.1) (fun hHeld => ?_)
        clear hK KK
        try simp only [Act.put, List.setIfInBounds_toArray, List.set_cons_zero, List.set_cons_succ]
        refine wpAnyH_ready (rs := [3]) (by kernel_rfl) (by simp) ?_
        refine AllReadyH.cons (by simp only [List.getElem?_toArray, List.getElem?_cons_succ, List.getElem?_cons_zero]; rfl) (fun KK hK => ?_) AllReadyH.nil
        go_simp
        have ua : Up w4 (w4.alloc (Obj.cells (madeCells #[.int .u8 0] RN) 5)) := (Up.refl w4).alloc _
        have hsz : (w4.alloc (Obj.cells (madeCells #[.int .u8 0] RN) 5)).heap.size = w4.heap.size + 1 := by simp
        have hby := made_by w4 RN 5
        have H5 : Hid (Up w3 (w4.alloc (Obj.cells (madeCells #[.int .u8 0] RN) 5)) ∧ By (w4.alloc (Obj.cells (madeCells #[.int .u8 0] RN) 5)) w4.heap.size RN (fun _ => 0) ∧ MpAt (w4.alloc (Obj.cells (madeCells #[.int .u8 0] RN) 5)) (.iface t pv) (Mp.new MN) wd.heap.size ∧ (w3.heap.size ≤ wd.heap.size ∧ (wd.heap.size ≠ w4.heap.size ∨ MN = 0)) ∧ w4.heap.size < (w4.alloc (Obj.cells (madeCells #[.int .u8 0] RN) 5)).heap.size ∧ w3.heap.size ≤ w4.heap.size) := ⟨H4.out.1.trans ua, hby, H4.out.2.1.up ua, ⟨u6.size, mp_ne H4.out.2.1⟩, by omega, H4.out.1.size⟩
        clear ua hby hsz
        generalize World.alloc w4 _ = w5 at H5 ⊢
        generalize hrbe : w4.heap.size = rb at H5 ⊢
        refine hK.out _ _ (HSw.out _ H5.out.1) (fun hHeld => ?_)
        clear hK KK
        try simp only [Act.put, List.setIfInBounds_toArray, List.set_cons_zero, List.set_cons_succ]
        refine wpAnyH_take (i := 7) (v := ?_) (by simp only [List.getElem?_toArray, List.getElem?_cons_succ, List.getElem?_cons_zero]; rfl) (by kernel_rfl) (by kernel_rfl) (by kernel_rfl) (by intro _ _ _ h; exact h) (Or.inl ⟨by rfl, ?_⟩) (by assumption) ?_
        rotate_left
        · (intro w hSw; (try dsimp only at hSw); go_simp <;> with_reducible rfl)
        try simp only [Act.put, List.setIfInBounds_toArray, List.set_cons_zero, List.set_cons_succ]
        refine wpAnyH_ready (rs := [8]) (by kernel_rfl) (by simp) ?_
        refine AllReadyH.cons (by simp only [List.getElem?_toArray, List.getElem?_cons_succ, List.getElem?_cons_zero]; rfl) (fun KK hK => ?_) AllReadyH.nil
        rw [if_pos (by rfl)]
        go_simp
        have hbx : (w5.alloc (Obj.cells #[.string T, .int .i64 (KD : Int), .int .i64 (MN : Int), .int .i64 (BK : Int), .int .i64 (RN : Int), .bool BT, .slice none 0 0, .slice (some ⟨rb, 0, none⟩) RN RN, .iface t pv] 81)).heap[w5.heap.size]? = some (.cells #[.string T, .int .i64 (KD : Int), .int .i64 (MN : Int), .int .i64 (BK : Int), .int .i64 (RN : Int), .bool BT, .slice none 0 0, .slice (some ⟨rb, 0, none⟩) RN RN, .iface t pv] 81 (0, 0)) := heap_alloc_new w5 _
        have ux : Up w5 (w5.alloc (Obj.cells #[.string T, .int .i64 (KD : Int), .int .i64 (MN : Int), .int .i64 (BK : Int), .int .i64 (RN : Int), .bool BT, .slice none 0 0, .slice (some ⟨rb, 0, none⟩) RN RN, .iface t pv] 81)) := (Up.refl w5).alloc _
        have hsx : (w5.alloc (Obj.cells #[.string T, .int .i64 (KD : Int), .int .i64 (MN : Int), .int .i64 (BK : Int), .int .i64 (RN : Int), .bool BT, .slice none 0 0, .slice (some ⟨rb, 0, none⟩) RN RN, .iface t pv] 81)).heap.size = w5.heap.size + 1 := by simp
        refine hK.out _ _ (HSw.out _ (H5.out.1.trans ux)) (fun hHeld => ?_)
        clear hK KK
        try simp only [Act.put, List.setIfInBounds_toArray, List.set_cons_zero, List.set_cons_succ]
        refine wpAnyH_take (i := 9) (v := ?_) (by simp only [List.getElem?_toArray, List.getElem?_cons_succ, List.getElem?_cons_zero]; rfl) (by kernel_rfl) (by kernel_rfl) (by kernel_rfl) (by intro _ _ _ h; exact h) (Or.inl ⟨by rfl, ?_⟩) (by assumption) ?_
        rotate_left
        · (intro w hSw; (try dsimp only at hSw); go_simp <;> with_reducible rfl)
        try simp only [Act.put, List.setIfInBounds_toArray, List.set_cons_zero, List.set_cons_succ]
        refine wpAnyH_done (by kernel_rfl) ?_ _
        first | go_meet | (go_wp2_with fail; go_meet)
        obtain ⟨z1, z2, z3, z4, z5, z6⟩ := H5.out
        obtain ⟨mb, y1, y2, y3, y4, y5⟩ := mp_pick (c := w5.heap.size) (r := rb) (lo := w3.heap.size) z3 z4.1 (by omega) (by omega) rfl z4.2
        exact ⟨w5.heap.size, rb, mb, t, pv, rfl, hbx, z2.up ux, y1.up ux, z1.trans ux, by have := z1.size; omega, z6, y2, by omega, by omega, by omega, y5.imp id (fun h => by omega)⟩
    case rest =>
    obtain ⟨cb, rb, mb, t, pv, rfl, HY⟩ := hcut
    generalize wc = w5 at HY ⊢
    obtain ⟨t7, ht7⟩ : ∃ t7 : Bool, t7 = true ↔ sn = RN ∧ ∀ k, k < sn → sf k ≤ ((Mp.new MN).kp : Int) := by
      by_cases q : sn = RN ∧ ∀ k, k < sn → sf k ≤ ((Mp.new MN).kp : Int)
      · exact ⟨true, fun _ => q, fun _ => rfl⟩
      · exact ⟨false, (fun h => (by cases h)), fun h => absurd h q⟩
    have HT7 : Hid (t7 = true ↔ sn = RN ∧ ∀ k, k < sn → sf k ≤ ((Mp.new MN).kp : Int)) := ht7
    have HUw5 : Hid (Up W w5) := HU3.out.trans HY.out.2.2.2.1
    have HTk : Hid (Calls Tryd.prog 38 #[.pointer (some ⟨cb, 0, none⟩), .slice (some ⟨sg, 0, none⟩) sn sc] w5 fun e w' => e = .returned (.bool (BT && t7)) ∧ Up w5 w') := takesS_any (heap_cell HY.out.1 rfl) hsn (by omega) (fun w u => fits_mp (t := t7) (rc := RN) (heap_cell ((u.block cb (heap_at HY.out.1)).trans HY.out.1) rfl) (heap_cell ((u.block cb (heap_at HY.out.1)).trans HY.out.1) rfl) (HY.out.2.2.1.up u) ((HSv.out.1.up (HUw5.out.trans u)).byts hsc hsm HSv.out.2) HT7.out hrn)
    clear ht7
    obtain ⟨T7, hT7⟩ : ∃ T7, T7 = (BT && t7) := ⟨_, rfl⟩
    rw [← hT7] at HTk
    have HTT : Hid (T7 = (BT && t7)) := hT7
    clear hT7
    go_wp2_with fail
    refine Calls.mono HTk.out ?_
    rintro e w6 ⟨rfl, u6⟩
    have H6 : Hid (Up w5 w6) := u6
    clear u6 HTk
    cases T7 with
    | false =>
      have HNo : Hid (¬ SaveFits R RN sn sf) := fun hq => by
        have h1 := HSf.out.1 hq
        have h2 := HT7.out.2 h1.2
        have h3 := HTT.out
        rw [h1.1, h2] at h3
        cases h3
      go_wp2_with fail
      go_ret2
      refine ⟨R, b, mk, HRw.out.1, HRw.out.2.1, HUw5.out.trans H6.out, Or.inr (Or.inl ⟨HF.out.1, ?_, by first | rfl | (simp; done)⟩)⟩
      rw [HF.out.2.2.2, HRN.out]
      exact HNo.out
    | true =>
    have HYes : Hid (SaveFits R RN sn sf) := by
      have h3 := HTT.out.symm
      rw [Bool.and_eq_true] at h3
      exact HSf.out.2 ⟨h3.1, HT7.out.1 h3.2⟩
    go_wp2_with fail
    have uW6 : Up W w6 := HU3.out.trans (HY.out.2.2.2.1.trans H6.out)
    have HCl : Hid _ := cloneB_any (cap := c) (o := 0) (g := g) (n := n) (f := f) (W := w6) (by omega) (fun k hk => by rw [Nat.zero_add]; exact (HB.out.up uW6).cell k hk)
    clear uW6
    refine Calls.mono HCl.out ?_
    rintro e w7 ⟨rg, rcap, rfl, hg1, hg2, hg3, hg4, u7⟩
    have H7 : Hid (w6.heap.size ≤ rg ∧ By w7 rg n f ∧ n ≤ rcap ∧ rcap ≤ maxLen ∧ Up w5 w7) := ⟨hg1, hg2, hg3, hg4, H6.out.trans u7⟩
    have hb7 : w7.heap[cb]? = some (.cells #[.string T, .int .i64 (KD : Int), .int .i64 (MN : Int), .int .i64 (BK : Int), .int .i64 (RN : Int), .bool BT, .slice none 0 0, .slice (some ⟨rb, 0, none⟩) RN RN, .iface t pv] 81 (0, 0)) := ((H6.out.trans u7).block cb (heap_at HY.out.1)).trans HY.out.1
    have HB7 : Hid _ := hb7
    have k6 : w7.cell? ⟨cb, 6, none⟩ = some (.slice none 0 0) := heap_cell HB7.out rfl
    have k7 : w7.cell? ⟨cb, 7, none⟩ = some (.slice (some ⟨rb, 0, none⟩) RN RN) := heap_cell HB7.out rfl
    have kf : ∀ k, w7.frozen? ⟨cb, k, none⟩ = false := fun k => heap_fz HB7.out
    clear hg1 hg2 hg3 hg4 u7 hb7 HCl
    have fr : Fr cb w7 (w7.setCell ⟨cb, 6, none⟩ (.slice (some ⟨rg, 0, none⟩) n rcap)) := (Fr.refl cb w7).setCell
    have HSn : Hid (sn = RN) := HYes.out.2.1
    have HCp : Hid (∀ ty, (Builtin.copy_ #[24, 24] ty #[.slice (some ⟨rb, 0, none⟩) RN RN, .slice (some ⟨sg, 0, none⟩) sn sc]).run Tryd.prog (w7.setCell ⟨cb, 6, none⟩ (.slice (some ⟨rg, 0, none⟩) n rcap)) = .ok (goInt RN) ((w7.setCell ⟨cb, 6, none⟩ (.slice (some ⟨rg, 0, none⟩) n rcap)).setCells rb 0 (byL sf RN))) := fun ty => by
      obtain ⟨y1, y2, y3, y4, y5, y6, y7, y8, y9, y10, y11⟩ := HY.out
      have b7 := (y2.up H7.out.2.2.2.2).of_block (fr.block rb (y2.up H7.out.2.2.2.2).lt (fun e => y8 e.symm))
      have us : By w7 sg sn sf := HSv.out.1.up (HUw5.out.trans H7.out.2.2.2.2)
      have hsl := HSv.out.1.lt
      have s7 := us.of_block (fr.block sg us.lt (by have := HU3.out.size; omega))
      exact copy_run (k := RN) b7 (by omega) (by rw [HSn.out]; exact (Nat.min_self _).symm) (fun j hj => by rw [Addr.add_lit, Nat.zero_add]; exact s7.cell j (by have := HSn.out; omega)) RN sc ty
    go_wp2_with (refine wpList_copy_runI _ rfl _ _ 24 24 rfl _ _ rfl rfl (HCp.out _) ?_)
    go_ret2
    have hb8 : (w7.setCell ⟨cb, 6, none⟩ (.slice (some ⟨rg, 0, none⟩) n rcap)).heap[cb]? = some (.cells #[.string T, .int .i64 (KD : Int), .int .i64 (MN : Int), .int .i64 (BK : Int), .int .i64 (RN : Int), .bool BT, .slice (some ⟨rg, 0, none⟩) n rcap, .slice (some ⟨rb, 0, none⟩) RN RN, .iface t pv] 81 (0, 0)) := heap_setCell_same w7 cb 6 _ _ _ HB7.out
    obtain ⟨y1, y2, y3, y4, y5, y6, y7, y8, y9, y10, y11⟩ := HY.out
    obtain ⟨x1, x2, x3, x4, x5⟩ := H7.out
    have hcbl := heap_at y1
    have hrbl := y2.lt
    have s56 := H6.out.size
    have sW3 := HU3.out.size
    have mx : rcap ≤ 9223372036854775807 := by unfold maxLen at x4; omega
    obtain ⟨mb2, v1, v2, v3, v4, v5⟩ : ∃ mb2, MpAt w7 (.iface t pv) (Mp.new MN) mb2 ∧ w3.heap.size ≤ mb2 ∧ mb2 ≠ cb ∧ mb2 ≠ rb ∧ mb2 ≠ rg := by
      by_cases hk : MN = 0
      · subst hk
        rcases y3 with ⟨h1, h2⟩ | ⟨h1, _⟩
        · exact ⟨cb + rb + rg + w3.heap.size + 1, Or.inl ⟨h1, h2⟩, by omega, by omega, by omega, by omega⟩
        · exact absurd h1 (by decide)
      · have : mb < w5.heap.size := y11.resolve_left hk
        exact ⟨mb, y3.up x5, y7, fun e => y9 e.symm, fun e => y10 e.symm, by omega⟩
    have hU0 : Up W (w7.setCell ⟨cb, 6, none⟩ (.slice (some ⟨rg, 0, none⟩) n rcap)) := Fr.up (HU3.out.trans (y4.trans x5)) (by omega) fr
    have f2 := fr_setCells rb (byL sf RN) 0 (w7.setCell ⟨cb, 6, none⟩ (.slice (some ⟨rg, 0, none⟩) n rcap))
    have hU : Up W ((w7.setCell ⟨cb, 6, none⟩ (.slice (some ⟨rg, 0, none⟩) n rcap)).setCells rb 0 (byL sf RN)) := Fr.up hU0 (by omega) f2
    have b8 := (y2.up x5).of_block (fr.block rb (y2.up x5).lt (fun e => y8 e.symm))
    have b9 : By ((w7.setCell ⟨cb, 6, none⟩ (.slice (some ⟨rg, 0, none⟩) n rcap)).setCells rb 0 (byL sf RN)) rb RN sf := (b8.setCells 0 RN sf (by omega)).congr (fun k hk => by rw [putF_in _ _ (Nat.zero_le k) (by omega), Nat.sub_zero])
    refine ⟨R, b, mk, HRw.out.1, HRw.out.2.1, hU, Or.inr (Or.inr ⟨HF.out.1, ?_, m, ⟨cb, rg, rcap, rb, RN, mb2, .iface t pv⟩, HF.out.2.1, ?_, by show W.heap.size ≤ cb; omega, by show W.heap.size ≤ rg; omega, by show W.heap.size ≤ rb; omega, by show W.heap.size ≤ mb2; omega, by first | rfl | (simp; done)⟩)⟩
    · rw [HF.out.2.2.2, HRN.out]
      exact HYes.out
    rw [HF.out.2.2.1, HF.out.2.2.2, HCt.out]
    have x28 := x2.of_block (fr.block rg x2.lt (by omega))
    refine ⟨(f2.block cb (heap_at hb8) y8).trans hb8, x28.of_block (f2.block rg x28.lt (by omega)), b9, (v1.fr fr v3).fr f2 v4, Mp.new_in hmp, hn, hn2, ⟨x3, mx⟩, ⟨Nat.le_refl _, by show RN ≤ 9223372036854775807; omega⟩, hrn, by show cb ≠ rg; omega, y8, fun e => v3 e.symm, by show rg ≠ rb; omega, fun e => v5 e.symm, fun e => v4 e.symm⟩
end Go.Proofs.YtojlappgmckokaaDoor
/- Cart: cartridges side by side. -/
namespace Go.Proofs.YtojlappgmckokaaDoor
open Go.Shelf Go.RowKit
set_option linter.unusedVariables false
set_option linter.unusedSimpArgs false
variable {w w' W : World} {lo hi : Nat} {A : Ad} {C : Ct}
/-- outside of a stretch of blocks -/
def Off (lo hi k : Nat) : Prop := k < lo ∨ hi ≤ k
/-- a cartridge whose blocks lie in a stretch -/
structure Cz (lo hi : Nat) (A : Ad) (C : Ct) (w : World) : Prop where
  ct : CtAt w A C
  ok : C.Ok
  std : C.m.Std
  l1 : lo ≤ A.cb ∧ A.cb < hi
  l2 : lo ≤ A.rg ∧ A.rg < hi
  l3 : lo ≤ A.rb ∧ A.rb < hi
  l4 : C.m.kd = 0 ∨ (lo ≤ A.mb ∧ A.mb < hi)
theorem Cz.up (h : Cz lo hi A C w) (u : Up w w') : Cz lo hi A C w' := ⟨h.ct.up u, h.ok, h.std, h.l1, h.l2, h.l3, h.l4⟩
theorem Cz.keep {K : Nat → Prop} (h : Cz lo hi A C w) (f : FK K w w') (hK : ∀ k, lo ≤ k → k < hi → K k) : Cz lo hi A C w' := by
  obtain ⟨c, ok, sd, l1, l2, l3, l4⟩ := h
  refine ⟨⟨(f.block A.cb (heap_at c.blk) (hK _ l1.1 l1.2)).trans c.blk, c.rom.of_block (f.block A.rg c.rom.lt (hK _ l2.1 l2.2)), c.ram.of_block (f.block A.rb c.ram.lt (hK _ l3.1 l3.2)), ?_, c.inn, c.n1, c.n2, c.nc, c.rc, c.rm, c.d1, c.d2, c.d3, c.d4, c.d5, c.d6⟩, ok, sd, l1, l2, l3, l4⟩
  rcases c.mp with ⟨h1, h2⟩ | ⟨h1, h2, h3⟩
  · exact Or.inl ⟨h1, h2⟩
  · have hk : lo ≤ A.mb ∧ A.mb < hi := l4.resolve_left (by omega)
    exact Or.inr ⟨h1, h2, (f.block A.mb (heap_at h3) (hK _ hk.1 hk.2)).trans h3⟩
theorem Cz.of (h : Bn W A C w) (ok : C.Ok) (sd : C.m.Std) : Cz W.heap.size w.heap.size A C w :=
  ⟨h.ct, ok, sd, ⟨h.l1, heap_at h.ct.blk⟩, ⟨h.l2, h.ct.rom.lt⟩, ⟨h.l3, h.ct.ram.lt⟩, h.ct.mp.lt.imp id (fun q => ⟨h.l4, q⟩)⟩
theorem Cz.read {a : Int} (h : Cz lo hi A C w) : Calls Tryd.prog 17 #[.pointer (some ⟨A.cb, 0, none⟩), .int .i64 a] w fun e w' => e = .returned (.int .u8 (C.rd a)) ∧ Up w w' :=
  Cx.read (W := { w with heap := #[] }) ⟨⟨h.ct, ⟨rfl, rfl, Nat.zero_le _, fun k hk => absurd hk (Nat.not_lt_zero k)⟩, Nat.zero_le _, Nat.zero_le _, Nat.zero_le _, Nat.zero_le _⟩, h.ok⟩
theorem Ct.wr_kd (C : Ct) (a : Int) (x : Nat) : (C.wr a x).m.kd = C.m.kd := by
  unfold Ct.wr
  split
  · exact Mp.set_kd _ _ _
  · split <;> rfl
theorem Ct.wr_std {a : Int} {x : Nat} (h : C.m.Std) (hx : x ≤ 255) : (C.wr a x).m.Std := by
  unfold Ct.wr
  split
  · exact Mp.set_std h hx
  · split
    · exact h
    · exact h
theorem CtAt.writeRomK {a x : Nat} (h : CtAt W A C) (ha : a < 32768) (hx : x ≤ 255) : Calls Tryd.prog 18 #[.pointer (some ⟨A.cb, 0, none⟩), .int .i64 (a : Int), .int .u8 (x : Int)] W fun e w' => e = .returned (.tuple #[]) ∧ CtAt w' A (C.set a x) ∧ FK (fun k => C.m.kd = 0 ∨ k ≠ A.mb) W w' := by
  by_cases hk : C.m.kd = 0
  · have k8 : W.cell? ⟨A.cb, 8, none⟩ = some A.v := heap_cell h.blk rfl
    have hin := Mp.set_in h.inn (a := a) hx
    rcases h.mp with ⟨_, hv⟩ | ⟨hk2, _⟩
    · rw [hv] at k8
      refine writeRom_0 k8 ha (fun w' hp => hp) (set_0.mono fun e w' ⟨h1, h2⟩ => ⟨h1, h1, h.changed (Fr.ofUp h2) hin ?_, FK.ofUp h2⟩)
      exact Or.inl ⟨by rw [Mp.set_kd]; exact hk, hv⟩
    · omega
  · exact (h.writeRom ha hx).mono fun e w' ⟨q1, q2, q3⟩ => ⟨q1, q2, FK.ofFr q3 (fun h => h.elim hk (fun h => h rfl))⟩
theorem Cz.offK (h : Cz lo hi A C w) {k : Nat} (hk : Off lo hi k) : A.K C.m.kd k := by
  have h3 := h.l3
  refine ⟨fun e => ?_, ?_⟩
  · rcases hk with q | q <;> omega
  · rcases h.l4 with q | q
    · exact Or.inl q
    · refine Or.inr (fun e => ?_)
      rcases hk with p | p <;> omega
theorem Cz.write {a : Int} {x : Nat} (h : Cz lo hi A C w) (hx : x ≤ 255) : Calls Tryd.prog 18 #[.pointer (some ⟨A.cb, 0, none⟩), .int .i64 a, .int .u8 (x : Int)] w fun e w' => e = .returned (.tuple #[]) ∧ Cz lo hi A (C.wr a x) w' ∧ FK (Off lo hi) w w' := by
  have fin : ∀ {w' : World}, CtAt w' A (C.wr a x) → Cz lo hi A (C.wr a x) w' := fun c => ⟨c, h.ok.wr hx, Ct.wr_std h.std hx, h.l1, h.l2, h.l3, by rw [Ct.wr_kd]; exact h.l4⟩
  by_cases h0 : 0 ≤ a ∧ a < 32768
  · have e : C.wr a x = C.set a.toNat x := by unfold Ct.wr; rw [if_pos h0]
    obtain ⟨n, rfl⟩ := Int.eq_ofNat_of_zero_le h0.1
    rw [Int.toNat_natCast] at e
    refine (h.ct.writeRomK (by omega) hx).mono fun e' w' ⟨q1, q2, q3⟩ => ⟨q1, fin (by rw [e]; exact q2), q3.mono (fun k _ hk => (h.offK hk).2)⟩
  · by_cases h3 : C.here a
    · have e : C.wr a x = C.put a x := by unfold Ct.wr; rw [if_neg h0, if_pos h3]
      obtain ⟨n, hn⟩ := Int.eq_ofNat_of_zero_le (show 0 ≤ a - 40960 by have := h3.1; omega)
      obtain rfl : a = ((40960 + n : Nat) : Int) := by omega
      refine (h.ct.writeRam h3.2.2.1 (by have := h3.2.1; omega) h3.2.2.2 hx).mono fun e' w' ⟨q1, q2, q3⟩ => ⟨q1, fin (by rw [e]; exact q2), (FK.ofFr q3 (K := A.K C.m.kd) (fun h => h.1 rfl)).mono (fun k _ hk => h.offK hk)⟩
    · have e : C.wr a x = C := by unfold Ct.wr; rw [if_neg h0, if_neg h3]
      obtain ⟨pl, hp⟩ := h.ct.ramOut h3
      exact (write_none (by omega) hp).mono fun e' w' ⟨q1, q2⟩ => ⟨q1, fin (by rw [e]; exact h.ct.up q2), FK.ofUp q2⟩
theorem Cz.state (h : Cz lo hi A C w) : Calls Tryd.prog 22 #[.pointer (some ⟨A.cb, 0, none⟩)] w (Cop w (5 + C.rm) C.st) := h.ct.state h.std
theorem Cz.save (h : Cz lo hi A C w) (hb : C.bat = true) : Calls Tryd.prog 24 #[.pointer (some ⟨A.cb, 0, none⟩)] w (Cop w C.rm C.rf) := h.ct.save hb
theorem Mp.std_of_f {m : Mp} {f : Nat → Int} (hk : m.kd = 0 ∨ m.kd = 1 ∨ m.kd = 2 ∨ m.kd = 3 ∨ m.kd = 5) (h : ∀ k, k < 5 → (loB m.kd k : Int) ≤ f k ∧ f k ≤ (hiB m.kd k : Int)) : (⟨m.kd, (f 0).toNat, (f 1).toNat, (f 2).toNat, (f 3).toNat, (f 4).toNat⟩ : Mp).Std := by
  have q0 := h 0 (by decide)
  have q1 := h 1 (by decide)
  have q2 := h 2 (by decide)
  have q3 := h 3 (by decide)
  have q4 := h 4 (by decide)
  exact ⟨hk, by show loB m.kd 0 ≤ (f 0).toNat ∧ (f 0).toNat ≤ hiB m.kd 0; omega, by show loB m.kd 1 ≤ (f 1).toNat ∧ (f 1).toNat ≤ hiB m.kd 1; omega, by show loB m.kd 2 ≤ (f 2).toNat ∧ (f 2).toNat ≤ hiB m.kd 2; omega, by show loB m.kd 3 ≤ (f 3).toNat ∧ (f 3).toNat ≤ hiB m.kd 3; omega, by show loB m.kd 4 ≤ (f 4).toNat ∧ (f 4).toNat ≤ hiB m.kd 4; omega⟩
theorem Cz.loadOk {n c ab ao : Nat} {aa : Option Addr} {f : Nat → Int} (h : Cz lo hi A C w) (hL : Byts w aa ab ao n c f) (hn : n = 5 + C.rm) (hn1 : 1 ≤ C.rm) (hfit : ∀ k, k < C.rm → f (5 + k) ≤ (C.m.kp : Int)) (hreg : ∀ k, k < 5 → (loB C.m.kd k : Int) ≤ f k ∧ f k ≤ (hiB C.m.kd k : Int)) (d : Off lo hi ab) : Calls Tryd.prog 20 #[.pointer (some ⟨A.cb, 0, none⟩), .slice aa n c] w fun e w' => e = .returned (.int .i64 0) ∧ Cz lo hi A (C.loaded f) w' ∧ FK (Off lo hi) w w' := by
  refine (h.ct.loadOk hL hn hn1 hfit hreg h.std.kd (h.offK d)).mono fun e w' ⟨q1, q2, q3⟩ => ⟨q1, ⟨q2, ?_, Mp.std_of_f h.std.kd hreg, h.l1, h.l2, h.l3, h.l4⟩, q3.mono (fun k _ hk => h.offK hk)⟩
  intro k
  show 0 ≤ (if k < C.rm then f (5 + k) else 0) ∧ (if k < C.rm then f (5 + k) else 0) ≤ (C.m.kp : Int)
  split
  · rename_i hk
    exact ⟨(hL.u8 _).1, hfit k hk⟩
  · exact ⟨Int.le_refl 0, Int.natCast_nonneg _⟩
/-- what a state tells, loaded again -/
theorem Ct.st_reg {C D : Ct} (h : C.m.Std) (e : D.m.kd = C.m.kd) : ∀ k, k < 5 → (loB D.m.kd k : Int) ≤ C.st k ∧ C.st k ≤ (hiB D.m.kd k : Int) := by
  intro k hk
  have := h.at' k hk
  unfold Ct.st catF
  rw [if_pos hk, e]
  show _ ≤ ((C.m.rg k : Nat) : Int) ∧ ((C.m.rg k : Nat) : Int) ≤ _
  omega
theorem Ct.st_ram (C : Ct) (k : Nat) : C.st (5 + k) = C.rf k := by
  unfold Ct.st catF
  rw [if_neg (by omega)]
  congr 1
  omega
theorem Ct.loaded_m {C D : Ct} (e : D.m.kd = C.m.kd) : (D.loaded C.st).m = C.m := by
  obtain ⟨hd, ty, mpr, bk, rm, bat, n, f, rf, ⟨kd, on, low, high, pick, mode⟩⟩ := C
  have e : D.m.kd = kd := e
  show (⟨D.m.kd, _, _, _, _, _⟩ : Mp) = _
  rw [e]
  rfl
/-- alike: what is read is the same -/
structure Alike (C D : Ct) : Prop where
  n : C.n = D.n
  f : C.f = D.f
  rm : C.rm = D.rm
  m : C.m = D.m
  rf : ∀ k, k < C.rm → C.rf k = D.rf k
theorem Alike.rd {C D : Ct} (h : Alike C D) (a : Int) : C.rd a = D.rd a := by
  unfold Ct.rd
  rw [h.m, h.n, h.f]
  have e : C.here a ↔ D.here a := by unfold Ct.here; rw [h.rm, h.m]
  by_cases hh : C.here a
  · rw [if_pos hh, if_pos (e.1 hh)]
    have hp : C.at' a = D.at' a := by unfold Ct.at' Ct.pl; rw [h.m, h.rm]
    rw [← hp, h.rf (C.at' a) (Ct.pl_lt hh.2.2.1)]
  · rw [if_neg hh, if_neg (fun q => hh (e.2 q))]
theorem Alike.symm {C D : Ct} (h : Alike C D) : Alike D C := ⟨h.n.symm, h.f.symm, h.rm.symm, h.m.symm, fun k hk => (h.rf k (by rw [h.rm]; exact hk)).symm⟩
theorem Alike.st {C D : Ct} (h : Alike C D) (k : Nat) (hk : k < 5 + C.rm) : C.st k = D.st k := by
  unfold Ct.st catF
  rw [h.m]
  split
  · rfl
  · exact h.rf _ (by omega)
end Go.Proofs.YtojlappgmckokaaDoor
/- Cart: a header is strict. -/
namespace Go.Proofs.YtojlappgmckokaaDoor
open Go.Shelf Go.RowKit
set_option linter.unusedVariables false
set_option linter.unusedSimpArgs false
variable {w w' W : World} {g n : Nat} {f : Nat → Int}
/-- a ROM that is a box's in its header -/
def Hd (f F : Nat → Int) : Prop := ∀ k, 260 ≤ k → k < 334 → f k = F k
theorem Hd.refl (f : Nat → Int) : Hd f f := fun _ _ _ => rfl
theorem Hd.put {f F : Nat → Int} {k : Nat} {x : Int} (h : Hd f F) (hk : k < 260 ∨ 334 ≤ k) : Hd (putF f k 1 (fun _ => x)) F := fun j h1 h2 => by
  rw [putF_out _ _ (by omega)]
  exact h j h1 h2
theorem Hd.fault {f F : Nat → Int} {mk b : Bool} {R : Rw} (h : Hd f F) : faultI mk f R b n = faultI mk F R b n := by
  unfold faultI
  rw [sig_congr (f := f) (f' := F) (fun j hj => h _ (by omega) (by omega)), h 333 (by omega) (by omega), h 323 (by omega) (by omega), h 328 (by omega) (by omega), h 329 (by omega) (by omega)]
theorem Hd.mark {f F : Nat → Int} {mk : Bool} (h : Hd f F) (hm : MarkIs f mk) : MarkIs F mk := by
  rcases hm with ⟨h1, h2⟩ | ⟨h1, i, hi, h2⟩
  · exact Or.inl ⟨h1, fun i hi => (h _ (by omega) (by omega)).symm.trans (h2 i hi)⟩
  · exact Or.inr ⟨h1, i, hi, fun e => h2 ((h _ (by omega) (by omega)).trans e)⟩
theorem sig_put {f : Nat → Int} {j : Nat} {x : Int} (m : Nat) : sig (putF f (308 + j) 1 (fun _ => x)) m = sig f m + (if j < m then x - f (308 + j) else 0) := by
  induction m with
  | zero => rw [if_neg (by omega)]; rfl
  | succ m ih =>
    show sig _ m + putF f (308 + j) 1 (fun _ => x) (308 + m) = sig f m + f (308 + m) + _
    rw [ih]
    by_cases e : m = j
    · subst e
      rw [putF_in _ _ (by omega) (by omega), if_neg (by omega), if_pos (by omega)]
      omega
    · rw [putF_out _ _ (by omega)]
      by_cases e2 : j < m
      · rw [if_pos e2, if_pos (by omega)]; omega
      · rw [if_neg e2, if_neg (by omega)]; omega
/-- a byte of the mark turned -/
theorem turn_mark {ty rc rm sd x : Int} {k : Nat} {mk b : Bool} {R : Rw} (h1 : 260 ≤ k) (h2 : k < 308) (hx : x ≠ romF ty rc rm sd k) (hm : MarkIs (putF (romF ty rc rm sd) k 1 (fun _ => x)) mk) : faultI mk (putF (romF ty rc rm sd) k 1 (fun _ => x)) R b n = 42 := by
  rcases hm with ⟨_, h⟩ | ⟨rfl, _⟩
  · have := h (k - 260) (by omega)
    rw [show 260 + (k - 260) = k by omega, putF_in _ _ (by omega) (by omega)] at this
    refine absurd ?_ hx
    rw [this, ← rom_mark (ty := ty) (rc := rc) (rm := rm) (sd := sd) (i := k - 260) (by omega), show 260 + (k - 260) = k by omega]
  · unfold faultI
    rw [if_pos rfl]
/-- a byte behind it turned -/
theorem turn_sum {ty rc rm sd x : Int} {k : Nat} {mk b : Bool} {R : Rw} (h1 : 308 ≤ k) (h2 : k < 334) (hx : x ≠ romF ty rc rm sd k) (x0 : 0 ≤ x) (x1 : x ≤ 255) (hm : MarkIs (putF (romF ty rc rm sd) k 1 (fun _ => x)) mk) : faultI mk (putF (romF ty rc rm sd) k 1 (fun _ => x)) R b n = 43 := by
  obtain rfl : mk = true := by
    rcases hm with ⟨h, _⟩ | ⟨_, i, hi, hne⟩
    · exact h
    · rw [putF_out _ _ (by omega)] at hne
      exact absurd (rom_mark hi) hne
  obtain ⟨j, rfl⟩ : ∃ j, k = 308 + j := ⟨k - 308, by omega⟩
  have hs := sig_put (f := romF ty rc rm sd) (j := j) (x := x) 25
  have hb := romF_byte ty rc rm sd (308 + j)
  have e33 := rom_sum ty rc rm sd
  unfold faultI
  rw [if_neg (by decide), if_pos]
  rw [hs]
  by_cases e : j = 25
  · subst e
    rw [if_neg (by omega), putF_in _ _ (by omega) (by omega), Int.add_zero, ← e33]
    exact hx
  · rw [if_pos (by omega), putF_out _ _ (by omega), e33]
    generalize sig (romF ty rc rm sd) 25 = S at *
    generalize romF ty rc rm sd (308 + j) = y at *
    omega
theorem title_two {ty rc rm sd : Int} {m : Nat} {f : Nat → Int} (h : Hd f (romF ty rc rm sd)) (ht : TitleIs f m) : m = 2 := by
  obtain ⟨h1, h2, h3⟩ := ht
  have p1 := pickI_lo sd 26 (by decide)
  have e8 : f 308 = 65 + pickI sd 26 := by
    rw [h 308 (by omega) (by omega), rom_base (by omega)]
    unfold baseF
    rw [putF_out _ _ (by omega), putF_out _ _ (by omega), putF_out _ _ (by omega), putF_out _ _ (by omega), putF_out _ _ (by omega), putF_in _ _ (by omega) (by omega)]
  have e9 : f 309 = 98 := by
    rw [h 309 (by omega) (by omega), rom_base (by omega)]
    unfold baseF
    rw [putF_out _ _ (by omega), putF_out _ _ (by omega), putF_out _ _ (by omega), putF_out _ _ (by omega), putF_in _ _ (by omega) (by omega)]
  have e10 : f 310 = 0 := by
    rw [h 310 (by omega) (by omega), rom_base (by omega)]
    unfold baseF
    rw [putF_out _ _ (by omega), putF_out _ _ (by omega), putF_out _ _ (by omega), putF_out _ _ (by omega), putF_out _ _ (by omega), putF_out _ _ (by omega), putF_in _ _ (by omega) (by omega)]
  rcases Nat.lt_trichotomy m 2 with hlt | rfl | hgt
  · have : m = 0 ∨ m = 1 := by omega
    have h4 := h3 (by omega)
    rcases this with rfl | rfl
    · rw [show 308 + 0 = 308 from rfl, e8] at h4; omega
    · rw [show 308 + 1 = 309 from rfl, e9] at h4; omega
  · rfl
  · exact absurd e10 (h2 2 (by omega))
/-- the ten types, with the code of their RAM -/
theorem ten_rows : ∀ j : Fin 10, ∃ ty rm : Nat, ∃ R ∈ rowsT, typesV[j.val]? = some (ty : Int) ∧ (rm = 0 ∧ ty ≠ 9 ∧ ty ≠ 3 ∧ ty ≠ 19 ∧ ty ≠ 27 ∨ rm = 2 ∧ (ty = 9 ∨ ty = 3 ∨ ty = 19 ∨ ty = 27)) ∧ R.kind = ty ∧ ty ≤ 255 ∧ 2 ≤ R.banks ∧ R.lo ≤ rm ∧ rm ≤ R.hi := by
  intro j
  match j with
  | ⟨0, _⟩ => exact ⟨0, 0, ⟨0, 0, 2, 0, 0, false⟩, by simp [rowsT], rfl, by decide, rfl, by decide, by decide, by decide, by decide⟩
  | ⟨1, _⟩ => exact ⟨1, 0, ⟨1, 1, 128, 0, 0, false⟩, by simp [rowsT], rfl, by decide, rfl, by decide, by decide, by decide, by decide⟩
  | ⟨2, _⟩ => exact ⟨5, 0, ⟨5, 2, 16, 0, 0, false⟩, by simp [rowsT], rfl, by decide, rfl, by decide, by decide, by decide, by decide⟩
  | ⟨3, _⟩ => exact ⟨17, 0, ⟨17, 3, 128, 0, 0, false⟩, by simp [rowsT], rfl, by decide, rfl, by decide, by decide, by decide, by decide⟩
  | ⟨4, _⟩ => exact ⟨25, 0, ⟨25, 5, 128, 0, 0, false⟩, by simp [rowsT], rfl, by decide, rfl, by decide, by decide, by decide, by decide⟩
  | ⟨5, _⟩ => exact ⟨9, 2, ⟨9, 0, 2, 2, 2, true⟩, by simp [rowsT], rfl, by decide, rfl, by decide, by decide, by decide, by decide⟩
  | ⟨6, _⟩ => exact ⟨3, 2, ⟨3, 1, 128, 2, 3, true⟩, by simp [rowsT], rfl, by decide, rfl, by decide, by decide, by decide, by decide⟩
  | ⟨7, _⟩ => exact ⟨6, 0, ⟨6, 2, 16, 0, 0, true⟩, by simp [rowsT], rfl, by decide, rfl, by decide, by decide, by decide, by decide⟩
  | ⟨8, _⟩ => exact ⟨19, 2, ⟨19, 3, 128, 2, 3, true⟩, by simp [rowsT], rfl, by decide, rfl, by decide, by decide, by decide, by decide⟩
  | ⟨9, _⟩ => exact ⟨27, 2, ⟨27, 5, 128, 2, 5, true⟩, by simp [rowsT], rfl, by decide, rfl, by decide, by decide, by decide, by decide⟩
/-- Check and New where the header is a box's -/
structure Box0 (ty rm : Nat) (R0 : Rw) : Prop where
  mem : R0 ∈ rowsT
  kind : R0.kind = ty
  t8 : ty ≤ 255
  banks : 2 ≤ R0.banks
  lo : R0.lo ≤ rm
  hi : rm ≤ R0.hi
  r8 : rm ≤ 255
theorem hd_none {ty rm : Nat} {sd : Int} {R0 R : Rw} {b mk : Bool} (hB : Box0 ty rm R0) (h : Hd f (romF ty 0 rm sd)) (hr : RowIs (f 327).toNat R b) (hm : MarkIs f mk) : R = R0 ∧ faultI mk f R b 32768 = 0 ∧ (f 328).toNat = 0 ∧ (f 329).toNat = rm := by
  rw [h 327 (by omega) (by omega)] at hr
  rw [h.fault, h 328 (by omega) (by omega), h 329 (by omega) (by omega)]
  exact fault_none (rc := 0) hB.mem hB.kind hB.t8 (by decide) hB.r8 (by simpa using hB.banks) (by decide) hB.lo hB.hi hr (h.mark hm)
def HeadAns (W : World) (ty : Nat) (R0 : Rw) (e : Ending) (w' : World) : Prop := ∃ T rn, e = .returned (.tuple #[.agg #[.string T, .int .i64 (ty : Int), .int .i64 (R0.mapper : Int), .int .i64 2, .int .i64 rn, .bool R0.bat], .int .i64 0]) ∧ T.size = 2 ∧ Up W w'
theorem check_hd {N : Nat} (hN : N = 32768) {ty rm : Nat} {sd : Int} {R0 : Rw} (hT : Tb W) (hB : Box0 ty rm R0) (hW : By W g N f) (h8 : ∀ k, 0 ≤ f k ∧ f k ≤ 255) (h : Hd f (romF ty 0 rm sd)) : Calls Tryd.prog 13 #[.slice (some ⟨g, 0, none⟩) N N] W (HeadAns W ty R0) := by
  subst hN
  refine (check_any hT hW (by decide) (by decide) (Nat.le_refl _) (by decide) h8).mono ?_
  rintro e w' ⟨R, b, mk, hr, hm, u, hcs⟩
  obtain ⟨rfl, hf, e8, e9⟩ := hd_none hB h hr hm
  rcases hcs with ⟨h1, _⟩ | ⟨_, m, ht, he⟩
  · exact absurd hf h1
  · obtain rfl := title_two h ht
    rw [e8, e9] at he
    refine ⟨strF f 308 2, (ramN R rm : Nat), he.trans ?_, strF_size _ _ _, u⟩
    unfold headC
    rw [hB.kind]
    rfl
theorem new_hd {N : Nat} (hN : N = 32768) {ty rm : Nat} {sd : Int} {R0 : Rw} (hT : Tb W) (hB : Box0 ty rm R0) (hW : By W g N f) (h8 : ∀ k, 0 ≤ f k ∧ f k ≤ 255) (h : Hd f (romF ty 0 rm sd)) : Calls Tryd.prog 15 #[.slice (some ⟨g, 0, none⟩) N N, .slice none 0 0] W fun e w' => ∃ A, e = .returned (.tuple #[.pointer (some ⟨A.cb, 0, none⟩), .int .i64 0]) ∧ Seen W A f N 1 w' := by
  subst hN
  refine (new_any hT hW (by decide) (by decide) (Nat.le_refl _) (by decide) h8).mono ?_
  rintro e w' ⟨R, b, mk, hr, hm, u, hcs⟩
  obtain ⟨rfl, hf, e8, e9⟩ := hd_none hB h hr hm
  rcases hcs with ⟨h1, _⟩ | ⟨_, m, A, ht, hc, a1, a2, a3, a4, he⟩
  · exact absurd hf h1
  · rw [e8, e9] at hc
    refine ⟨A, he, ⟨_, ⟨hc, u, a1, a2, a3, a4⟩, rfl, rfl, ?_, ?_⟩, by decide⟩
    · exact lower_zero (by rfl)
    · have key : ∀ i : Fin 14, (Mp.new (rowsT[i.val]'(i.isLt)).mapper).upper = 1 := by decide +kernel
      obtain ⟨i, hi, rfl⟩ := List.mem_iff_getElem.1 hB.mem
      exact key ⟨i, hi⟩
/-- both refuse -/
def faultK (k : Nat) : Int := if k < 308 then 42 else 43
theorem turn_any {ty rm : Nat} {sd x : Int} {k : Nat} {mk b : Bool} {R : Rw} (h1 : 260 ≤ k) (h2 : k < 334) (hx : x ≠ romF ty 0 rm sd k) (x0 : 0 ≤ x) (x1 : x ≤ 255) (hm : MarkIs (putF (romF ty 0 rm sd) k 1 (fun _ => x)) mk) : faultI mk (putF (romF ty 0 rm sd) k 1 (fun _ => x)) R b 32768 = faultK k := by
  unfold faultK
  by_cases e : k < 308
  · rw [if_pos e]; exact turn_mark h1 e hx hm
  · rw [if_neg e]; exact turn_sum (by omega) h2 hx x0 x1 hm
theorem faultK_ne (k : Nat) : faultK k ≠ 0 := by unfold faultK; split <;> decide
theorem check_turn {N : Nat} (hN : N = 32768) {ty rm : Nat} {sd x : Int} {k : Nat} (hT : Tb W) (hf : f = putF (romF ty 0 rm sd) k 1 (fun _ => x)) (hW : By W g N f) (h1 : 260 ≤ k) (h2 : k < 334) (hx : x ≠ romF ty 0 rm sd k) (x0 : 0 ≤ x) (x1 : x ≤ 255) : Calls Tryd.prog 13 #[.slice (some ⟨g, 0, none⟩) N N] W fun e w' => e = .returned (.tuple #[.agg zHead, .int .i64 (faultK k)]) ∧ Up W w' := by
  subst hN
  subst hf
  refine (check_any hT hW (by decide) (by decide) (Nat.le_refl _) (by decide) (putF_byte (romF_byte _ _ _ _) (fun _ => ⟨x0, x1⟩))).mono ?_
  rintro e w' ⟨R, b, mk, hr, hm, u, hcs⟩
  rw [turn_any h1 h2 hx x0 x1 hm] at hcs
  rcases hcs with ⟨_, he⟩ | ⟨h0, _⟩
  · exact ⟨he, u⟩
  · exact absurd h0 (faultK_ne k)
theorem new_turn {N : Nat} (hN : N = 32768) {ty rm : Nat} {sd x : Int} {k : Nat} (hT : Tb W) (hf : f = putF (romF ty 0 rm sd) k 1 (fun _ => x)) (hW : By W g N f) (h1 : 260 ≤ k) (h2 : k < 334) (hx : x ≠ romF ty 0 rm sd k) (x0 : 0 ≤ x) (x1 : x ≤ 255) : Calls Tryd.prog 15 #[.slice (some ⟨g, 0, none⟩) N N, .slice none 0 0] W fun e w' => e = .returned (.tuple #[.pointer none, .int .i64 (faultK k)]) ∧ Up W w' := by
  subst hN
  subst hf
  refine (new_any hT hW (by decide) (by decide) (Nat.le_refl _) (by decide) (putF_byte (romF_byte _ _ _ _) (fun _ => ⟨x0, x1⟩))).mono ?_
  rintro e w' ⟨R, b, mk, hr, hm, u, hcs⟩
  rw [turn_any h1 h2 hx x0 x1 hm] at hcs
  rcases hcs with ⟨_, he⟩ | ⟨h0, _⟩
  · exact ⟨he, u⟩
  · exact absurd h0 (faultK_ne k)
set_option maxRecDepth 100000 in
theorem sameHead_no {T : ByteArray} {a b c d : Int} {e : Bool} (h : T.size = 2) (w : World) : Calls Tryd.prog 16 #[.agg zHead, .agg #[.string T, .int .i64 a, .int .i64 b, .int .i64 c, .int .i64 d, .bool e]] w fun e w' => e = .returned (.bool false) ∧ Up w w' := by
  have hne3 : ¬ (T.toList = []) := fun q => by
    have h2 := decide_eq_emptyBytes T
    rw [q] at h2
    have h3 : T = ByteArray.empty := of_decide_eq_true h2
    rw [h3] at h
    exact absurd h (by decide)
  unfold zHead
  clear h
  go_enter Tryd.func16, Tryd.ntmps16
  go_wp2_with fail
  go_ret
  exact ⟨rfl, by first | exact Up.refl _ | exact Up.drewN _ _ | exact ((Up.refl _).alloc _).alloc _⟩
section
variable {P : Program} {w : World} {ops : Array Oper} {rest : List Oper} {o : Oper} {a : Act} {Q : Exit → Act → World → Prop}
theorem wpList_on (hw : Region.wanted o (yielded ops a.tmps) = true) (h : o.wp P a w (wpList P ops Q rest) Q) : wpList P ops Q (o :: rest) a w := by
  unfold wpList
  rw [if_pos hw]
  exact Or.inl h
end
/-- a cartridge that shows its bank 0 -/
def Sn (A : Ad) (F : Nat → Int) (c : Nat) (w : World) : Prop := ∃ C, CtAt w A C ∧ C.f = F ∧ 16384 ≤ C.n ∧ C.m.lower = 0 ∧ A.cb ≠ c ∧ A.rg ≠ c ∧ A.rb ≠ c ∧ A.mb ≠ c
theorem Seen.sn {A : Ad} {F : Nat → Int} {N k c : Nat} (h : Seen W A F N k w) (hc : c < W.heap.size) : Sn A F c w := by
  obtain ⟨C, h1, h2, h3, h4, h5⟩ := h.at'
  have := h.nk
  have a1 := h1.l1
  have a2 := h1.l2
  have a3 := h1.l3
  have a4 := h1.l4
  exact ⟨C, h1.ct, h2, by rw [h3]; omega, h4, by omega, by omega, by omega, by omega⟩
theorem Sn.up {A : Ad} {F : Nat → Int} {c : Nat} (h : Sn A F c w) (u : Up w w') : Sn A F c w' := by
  obtain ⟨C, h1, h2⟩ := h
  exact ⟨C, h1.up u, h2⟩
theorem By.fr {c : Nat} (h : By w g n f) (u : Fr c w w') (hc : g ≠ c) : By w' g n f := h.of_block (u.block g h.lt hc)
theorem Sn.fr {A : Ad} {F : Nat → Int} {c : Nat} (h : Sn A F c w) (u : Fr c w w') : Sn A F c w' := by
  obtain ⟨C, h, h2, h3, h4, a1, a2, a3, a4⟩ := h
  exact ⟨C, ⟨(u.block A.cb (heap_at h.blk) a1).trans h.blk, h.rom.fr u a2, h.ram.fr u a3, h.mp.fr u a4, h.inn, h.n1, h.n2, h.nc, h.rc, h.rm, h.d1, h.d2, h.d3, h.d4, h.d5, h.d6⟩, h2, h3, h4, a1, a2, a3, a4⟩
theorem Sn.low {A : Ad} {F : Nat → Int} {c : Nat} (h : Sn A F c w) : Calls Tryd.prog 17 #[.pointer (some ⟨A.cb, 0, none⟩), .int .i64 512] w fun e w' => e = .returned (.int .u8 (F 512)) ∧ Up w w' := by
  obtain ⟨C, h1, h2, h3, h4, _⟩ := h
  refine (h1.readLow (a := 512) (by decide)).mono fun e w' ⟨q1, q2⟩ => ⟨?_, q2⟩
  rw [q1, h2, h4, Nat.zero_mul, Nat.zero_add, Nat.mod_eq_of_lt (by omega)]
/-- a byte turned, and turned back -/
theorem xor_turn {x V : Nat} (hx : x ≤ 255) (h1 : 1 ≤ V) (h2 : V ≤ 255) : ∃ y : Nat, bits .xor .u8 (x : Int) (V : Int) = (y : Int) ∧ y ≤ 255 ∧ y ≠ x ∧ bits .xor .u8 (y : Int) (V : Int) = (x : Int) := by
  have hy : x ^^^ V < 256 := Nat.xor_lt_two_pow (n := 8) (by omega) (by omega)
  refine ⟨x ^^^ V, u8_xor_nat x V (by omega) (by omega), by omega, fun e => ?_, ?_⟩
  · have h3 : x ^^^ (x ^^^ V) = x ^^^ x := by rw [e]
    rw [← Nat.xor_assoc, Nat.xor_self, Nat.zero_xor] at h3
    omega
  · rw [u8_xor_nat _ V hy (by omega), Nat.xor_assoc, Nat.xor_self, Nat.xor_zero]
end Go.Proofs.YtojlappgmckokaaDoor
