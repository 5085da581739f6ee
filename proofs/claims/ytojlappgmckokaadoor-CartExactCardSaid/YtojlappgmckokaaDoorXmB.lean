import Derived.Test.YtojlappgmckokaaDoorXmA
/- Cart: lists compared; a cartridge on its way beside its ROM. -/
namespace Go.Proofs.YtojlappgmckokaaDoor
open Go.Shelf Go.RowKit
set_option linter.unusedVariables false
set_option linter.unusedSimpArgs false
variable {w w' W : World} {lo hi g N n : Nat} {F f : Nat → Int} {A : Ad} {C D : Ct}
set_option maxRecDepth 100000 in
set_option maxHeartbeats 1000000 in
/-- two lists that read the same -/
theorem same_yes {a1 a2 : Option Addr} {b1 o1 c1 b2 o2 c2 : Nat} {f1 f2 : Nat → Int} (h1 : Byts W a1 b1 o1 n c1 f1) (h2 : Byts W a2 b2 o2 n c2 f2) (he : ∀ k, k < n → f1 k = f2 k) : Calls Tryd.prog 21 #[.slice a1 n c1, .slice a2 n c2] W fun e w' => e = .returned (.bool true) ∧ Up W w' := by
  have q1 : c1 ≤ 9223372036854775807 := by have := h1.cm; unfold maxLen at this; omega
  have q2 : c2 ≤ 9223372036854775807 := by have := h2.cm; unfold maxLen at this; omega
  have l1 := h1.lc
  have l2 := h2.lc
  have hnn : ((n : Int) == (n : Int)) = true := by simp
  have H1 : Hid (0 < n → a1 = some ⟨b1, o1, none⟩) := h1.ad
  have H2 : Hid (0 < n → a2 = some ⟨b2, o2, none⟩) := h2.ad
  have H3 : Hid (∀ w, Up W w → ∀ k, k < n → w.cell? ⟨b1, o1 + k, none⟩ = some (.int .u8 (f1 k)) ∧ w.cell? ⟨b2, o2 + k, none⟩ = some (.int .u8 (f1 k))) := fun w u k hk => ⟨(h1.upB u).cell k hk, by rw [he k hk]; exact (h2.upB u).cell k hk⟩
  have HU : Hid (Up W W) := Up.refl W
  clear h1 h2 he
  go_enter Tryd.func21, Tryd.ntmps21
  go_wp2_with fail
  go_loopw [5] (fun I wr => ∃ i : Nat, i ≤ n ∧ I = .int .i64 i ∧ Hid (Up W wr)) (fun I _ => n - (intOf I).toNat)
  case atStart => exact ⟨0, by omega, rfl, HU⟩
  case round =>
    clear HU
    obtain ⟨i, hi, rfl, HU⟩ := hrel
    by_cases hlt : i < n
    · have e1 : (i : Int) < (n : Int) := by omega
      obtain rfl := H1.out (by omega)
      obtain rfl := H2.out (by omega)
      have k1 := (H3.out _ HU.out i hlt).1
      have k2 := (H3.out _ HU.out i hlt).2
      clear H1 H2 H3
      go_wp2_with fail
      go_quiet (fail)
      have HV : Hid (Up W (wr.drewN nq)) := HU.out.trans (Up.drewN wr nq)
      clear HU
      go_wp2_with fail
      refine ⟨⟨i + 1, by omega, by first | rfl | (simp; done), HV⟩, ?_⟩
      simp [intOf]
      try omega
    · have e1 : ¬ (i : Int) < (n : Int) := by omega
      clear H1 H2 H3
      go_wp2_with fail
      go_ret
      exact ⟨by first | rfl | (simp; done), HU.out⟩
/-- what every cartridge of one ROM has in common -/
structure Ct.Base (C : Ct) (kd rn N : Nat) (F : Nat → Int) : Prop where
  kd : C.m.kd = kd
  rm : C.rm = rn
  bat : C.bat = true
  n : C.n = N
  f : C.f = F
theorem Ct.Base.wr {kd rn : Nat} (h : C.Base kd rn N F) (a : Int) (x : Nat) : (C.wr a x).Base kd rn N F := by
  refine ⟨by rw [Ct.wr_kd]; exact h.kd, ?_, ?_, ?_, ?_⟩ <;> unfold Ct.wr <;> split
  · exact h.rm
  · split <;> exact h.rm
  · exact h.bat
  · split <;> exact h.bat
  · exact h.n
  · split <;> exact h.n
  · exact h.f
  · split <;> exact h.f
theorem Ct.Base.loaded {kd rn : Nat} (h : C.Base kd rn N F) (f : Nat → Int) : (C.loaded f).Base kd rn N F := ⟨h.kd, h.rm, h.bat, h.n, h.f⟩
theorem up_off (u : Up W w) (f : FK (Off lo hi) w w') (h : W.heap.size ≤ lo) : Up W w' :=
  ⟨f.os.trans u.os, f.output.trans u.output, Nat.le_trans u.size f.size, fun k hk => (f.block k (Nat.lt_of_lt_of_le hk u.size) (Or.inl (by omega))).trans (u.block k hk)⟩
/-- a cartridge beside its ROM -/
structure X1 (W : World) (g N : Nat) (F : Nat → Int) (lo hi : Nat) (A : Ad) (C : Ct) (w : World) : Prop where
  cz : Cz lo hi A C w
  by' : By w g N F
  gl : g < lo
  up : Up W w
  wl : W.heap.size ≤ lo
  hw : hi ≤ w.heap.size
theorem X1.more (h : X1 W g N F lo hi A C w) (u : Up w w') : X1 W g N F lo hi A C w' := ⟨h.cz.up u, h.by'.up u, h.gl, h.up.trans u, h.wl, Nat.le_trans h.hw u.size⟩
theorem X1.write {a : Int} {x : Nat} (h : X1 W g N F lo hi A C w) (hx : x ≤ 255) : Calls Tryd.prog 18 #[.pointer (some ⟨A.cb, 0, none⟩), .int .i64 a, .int .u8 (x : Int)] w fun e w' => e = .returned (.tuple #[]) ∧ X1 W g N F lo hi A (C.wr a x) w' :=
  (h.cz.write hx).mono fun e w' ⟨q1, q2, q3⟩ => ⟨q1, q2, h.by'.of_block (q3.block g h.by'.lt (Or.inl h.gl)), h.gl, up_off h.up q3 h.wl, h.wl, Nat.le_trans h.hw q3.size⟩
theorem X1.writeI {a xI : Int} (x : Nat) (h : X1 W g N F lo hi A C w) (ex : xI = (x : Int)) (hx : x ≤ 255) : Calls Tryd.prog 18 #[.pointer (some ⟨A.cb, 0, none⟩), .int .i64 a, .int .u8 xI] w fun e w' => e = .returned (.tuple #[]) ∧ X1 W g N F lo hi A (C.wr a x) w' := by
  subst ex
  exact h.write hx
/-- RAM that is opened: what is written to its first bank is there -/
theorem opened {m : Mp} (h : m.Std) : ((m.set 0 10).set 16384 0).seen = true ∧ ((m.set 0 10).set 16384 0).bank = 0 := by
  obtain ⟨kd, on, low, high, pick, mode⟩ := m
  have hk : kd = 0 ∨ kd = 1 ∨ kd = 2 ∨ kd = 3 ∨ kd = 5 := h.kd
  rcases hk with rfl | rfl | rfl | rfl | rfl
  · exact ⟨rfl, rfl⟩
  · refine ⟨rfl, ?_⟩
    show (if mode = 0 then 0 else 0 % 4) = 0
    split <;> rfl
  · exact ⟨rfl, rfl⟩
  · exact ⟨rfl, rfl⟩
  · exact ⟨rfl, rfl⟩
theorem last_byte {kd rn pa : Nat} (hB : C.Base kd rn N F) (hs : C.m.Std) (hp : pa < 512) (hr : 512 ≤ rn) : (((C.wr 0 10).wr 16384 0).wr (40960 + (pa : Int)) 5).rf pa = 5 := by
  have e1 : C.wr 0 10 = C.set 0 10 := by unfold Ct.wr; rw [if_pos (by decide)]; rfl
  have e2 : (C.set 0 10).wr 16384 0 = (C.set 0 10).set 16384 0 := by unfold Ct.wr; rw [if_pos (by decide)]; rfl
  have ho := opened hs
  have hm : ((C.set 0 10).set 16384 0).m = (C.m.set 0 10).set 16384 0 := rfl
  have hrm : ((C.set 0 10).set 16384 0).rm = rn := hB.rm
  have hh : ((C.set 0 10).set 16384 0).here (40960 + (pa : Int)) := ⟨by omega, by omega, by rw [hrm]; omega, by rw [hm]; exact ho.1⟩
  rw [e1, e2]
  have e3 : ((C.set 0 10).set 16384 0).wr (40960 + (pa : Int)) 5 = ((C.set 0 10).set 16384 0).put (40960 + (pa : Int)) 5 := by
    unfold Ct.wr
    rw [if_neg (by omega), if_pos hh]
  rw [e3]
  unfold Ct.put Ct.at' Ct.pl
  dsimp only
  rw [hm, ho.2, hrm, Nat.zero_mul, Nat.zero_add, show (40960 + (pa : Int) - 40960).toNat = pa by omega, Nat.mod_eq_of_lt (by omega)]
  unfold putF
  rw [if_pos ⟨Nat.le_refl _, Nat.lt_succ_self _⟩]
  unfold Mp.keeps
  split <;> rfl
/-- what is loaded from a state is alike -/
theorem alike_loaded {kd rn : Nat} (h : C.Base kd rn N F) (h2 : D.Base kd rn N F) : Alike C (D.loaded C.st) :=
  ⟨by rw [h.n]; exact h2.n.symm, by rw [h.f]; exact h2.f.symm, by rw [h.rm]; exact h2.rm.symm, (Ct.loaded_m (by rw [h2.kd, h.kd])).symm, fun k hk => by
    show _ = (if k < D.rm then C.st (5 + k) else 0)
    rw [if_pos (by rw [h2.rm, ← h.rm]; exact hk), Ct.st_ram]⟩
theorem Alike.trans {C D E : Ct} (h : Alike C D) (k : Alike D E) : Alike C E := ⟨h.n.trans k.n, h.f.trans k.f, h.rm.trans k.rm, h.m.trans k.m, fun j hj => (h.rf j hj).trans (k.rf j (by rw [← h.rm]; exact hj))⟩
theorem Ct.st_u8 (ho : C.Ok) (hs : C.m.Std) (k : Nat) : 0 ≤ C.st k ∧ C.st k ≤ 255 := by
  have hk := C.m.kp_le
  unfold Ct.st catF
  split
  · rename_i h
    have hb := hs.at' k h
    have : hiB C.m.kd k ≤ 255 := by
      have key : ∀ a : Fin 6, ∀ b : Fin 5, hiB a.val b.val ≤ 255 := by decide
      have hkd := hs.kd
      exact key ⟨C.m.kd, by omega⟩ ⟨k, h⟩
    show 0 ≤ ((C.m.rg k : Nat) : Int) ∧ ((C.m.rg k : Nat) : Int) ≤ 255
    omega
  · have := ho (k - 5)
    omega
theorem Ct.Ok.u8 (ho : C.Ok) (k : Nat) : 0 ≤ C.rf k ∧ C.rf k ≤ 255 := by
  have hk := C.m.kp_le
  have := ho k
  omega
/-- New of a box's ROM with what another cartridge kept -/
theorem new_again {ty rm rn : Nat} {sd : Int} {R0 : Rw} {sg sc : Nat} (hN : N = 32768) (hT : Tb W) (hB : Box0 ty rm R0) (hW : By W g N (romF ty 0 rm sd)) (hb : R0.bat = true) (hrn : ramN R0 rm = rn) (hr1 : 1 ≤ rn) (hS : By W sg rn C.rf) (hsc : rn ≤ sc) (hsm : sc ≤ maxLen) (ho : C.Ok) (hkd : C.m.kd = R0.mapper) :
    Calls Tryd.prog 15 #[.slice (some ⟨g, 0, none⟩) N N, .slice (some ⟨sg, 0, none⟩) rn sc] W fun e w' => ∃ A D, e = .returned (.tuple #[.pointer (some ⟨A.cb, 0, none⟩), .int .i64 0]) ∧ Cz W.heap.size w'.heap.size A D w' ∧ D.Base R0.mapper rn N (romF ty 0 rm sd) ∧ Up W w' := by
  subst hN
  have hmp := rowsT_mp R0 hB.mem
  have hkp : (Mp.new R0.mapper).kp = C.m.kp := by unfold Mp.kp; rw [hkd]; rfl
  refine (new_save hS hr1 hsc hsm (fun k => ho.u8 k) hT hW (by decide) (by decide) (Nat.le_refl _) (by decide) (romF_byte _ _ _ _)).mono ?_
  rintro e w' ⟨R, b, mk, hr, hm, u, hcs⟩
  obtain ⟨rfl, hf, e8, e9⟩ := hd_none hB (Hd.refl _) hr hm
  rw [e9] at hcs
  have hsf : SaveFits R (ramN R rm) rn C.rf := ⟨hb, hrn.symm, fun k _ => by rw [hkp]; exact (ho k).2⟩
  rcases hcs with ⟨h1, _⟩ | ⟨_, h1, _⟩ | ⟨_, _, m, A, ht, hc, a1, a2, a3, a4, he⟩
  · exact absurd hf h1
  · exact absurd hsf h1
  · rw [e8] at hc
    refine ⟨A, _, he, Cz.of ⟨hc, u, a1, a2, a3, a4⟩ (fun k => ?_) (Mp.new_std hmp), ⟨rfl, hrn, hb, rfl, rfl⟩, u⟩
    show 0 ≤ C.rf k ∧ C.rf k ≤ ((Mp.new R.mapper).kp : Int)
    rw [hkp]
    exact ho k
/-- New of a box's ROM -/
theorem new_first {ty rm rn : Nat} {sd : Int} {R0 : Rw} (hN : N = 32768) (hT : Tb W) (hB : Box0 ty rm R0) (hW : By W g N (romF ty 0 rm sd)) (hb : R0.bat = true) (hrn : ramN R0 rm = rn) :
    Calls Tryd.prog 15 #[.slice (some ⟨g, 0, none⟩) N N, .slice none 0 0] W fun e w' => ∃ A D, e = .returned (.tuple #[.pointer (some ⟨A.cb, 0, none⟩), .int .i64 0]) ∧ Cz W.heap.size w'.heap.size A D w' ∧ D.Base R0.mapper rn N (romF ty 0 rm sd) ∧ Up W w' := by
  subst hN
  have hmp := rowsT_mp R0 hB.mem
  refine (new_any hT hW (by decide) (by decide) (Nat.le_refl _) (by decide) (romF_byte _ _ _ _)).mono ?_
  rintro e w' ⟨R, b, mk, hr, hm, u, hcs⟩
  obtain ⟨rfl, hf, e8, e9⟩ := hd_none hB (Hd.refl _) hr hm
  rcases hcs with ⟨h1, _⟩ | ⟨_, m, A, ht, hc, a1, a2, a3, a4, he⟩
  · exact absurd hf h1
  · rw [e8, e9] at hc
    exact ⟨A, _, he, Cz.of ⟨hc, u, a1, a2, a3, a4⟩ (fun k => ⟨Int.le_refl 0, Int.natCast_nonneg _⟩) (Mp.new_std hmp), ⟨rfl, hrn, hb, rfl, rfl⟩, u⟩
end Go.Proofs.YtojlappgmckokaaDoor
/- Cart: Load that is refused. -/
namespace Go.Proofs.YtojlappgmckokaaDoor
open Go.Shelf Go.RowKit
set_option linter.unusedVariables false
set_option linter.unusedSimpArgs false
variable {w w' W : World} {b : Nat} {A : Ad} {C : Ct}
set_option maxRecDepth 100000 in
theorem load_short {cb n c : Nat} {aa : Option Addr} (hn : n < 5) (hc : n ≤ c) (hm : c ≤ 9223372036854775807) : Calls Tryd.prog 20 #[.pointer (some ⟨cb, 0, none⟩), .slice aa n c] W fun e w' => e = .returned (.int .i64 49) ∧ Up W w' := by
  have e5 : (n : Int) < 5 := by omega
  go_enter Tryd.func20, Tryd.ntmps20
  go_wp2_with fail
  go_ret
  exact ⟨by first | rfl | (simp; done), (Up.refl W).alloc _⟩
set_option maxRecDepth 100000 in
theorem CtAt.loadUnfit {n c ab ao : Nat} {aa : Option Addr} {f : Nat → Int} (h : CtAt W A C) (hL : Byts W aa ab ao n c f) (hn : 5 < n) (hno : ¬ C.Fit (n - 5) (fun k => f (5 + k))) : Calls Tryd.prog 20 #[.pointer (some ⟨A.cb, 0, none⟩), .slice aa n c] W fun e w' => e = .returned (.int .i64 49) ∧ Up W w' := by
  have lcm : c ≤ 9223372036854775807 := by have := hL.cm; unfold maxLen at this; omega
  have lnc := hL.lc
  obtain rfl : aa = some ⟨ab, ao, none⟩ := hL.ad (by omega)
  have HFi : Hid (∀ w, Up W w → Calls Tryd.prog 42 #[.pointer (some ⟨A.cb, 0, none⟩), .slice (some ⟨ab, ao + 5, none⟩) (n - 5) (c - 5)] w fun e w' => e = .returned (.bool false) ∧ Up w w') := fun w u => (h.up u).fits (t := false) (byts_tail (hL.upB u) (by omega)) ⟨(fun q => (by cases q)), fun q => absurd q hno⟩
  have e5 : ¬ (n : Int) < 5 := by omega
  have hc5 : 5 < c := by omega
  clear h hL hno
  go_enter Tryd.func20, Tryd.ntmps20
  go_wp2_with fail
  refine (HFi.out _ ((Up.refl W).alloc _)).mono ?_
  rintro e w2 ⟨rfl, u2⟩
  have HU2 : Hid (Up W w2) := ((Up.refl W).alloc _).trans u2
  clear u2 HFi
  go_wp2_with fail
  go_ret
  exact ⟨by first | rfl | (simp; done), HU2.out⟩
set_option maxRecDepth 100000 in
set_option maxHeartbeats 2000000 in
theorem CtAt.loadOut {n c ab ao : Nat} {aa : Option Addr} {f : Nat → Int} (h : CtAt W A C) (hL : Byts W aa ab ao n c f) (hn : n = 5 + C.rm) (hn1 : 1 ≤ C.rm) (hfit : ∀ k, k < C.rm → f (5 + k) ≤ (C.m.kp : Int)) (hreg : ¬ ∀ k, k < 5 → (loB C.m.kd k : Int) ≤ f k ∧ f k ≤ (hiB C.m.kd k : Int)) : Calls Tryd.prog 20 #[.pointer (some ⟨A.cb, 0, none⟩), .slice aa n c] W fun e w' => e = .returned (.int .i64 49) ∧ Up W w' := by
  have lcm : c ≤ 9223372036854775807 := by have := hL.cm; unfold maxLen at this; omega
  have lnc := hL.lc
  obtain rfl : aa = some ⟨ab, ao, none⟩ := hL.ad (by omega)
  have k7 : W.cell? ⟨A.cb, 7, none⟩ = some (.slice (some ⟨A.rb, 0, none⟩) C.rm A.rc) := heap_cell h.blk rfl
  have k8 : W.cell? ⟨A.cb, 8, none⟩ = some A.v := heap_cell h.blk rfl
  obtain ⟨t8, p8, hv8⟩ := mp_iface h.mp
  have HH : Hid (CtAt W A C) := h
  have HL : Hid (Byts W (some ⟨ab, ao, none⟩) ab ao n c f) := hL
  have hrm := h.rm
  have HFi : Hid (∀ w, Up W w → Calls Tryd.prog 42 #[.pointer (some ⟨A.cb, 0, none⟩), .slice (some ⟨ab, ao + 5, none⟩) (n - 5) (c - 5)] w fun e w' => e = .returned (.bool true) ∧ Up w w') := fun w u => (h.up u).fits (t := true) (byts_tail (hL.upB u) (by omega)) ⟨fun _ => ⟨by omega, fun k hk => hfit k (by omega)⟩, fun _ => rfl⟩
  obtain ⟨x0, hx0⟩ := Int.eq_ofNat_of_zero_le (hL.u8 0).1
  obtain ⟨x1, hx1⟩ := Int.eq_ofNat_of_zero_le (hL.u8 1).1
  obtain ⟨x2, hx2⟩ := Int.eq_ofNat_of_zero_le (hL.u8 2).1
  obtain ⟨x3, hx3⟩ := Int.eq_ofNat_of_zero_le (hL.u8 3).1
  obtain ⟨x4, hx4⟩ := Int.eq_ofNat_of_zero_le (hL.u8 4).1
  have HXs : Hid (f 0 = (x0 : Int) ∧ f 1 = (x1 : Int) ∧ f 2 = (x2 : Int) ∧ f 3 = (x3 : Int) ∧ f 4 = (x4 : Int)) := ⟨hx0, hx1, hx2, hx3, hx4⟩
  have HGv : Hid (∀ w, Calls Tryd.prog 43 #[A.v, .agg #[.int .u8 (x0 : Int), .int .u8 (x1 : Int), .int .u8 (x2 : Int), .int .u8 (x3 : Int), .int .u8 (x4 : Int)]] w fun e w' => e = .returned (.bool false) ∧ Up w w') := fun w => by
    refine given_any (t := false) hv8 (l0 := loB C.m.kd 0) (l1 := loB C.m.kd 1) (l2 := loB C.m.kd 2) (l3 := loB C.m.kd 3) (l4 := loB C.m.kd 4) (h0 := hiB C.m.kd 0) (h1 := hiB C.m.kd 1) (h2 := hiB C.m.kd 2) (h3 := hiB C.m.kd 3) (h4 := hiB C.m.kd 4) (fun w => h.mp.bounds w) ⟨(fun q => (by cases q)), fun q => absurd (fun k hk => ?_) hreg⟩
    match k, hk with
    | 0, _ => rw [hx0]; omega
    | 1, _ => rw [hx1]; omega
    | 2, _ => rw [hx2]; omega
    | 3, _ => rw [hx3]; omega
    | 4, _ => rw [hx4]; omega
  rw [hv8] at HGv
  have HV8 : Hid (A.v = .iface t8 p8) := hv8
  rw [hv8] at k8
  have e5 : ¬ (n : Int) < 5 := by omega
  have en : n - 5 = C.rm := by omega
  have HE5 : Hid (n - 5 = C.rm) := en
  have HNn : Hid (n = 5 + C.rm ∧ 1 ≤ C.rm) := ⟨hn, hn1⟩
  have hc5 : 5 < c := by omega
  have hn5 : 5 < n := by omega
  clear h hL hfit hreg hx0 hx1 hx2 hx3 hx4 hv8 hn hn1 en
  go_enter Tryd.func20, Tryd.ntmps20
  go_wp2_with fail
  refine (HFi.out _ ((Up.refl W).alloc _)).mono ?_
  rintro e w2 ⟨rfl, u2⟩
  have HU2 : Hid (Up W w2) := ((Up.refl W).alloc _).trans u2
  have hR : w2.heap[W.heap.size]? = some (.cells #[.int .u8 0, .int .u8 0, .int .u8 0, .int .u8 0, .int .u8 0] 87 (0, 0)) := (u2.block _ (heap_at (heap_alloc_new W _))).trans (heap_alloc_new W _)
  have HR : Hid _ := hR
  obtain ⟨g, hg⟩ : ∃ g, g = W.heap.size := ⟨_, rfl⟩
  rw [← hg] at HR ⊢
  have HG : Hid (g = W.heap.size) := hg
  clear hR hg u2 HFi k7 k8
  have HCp : Hid (∀ ty, (Builtin.copy_ #[24, 24] ty #[.slice (some ⟨g, 0, none⟩) 5 5, .slice (some ⟨ab, ao, none⟩) n c]).run Tryd.prog w2 = .ok (goInt 5) (w2.setCells g 0 (byL f 5))) := fun ty => copy_run (k := 5) (n := 5) (f := fun _ => 0) ⟨_, _, HR.out, by simp, fun k hk => by
    match k, hk with
    | 0, _ => rfl
    | 1, _ => rfl
    | 2, _ => rfl
    | 3, _ => rfl
    | 4, _ => rfl⟩ (by decide) (by show 5 = min n 5; omega) (fun j hj => by rw [Addr.add_lit]; exact (HL.out.upB HU2.out).cell j (by omega)) 5 c ty
  have hX := HXs.out
  have HR3 : Hid ((w2.setCells g 0 (byL f 5)).heap[g]? = some (.cells #[.int .u8 (x0 : Int), .int .u8 (x1 : Int), .int .u8 (x2 : Int), .int .u8 (x3 : Int), .int .u8 (x4 : Int)] 87 (0, 0))) := by
    have hh := heap_setCells_same g 87 (byL f 5) 0 _ _ HR.out
    rw [show byL f 5 = [.int .u8 (f 0), .int .u8 (f 1), .int .u8 (f 2), .int .u8 (f 3), .int .u8 (f 4)] from rfl, hX.1, hX.2.1, hX.2.2.1, hX.2.2.2.1, hX.2.2.2.2] at hh
    rw [show byL f 5 = [.int .u8 (f 0), .int .u8 (f 1), .int .u8 (f 2), .int .u8 (f 3), .int .u8 (f 4)] from rfl, hX.1, hX.2.1, hX.2.2.1, hX.2.2.2.1, hX.2.2.2.2]
    exact hh
  have HU3 : Hid (Up W (w2.setCells g 0 (byL f 5))) := Fr.up HU2.out (by rw [HG.out]; exact Nat.le_refl _) (fr_setCells g _ 0 w2)
  clear hX
  go_wp2_with (refine wpList_copy_runI _ rfl _ _ 24 24 rfl _ _ rfl rfl (HCp.out _) ?_)
  simp only [goInt, Act.put, List.setIfInBounds_toArray, List.set_cons_zero, List.set_cons_succ]
  generalize World.setCells w2 _ _ _ = w3 at HR3 HU3 ⊢
  clear HCp HR HU2
  have HSw : Hid (∀ w, Up W w → w.heap[g]? = some (.cells #[.int .u8 (x0 : Int), .int .u8 (x1 : Int), .int .u8 (x2 : Int), .int .u8 (x3 : Int), .int .u8 (x4 : Int)] 87 (0, 0)) → w.cell? ⟨A.cb, 8, none⟩ = some (.iface t8 p8) ∧ w.rangeAt g 0 [.int .u8 (x0 : Int), .int .u8 (x1 : Int), .int .u8 (x2 : Int), .int .u8 (x3 : Int), .int .u8 (x4 : Int)]) := fun w u hr => ⟨by rw [← HV8.out]; exact heap_cell (HH.out.up u).blk rfl, range_row hr⟩
  refine wp_region_held_drew (S := fun w => w.cell? ⟨A.cb, 8, none⟩ = some (.iface t8 p8) ∧ w.rangeAt g 0 [.int .u8 (x0 : Int), .int .u8 (x1 : Int), .int .u8 (x2 : Int), .int .u8 (x3 : Int), .int .u8 (x4 : Int)]) (by kernel_rfl) ?_ (fun hHeld => ?_)
  · exact HSw.out _ HU3.out.drew HR3.out
  have HUd : Hid _ := HU3.out.drew
  have HRd : Hid ((World.drew w3).heap[g]? = some (.cells #[.int .u8 (x0 : Int), .int .u8 (x1 : Int), .int .u8 (x2 : Int), .int .u8 (x3 : Int), .int .u8 (x4 : Int)] 87 (0, 0))) := HR3.out
  generalize World.drew w3 = wd at HUd HRd hHeld ⊢
  refine wpAnyH_take (i := 0) (v := ?_) (by simp only [List.getElem?_toArray, List.getElem?_cons_zero]; rfl) (by kernel_rfl) (by kernel_rfl) (by kernel_rfl) (by intro _ _ _ h; exact h) (Or.inl ⟨by rfl, ?_⟩) (by assumption) ?_
  rotate_left
  · (intro w hSw; (try dsimp only at hSw); go_simp <;> with_reducible rfl)
  try simp only [Act.put, List.setIfInBounds_toArray, List.set_cons_zero, List.set_cons_succ]
  refine wpAnyH_take (i := 1) (v := ?_) (by simp only [List.getElem?_toArray, List.getElem?_cons_succ, List.getElem?_cons_zero]; rfl) (by kernel_rfl) (by kernel_rfl) (by kernel_rfl) (by intro _ _ _ h; exact h) (Or.inl ⟨by rfl, ?_⟩) (by assumption) ?_
  rotate_left
  · (intro w hSw; (try dsimp only at hSw); go_simp <;> with_reducible rfl)
  try simp only [Act.put, List.setIfInBounds_toArray, List.set_cons_zero, List.set_cons_succ]
  refine wpAnyH_take (i := 2) (v := ?_) (by simp only [List.getElem?_toArray, List.getElem?_cons_succ, List.getElem?_cons_zero]; rfl) (by kernel_rfl) (by kernel_rfl) (by kernel_rfl) (by intro _ _ _ h; exact h) (Or.inl ⟨by rfl, ?_⟩) (by assumption) ?_
  rotate_left
  · (intro w hSw; (try dsimp only at hSw); go_simp <;> with_reducible rfl)
  try simp only [Act.put, List.setIfInBounds_toArray, List.set_cons_zero, List.set_cons_succ]
  refine wpAnyH_take (i := 3) (v := ?_) (by simp only [List.getElem?_toArray, List.getElem?_cons_succ, List.getElem?_cons_zero]; rfl) (by kernel_rfl) (by kernel_rfl) (by kernel_rfl) (by intro _ _ _ h; exact h) (Or.inl ⟨by rfl, ?_⟩) (by assumption) ?_
  rotate_left
  · (intro w hSw; (try dsimp only at hSw); go_simp <;> with_reducible rfl)
  try simp only [Act.put, List.setIfInBounds_toArray, List.set_cons_zero, List.set_cons_succ]
  refine wpAnyH_take (i := 4) (v := .agg [.int .u8 (x0 : Int), .int .u8 (x1 : Int), .int .u8 (x2 : Int), .int .u8 (x3 : Int), .int .u8 (x4 : Int)].toArray) (by simp only [List.getElem?_toArray, List.getElem?_cons_succ, List.getElem?_cons_zero]; rfl) (by kernel_rfl) (by kernel_rfl) (by kernel_rfl) (by intro _ _ _ h; exact h) (yieldsIf_load_mid (by rfl) 87 _ rfl g 0 rfl [.int .u8 (x0 : Int), .int .u8 (x1 : Int), .int .u8 (x2 : Int), .int .u8 (x3 : Int), .int .u8 (x4 : Int)] _ (fun w hw => hw.2) Tryd.underlying87 rfl (by kernel_rfl)) (by assumption) ?_
  simp only [Act.put, List.setIfInBounds_toArray, List.set_cons_zero, List.set_cons_succ]
  refine wpAnyH_ready (rs := [5]) (by kernel_rfl) (by simp) ?_
  refine AllReadyH.cons (by simp only [List.getElem?_toArray, List.getElem?_cons_succ, List.getElem?_cons_zero]; rfl) (fun KK hK => ?_) AllReadyH.nil
  go_simp
  refine (HGv.out wd).mono ?_
  rintro e w4 ⟨rfl, u4⟩
  have HU4 : Hid (Up W w4) := HUd.out.trans u4
  have HR4 : Hid (w4.heap[g]? = some (.cells #[.int .u8 (x0 : Int), .int .u8 (x1 : Int), .int .u8 (x2 : Int), .int .u8 (x3 : Int), .int .u8 (x4 : Int)] 87 (0, 0))) := (u4.block g (heap_at HRd.out)).trans HRd.out
  clear u4
  refine hK.out _ _ (HSw.out _ HU4.out HR4.out) (fun hHeld => ?_)
  clear hK KK HUd HRd HR3 HU3 HGv
  try simp only [Act.put, List.setIfInBounds_toArray, List.set_cons_zero, List.set_cons_succ]
  refine wpAnyH_take (i := 6) (v := ?_) (by simp only [List.getElem?_toArray, List.getElem?_cons_succ, List.getElem?_cons_zero]; rfl) (by kernel_rfl) (by kernel_rfl) (by kernel_rfl) (by intro _ _ _ h; exact h) (Or.inl ⟨by rfl, ?_⟩) (by assumption) ?_
  rotate_left
  · (intro w hSw; (try dsimp only at hSw); go_simp <;> with_reducible rfl)
  try simp only [Act.put, List.setIfInBounds_toArray, List.set_cons_zero, List.set_cons_succ]
  refine wpAnyH_done (by kernel_rfl) ?_ _
  clear hHeld
  go_wp2_with fail
  go_ret
  exact ⟨by first | rfl | (simp; done), HU4.out⟩
end Go.Proofs.YtojlappgmckokaaDoor
/- Cart: what a ROM with a good header is refused with. -/
namespace Go.Proofs.YtojlappgmckokaaDoor
open Go.Shelf Go.RowKit
set_option linter.unusedVariables false
set_option linter.unusedSimpArgs false
variable {w w' W : World} {g n c : Nat} {f : Nat → Int} {A : Ad} {C : Ct}
/-- a header with its mark and its sum -/
structure Gd (f : Nat → Int) (md ty rc rm : Nat) : Prop where
  mark : ∀ i, i < 48 → f (260 + i) = markF i
  sum : f 333 = (231 - sig f 25) % 256
  md : f 323 = (md : Int)
  ty : f 327 = (ty : Int)
  rc : f 328 = (rc : Int)
  rm : f 329 = (rm : Int)
theorem gd_rom {ty rc rm : Nat} (h1 : ty ≤ 255) (h2 : rc ≤ 255) (h3 : rm ≤ 255) (sd : Int) : Gd (romF ty rc rm sd) 0 ty rc rm :=
  ⟨fun i hi => rom_mark hi, rom_sum _ _ _ _, rom_323 _ _ _ _, by rw [rom_327]; omega, by rw [rom_328]; omega, by rw [rom_329]; omega⟩
theorem Gd.congr {f h : Nat → Int} {md ty rc rm : Nat} (hg : Gd f md ty rc rm) (e : ∀ k, 260 ≤ k → k ≤ 333 → h k = f k) : Gd h md ty rc rm :=
  ⟨fun i hi => by rw [e _ (by omega) (by omega)]; exact hg.mark i hi, by rw [e _ (by omega) (by omega), hg.sum, sig_congr (f := h) (f' := f) (fun j hj => e _ (by omega) (by omega))], by rw [e _ (by omega) (by omega)]; exact hg.md, by rw [e _ (by omega) (by omega)]; exact hg.ty, by rw [e _ (by omega) (by omega)]; exact hg.rc, by rw [e _ (by omega) (by omega)]; exact hg.rm⟩
def errOf (md ty rc rm n : Nat) : Int :=
  if md = 192 then 44 else match rowsT.find? (fun R => R.kind == ty) with
  | none => 45
  | some R => if takesB R rc n = false then 46 else if rm < R.lo ∨ R.hi < rm then 47 else 0
theorem fault_gd {md ty rc rm : Nat} {R : Rw} {b mk : Bool} (h : Gd f md ty rc rm) (hr : RowIs (f 327).toNat R b) (hm : MarkIs f mk) : faultI mk f R b n = errOf md ty rc rm n := by
  rw [h.ty, Int.toNat_natCast] at hr
  obtain rfl : mk = true := by
    rcases hm with ⟨h, _⟩ | ⟨_, i, hi, hne⟩
    · exact h
    · exact absurd (h.mark i hi) hne
  unfold faultI errOf
  rw [if_neg (by decide), if_neg (by rw [h.sum]; simp), h.md, h.rc, h.rm, Int.toNat_natCast]
  by_cases hmd : md = 192
  · rw [if_pos (by omega), if_pos hmd]
  · rw [if_neg (by omega), if_neg hmd]
    rcases hr with ⟨rfl, hR, hk⟩ | ⟨rfl, rfl, hn⟩
    · have hf : rowsT.find? (fun R => R.kind == ty) = some R := by
        cases hq : rowsT.find? (fun R => R.kind == ty) with
        | none =>
          have := List.find?_eq_none.1 hq R hR
          simp [hk] at this
        | some S =>
          have h1 := List.find?_some hq
          have h2 := List.mem_of_find?_eq_some hq
          rw [rows_uniq h2 hR (by rw [hk]; simpa using h1)]
      rw [hf, if_neg (by decide)]
      dsimp only
      by_cases ht : takesB R rc n = false
      · rw [if_pos ht, if_pos ht]
      · rw [if_neg ht, if_neg ht]
        by_cases hq : rm < R.lo ∨ R.hi < rm
        · rw [if_pos (by omega), if_pos hq]
        · rw [if_neg (by omega), if_neg hq]
    · have hf : rowsT.find? (fun R => R.kind == ty) = none := List.find?_eq_none.2 (fun r hr => by have := hn r hr; simpa using this)
      rw [hf, if_pos rfl]
theorem check_gd {md ty rc rm : Nat} {x : Int} (hT : Tb W) (h : By W g n f) (hn : 32768 ≤ n) (hn2 : n ≤ 2097152) (hc : n ≤ c) (hm : c ≤ 9223372036854775807) (h8 : ∀ k, 0 ≤ f k ∧ f k ≤ 255) (hg : Gd f md ty rc rm) (hx : errOf md ty rc rm n = x) (hx0 : x ≠ 0) : Calls Tryd.prog 13 #[.slice (some ⟨g, 0, none⟩) n c] W fun e w' => e = .returned (.tuple #[.agg zHead, .int .i64 x]) ∧ Up W w' := by
  refine (check_any hT h hn hn2 hc hm h8).mono ?_
  rintro e w' ⟨R, b, mk, hr, hm, u, hcs⟩
  rw [fault_gd hg hr hm, hx] at hcs
  rcases hcs with ⟨_, he⟩ | ⟨h0, _⟩
  · exact ⟨he, u⟩
  · exact absurd h0 hx0
theorem new_gd {md ty rc rm : Nat} {x : Int} (hT : Tb W) (h : By W g n f) (hn : 32768 ≤ n) (hn2 : n ≤ 2097152) (hc : n ≤ c) (hm : c ≤ 9223372036854775807) (h8 : ∀ k, 0 ≤ f k ∧ f k ≤ 255) (hg : Gd f md ty rc rm) (hx : errOf md ty rc rm n = x) (hx0 : x ≠ 0) : Calls Tryd.prog 15 #[.slice (some ⟨g, 0, none⟩) n c, .slice none 0 0] W fun e w' => e = .returned (.tuple #[.pointer none, .int .i64 x]) ∧ Up W w' := by
  refine (new_any hT h hn hn2 hc hm h8).mono ?_
  rintro e w' ⟨R, b, mk, hr, hm, u, hcs⟩
  rw [fault_gd hg hr hm, hx] at hcs
  rcases hcs with ⟨_, he⟩ | ⟨h0, _⟩
  · exact ⟨he, u⟩
  · exact absurd h0 hx0
/-- a save of zeros -/
theorem new_zero {ty rc rm sg sn : Nat} {R0 : Rw} (hT : Tb W) (h : By W g n f) (hn : 32768 ≤ n) (hn2 : n ≤ 2097152) (h8 : ∀ k, 0 ≤ f k ∧ f k ≤ 255) (hg : Gd f 0 ty rc rm) (hx : errOf 0 ty rc rm n = 0) (hR0 : R0 ∈ rowsT) (hk : R0.kind = ty) (hS : By W sg sn (fun _ => 0)) (hs1 : 1 ≤ sn) (hs2 : sn ≤ 9223372036854775807) : Calls Tryd.prog 15 #[.slice (some ⟨g, 0, none⟩) n n, .slice (some ⟨sg, 0, none⟩) sn sn] W fun e w' => Up W w' ∧ ((¬ (R0.bat = true ∧ sn = ramN R0 rm) ∧ e = .returned (.tuple #[.pointer none, .int .i64 48])) ∨ ((R0.bat = true ∧ sn = ramN R0 rm) ∧ ∃ A D, e = .returned (.tuple #[.pointer (some ⟨A.cb, 0, none⟩), .int .i64 0]) ∧ Cz W.heap.size w'.heap.size A D w' ∧ D.m = Mp.new R0.mapper ∧ D.rm = ramN R0 rm ∧ (∀ k, D.rf k = 0))) := by
  refine (new_save hS hs1 (Nat.le_refl _) (by unfold maxLen; omega) (fun _ => ⟨Int.le_refl 0, by decide⟩) hT h hn hn2 (Nat.le_refl _) (by omega) h8).mono ?_
  rintro e w' ⟨R, b, mk, hr, hm, u, hcs⟩
  rw [fault_gd hg hr hm, hx] at hcs
  have hr2 := hr
  rw [hg.ty, Int.toNat_natCast] at hr2
  have hRR : R = R0 := by
    rcases hr2 with ⟨_, h1, h2⟩ | ⟨_, _, h2⟩
    · exact rows_uniq h1 hR0 (by rw [h2, hk])
    · exact absurd hk (h2 R0 hR0)
  subst hRR
  have e9 : (f 329).toNat = rm := by rw [hg.rm]; rfl
  rw [e9] at hcs
  have hsf : SaveFits R (ramN R rm) sn (fun _ => 0) ↔ (R.bat = true ∧ sn = ramN R rm) := ⟨fun q => ⟨q.1, q.2.1⟩, fun q => ⟨q.1, q.2, fun k _ => Int.natCast_nonneg _⟩⟩
  refine ⟨u, ?_⟩
  rcases hcs with ⟨h1, _⟩ | ⟨_, h1, he⟩ | ⟨_, h1, m, A, ht, hc, a1, a2, a3, a4, he⟩
  · exact absurd rfl h1
  · exact Or.inl ⟨fun q => h1 (hsf.2 q), he⟩
  · exact Or.inr ⟨hsf.1 h1, A, _, he, Cz.of ⟨hc, u, a1, a2, a3, a4⟩ (fun k => ⟨Int.le_refl 0, Int.natCast_nonneg _⟩) (Mp.new_std (rowsT_mp R hR0)), rfl, rfl, fun _ => rfl⟩
/-- another model, and its sum -/
theorem gd_model {md ty rc rm : Nat} {x : Int} (mx : Nat) (ex : x = (mx : Int)) (h : Gd f md ty rc rm) : Gd (putF (putF f 323 1 (fun _ => x)) 333 1 (fun _ => (231 - sig (putF f 323 1 (fun _ => x)) 25) % 256)) mx ty rc rm := by
  subst ex
  refine ⟨fun i hi => ?_, ?_, ?_, ?_, ?_, ?_⟩
  · rw [putF_out _ _ (by omega), putF_out _ _ (by omega)]
    exact h.mark i hi
  · have e : ∀ S : Nat → Int, sig (putF (putF f 323 1 (fun _ => (mx : Int))) 333 1 S) 25 = sig (putF f 323 1 (fun _ => (mx : Int))) 25 := fun S => sig_congr (fun j hj => putF_out _ _ (by omega))
    rw [e, putF_in _ _ (by omega) (by omega)]
  · rw [putF_out _ _ (by omega), putF_in _ _ (by omega) (by omega)]
  · rw [putF_out _ _ (by omega), putF_out _ _ (by omega)]
    exact h.ty
  · rw [putF_out _ _ (by omega), putF_out _ _ (by omega)]
    exact h.rc
  · rw [putF_out _ _ (by omega), putF_out _ _ (by omega)]
    exact h.rm
theorem model_byte {x : Int} (hx : 0 ≤ x ∧ x ≤ 255) (h8 : ∀ k, 0 ≤ f k ∧ f k ≤ 255) : ∀ k, 0 ≤ putF (putF f 323 1 (fun _ => x)) 333 1 (fun _ => (231 - sig (putF f 323 1 (fun _ => x)) 25) % 256) k ∧ putF (putF f 323 1 (fun _ => x)) 333 1 (fun _ => (231 - sig (putF f 323 1 (fun _ => x)) 25) % 256) k ≤ 255 :=
  putF_byte (putF_byte h8 (fun _ => hx)) (fun _ => by omega)
/-- a list that was made longer by one byte 0 -/
def longF (N : Nat) (f : Nat → Int) : Nat → Int := fun k => if k < N then f k else 0
theorem byL_one_more (N : Nat) (f : Nat → Int) : byL f N ++ [.int .u8 0] = byL (longF N f) (N + 1) := by
  have h : [.int .u8 0] = byL (fun _ => 0) 1 := rfl
  rw [h, cat_list]
  rfl
theorem cell_zero (w : World) : ∀ j u, ([.int .u8 0] : List Value)[j]? = some u → (w.alloc (.cells #[.int .u8 0] 5)).cell? ((⟨w.heap.size, 0, none⟩ : Addr).add j) = some u := by
  intro j u hj
  match j, hj with
  | 0, hj =>
    rw [Addr.add_lit]
    have hj : some (Value.int .u8 0) = some u := hj
    rw [← hj]
    exact heap_cell (heap_alloc_new w _) rfl
  | j + 1, hj => simp at hj
/-- a row of one's own as bytes -/
theorem By.ofOwn {base N : Nat} {v : Value} {h : Nat → Int} (ho : w.ownsRow base 5 1 v N (byL h N)) (hN : 1 ≤ N) : ∃ g cap, v = .slice (some ⟨g, 0, none⟩) N cap ∧ base ≤ g ∧ By w g N h ∧ N ≤ cap ∧ cap ≤ maxLen := by
  rcases ho.2 with ⟨_, hz⟩ | ⟨g', cap', cur, hv, hbase, hg, hn', hcm, hcs, htk⟩
  · omega
  · refine ⟨g', cap', hv, hbase, ⟨cur, 5, hg, by omega, fun k hk => ?_⟩, hn', hcm⟩
    rw [own_at htk k (by omega)]
    exact byL_at hk
/-- a state that is taken -/
def sF : Nat → Int := putF (putF (fun _ => 0) 1 1 (fun _ => 31)) 3 1 (fun _ => 3)
theorem sF_u8 : ∀ k, 0 ≤ sF k ∧ sF k ≤ 255 := putF_byte (putF_byte (fun _ => ⟨Int.le_refl 0, by decide⟩) (fun _ => ⟨by decide, by decide⟩)) (fun _ => ⟨by decide, by decide⟩)
theorem sF_reg : ∀ k, k < 5 → (loB 1 k : Int) ≤ sF k ∧ sF k ≤ (hiB 1 k : Int) := by
  intro k hk
  match k, hk with
  | 0, _ => exact ⟨by decide, by decide⟩
  | 1, _ => exact ⟨by decide, by decide⟩
  | 2, _ => exact ⟨by decide, by decide⟩
  | 3, _ => exact ⟨by decide, by decide⟩
  | 4, _ => exact ⟨by decide, by decide⟩
theorem sF_out {k : Nat} (h : 5 ≤ k) : sF k = 0 := by
  unfold sF
  rw [putF_out _ _ (by omega), putF_out _ _ (by omega)]
theorem zero_reg : ¬ ∀ k, k < 5 → (loB 1 k : Int) ≤ (fun _ => 0 : Nat → Int) k ∧ (fun _ => 0 : Nat → Int) k ≤ (hiB 1 k : Int) := fun h => absurd (h 1 (by decide)).1 (by decide)
theorem st_sF {k : Nat} (hk : k < 5 + C.rm) : (C.loaded sF).st k = sF k := by
  unfold Ct.st catF
  by_cases h : k < 5
  · rw [if_pos h]
    match k, h with
    | 0, _ => rfl
    | 1, _ => rfl
    | 2, _ => rfl
    | 3, _ => rfl
    | 4, _ => rfl
  · rw [if_neg h]
    show (if k - 5 < C.rm then sF (5 + (k - 5)) else 0) = sF k
    rw [if_pos (by omega)]
    congr 1
    omega
theorem rd_out {a : Int} (h : a < 0 ∨ (32768 ≤ a ∧ a < 40960) ∨ 49152 ≤ a) : C.rd a = 255 := by
  unfold Ct.rd
  rcases h with h | h | h
  · rw [if_pos h]
  · rw [if_neg (by omega), if_neg (by omega), if_neg (by omega), if_neg (fun q => by have := q.1; omega)]
  · rw [if_neg (by omega), if_neg (by omega), if_neg (by omega), if_neg (fun q => by have := q.2.1; omega)]
theorem rd_shut {a : Int} (h : 32768 ≤ a) (hs : C.m.seen = false) : C.rd a = 255 := by
  unfold Ct.rd
  rw [if_neg (by omega), if_neg (by omega), if_neg (by omega), if_neg (fun q => by have := q.2.2.2; rw [hs] at this; cases this)]
theorem wr_out {a : Int} {x : Nat} (h : a < 0 ∨ (32768 ≤ a ∧ a < 40960) ∨ 49152 ≤ a) : C.wr a x = C := by
  unfold Ct.wr
  rw [if_neg (by omega), if_neg (fun q => by have h1 := q.1; have h2 := q.2.1; omega)]
theorem seen_sF (h : C.m.kd = 1) : (C.loaded sF).m.seen = false := by
  show (⟨C.m.kd, _, _, _, _, _⟩ : Mp).seen = false
  rw [h]
  rfl
/-- the boxes that are refused -/
def tyT (k : Nat) : Nat := ([2, 4, 255, 0, 5, 1, 5, 19, 27, 9, 3, 26, 0] : List Nat).getD k 0
def rcT (k : Nat) : Nat := ([0, 0, 0, 1, 4, 0, 0, 0, 0, 0, 0, 0, 0] : List Nat).getD k 0
def rmT (k : Nat) : Nat := ([0, 0, 0, 0, 0, 2, 2, 4, 1, 3, 6, 0, 2] : List Nat).getD k 0
def erT (k : Nat) : Nat := ([47, 45, 45, 46, 46, 47, 47, 47, 47, 47, 47, 47, 47] : List Nat).getD k 0
theorem thirteen : ∀ k : Fin 13, errOf 0 (tyT k.val) (rcT k.val) (rmT k.val) (32768 * 2 ^ rcT k.val) = (erT k.val : Int) ∧ (erT k.val : Int) ≠ 0 ∧ tyT k.val ≤ 255 ∧ rcT k.val ≤ 6 ∧ rmT k.val ≤ 255 ∧ erT k.val ≤ 47 ∧ 32768 ≤ 32768 * 2 ^ rcT k.val ∧ 32768 * 2 ^ rcT k.val ≤ 2097152 := by decide +kernel
end Go.Proofs.YtojlappgmckokaaDoor
