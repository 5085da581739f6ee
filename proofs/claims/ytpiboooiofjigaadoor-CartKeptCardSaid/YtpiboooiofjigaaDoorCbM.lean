/- Cart: lists compared; a cartridge on its way beside its ROM. -/
import Derived.Test.YtpiboooiofjigaaDoorCbL
import Derived.Test.YtpiboooiofjigaaDoorCaV
namespace Go.Proofs.YtpiboooiofjigaaDoor
open Go.Shelf Go.RowKit
set_option linter.unusedVariables false
set_option linter.unusedSimpArgs false
variable {w w' W : World} {lo hi g N n : Nat} {F f : Nat → Int} {A : Ad} {C D : Ct}
set_option maxRecDepth 100000 in
set_option maxHeartbeats 1000000 in
/-- two lists that read the same -/
theorem same_yes {a1 a2 : Option Addr} {b1 o1 c1 b2 o2 c2 : Nat} {f1 f2 : Nat → Int} (h1 : Byts W a1 b1 o1 n c1 f1) (h2 : Byts W a2 b2 o2 n c2 f2) (he : ∀ k, k < n → f1 k = f2 k) : Calls Tryd.prog 21 #[.slice a1 n c1, .slice a2 n c2] W fun e w' => e = .returned (.bool true) ∧ Up W w' := by
  have q1 : c1 ≤ 9223372036854775807 := by have := h1.cm; unfold maxLen at this; omega
  have q2 : c2 ≤ 9223372036854775807 := by have := h2.cm; unfold maxLen at this; omega
  have l1 := h1.lc
  have l2 := h2.lc
  have hnn : ((n : Int) == (n : Int)) = true := by simp
  have H1 : Hid (0 < n → a1 = some ⟨b1, o1, none⟩) := h1.ad
  have H2 : Hid (0 < n → a2 = some ⟨b2, o2, none⟩) := h2.ad
  have H3 : Hid (∀ w, Up W w → ∀ k, k < n → w.cell? ⟨b1, o1 + k, none⟩ = some (.int .u8 (f1 k)) ∧ w.cell? ⟨b2, o2 + k, none⟩ = some (.int .u8 (f1 k))) := fun w u k hk => ⟨(h1.upB u).cell k hk, by rw [he k hk]; exact (h2.upB u).cell k hk⟩
  have HU : Hid (Up W W) := Up.refl W
  clear h1 h2 he
  go_enter Tryd.func21, Tryd.ntmps21
  go_wp2_with fail
  go_loopw [5] (fun I wr => ∃ i : Nat, i ≤ n ∧ I = .int .i64 i ∧ Hid (Up W wr)) (fun I _ => n - (intOf I).toNat)
  case atStart => exact ⟨0, by omega, rfl, HU⟩
  case round =>
    clear HU
    obtain ⟨i, hi, rfl, HU⟩ := hrel
    by_cases hlt : i < n
    · have e1 : (i : Int) < (n : Int) := by omega
      obtain rfl := H1.out (by omega)
      obtain rfl := H2.out (by omega)
      have k1 := (H3.out _ HU.out i hlt).1
      have k2 := (H3.out _ HU.out i hlt).2
      clear H1 H2 H3
      go_wp2_with fail
      go_quiet (fail)
      have HV : Hid (Up W (wr.drewN nq)) := HU.out.trans (Up.drewN wr nq)
      clear HU
      go_wp2_with fail
      refine ⟨⟨i + 1, by omega, by first | rfl | (simp; done), HV⟩, ?_⟩
      simp [intOf]
      try omega
    · have e1 : ¬ (i : Int) < (n : Int) := by omega
      clear H1 H2 H3
      go_wp2_with fail
      go_ret
      exact ⟨by first | rfl | (simp; done), HU.out⟩
/-- what every cartridge of one ROM has in common -/
structure Ct.Base (C : Ct) (kd rn N : Nat) (F : Nat → Int) : Prop where
  kd : C.m.kd = kd
  rm : C.rm = rn
  bat : C.bat = true
  n : C.n = N
  f : C.f = F
theorem Ct.Base.wr {kd rn : Nat} (h : C.Base kd rn N F) (a : Int) (x : Nat) : (C.wr a x).Base kd rn N F := by
  refine ⟨by rw [Ct.wr_kd]; exact h.kd, ?_, ?_, ?_, ?_⟩ <;> unfold Ct.wr <;> split
  · exact h.rm
  · split <;> exact h.rm
  · exact h.bat
  · split <;> exact h.bat
  · exact h.n
  · split <;> exact h.n
  · exact h.f
  · split <;> exact h.f
theorem Ct.Base.loaded {kd rn : Nat} (h : C.Base kd rn N F) (f : Nat → Int) : (C.loaded f).Base kd rn N F := ⟨h.kd, h.rm, h.bat, h.n, h.f⟩
theorem up_off (u : Up W w) (f : FK (Off lo hi) w w') (h : W.heap.size ≤ lo) : Up W w' :=
  ⟨f.os.trans u.os, f.output.trans u.output, Nat.le_trans u.size f.size, fun k hk => (f.block k (Nat.lt_of_lt_of_le hk u.size) (Or.inl (by omega))).trans (u.block k hk)⟩
/-- a cartridge beside its ROM -/
structure X1 (W : World) (g N : Nat) (F : Nat → Int) (lo hi : Nat) (A : Ad) (C : Ct) (w : World) : Prop where
  cz : Cz lo hi A C w
  by' : By w g N F
  gl : g < lo
  up : Up W w
  wl : W.heap.size ≤ lo
  hw : hi ≤ w.heap.size
theorem X1.more (h : X1 W g N F lo hi A C w) (u : Up w w') : X1 W g N F lo hi A C w' := ⟨h.cz.up u, h.by'.up u, h.gl, h.up.trans u, h.wl, Nat.le_trans h.hw u.size⟩
theorem X1.write {a : Int} {x : Nat} (h : X1 W g N F lo hi A C w) (hx : x ≤ 255) : Calls Tryd.prog 18 #[.pointer (some ⟨A.cb, 0, none⟩), .int .i64 a, .int .u8 (x : Int)] w fun e w' => e = .returned (.tuple #[]) ∧ X1 W g N F lo hi A (C.wr a x) w' :=
  (h.cz.write hx).mono fun e w' ⟨q1, q2, q3⟩ => ⟨q1, q2, h.by'.of_block (q3.block g h.by'.lt (Or.inl h.gl)), h.gl, up_off h.up q3 h.wl, h.wl, Nat.le_trans h.hw q3.size⟩
theorem X1.writeI {a xI : Int} (x : Nat) (h : X1 W g N F lo hi A C w) (ex : xI = (x : Int)) (hx : x ≤ 255) : Calls Tryd.prog 18 #[.pointer (some ⟨A.cb, 0, none⟩), .int .i64 a, .int .u8 xI] w fun e w' => e = .returned (.tuple #[]) ∧ X1 W g N F lo hi A (C.wr a x) w' := by
  subst ex
  exact h.write hx
/-- RAM that is opened: what is written to its first bank is there -/
theorem opened {m : Mp} (h : m.Std) : ((m.set 0 10).set 16384 0).seen = true ∧ ((m.set 0 10).set 16384 0).bank = 0 := by
  obtain ⟨kd, on, low, high, pick, mode⟩ := m
  have hk : kd = 0 ∨ kd = 1 ∨ kd = 2 ∨ kd = 3 ∨ kd = 5 := h.kd
  rcases hk with rfl | rfl | rfl | rfl | rfl
  · exact ⟨rfl, rfl⟩
  · refine ⟨rfl, ?_⟩
    show (if mode = 0 then 0 else 0 % 4) = 0
    split <;> rfl
  · exact ⟨rfl, rfl⟩
  · exact ⟨rfl, rfl⟩
  · exact ⟨rfl, rfl⟩
theorem last_byte {kd rn pa : Nat} (hB : C.Base kd rn N F) (hs : C.m.Std) (hp : pa < 512) (hr : 512 ≤ rn) : (((C.wr 0 10).wr 16384 0).wr (40960 + (pa : Int)) 5).rf pa = 5 := by
  have e1 : C.wr 0 10 = C.set 0 10 := by unfold Ct.wr; rw [if_pos (by decide)]; rfl
  have e2 : (C.set 0 10).wr 16384 0 = (C.set 0 10).set 16384 0 := by unfold Ct.wr; rw [if_pos (by decide)]; rfl
  have ho := opened hs
  have hm : ((C.set 0 10).set 16384 0).m = (C.m.set 0 10).set 16384 0 := rfl
  have hrm : ((C.set 0 10).set 16384 0).rm = rn := hB.rm
  have hh : ((C.set 0 10).set 16384 0).here (40960 + (pa : Int)) := ⟨by omega, by omega, by rw [hrm]; omega, by rw [hm]; exact ho.1⟩
  rw [e1, e2]
  have e3 : ((C.set 0 10).set 16384 0).wr (40960 + (pa : Int)) 5 = ((C.set 0 10).set 16384 0).put (40960 + (pa : Int)) 5 := by
    unfold Ct.wr
    rw [if_neg (by omega), if_pos hh]
  rw [e3]
  unfold Ct.put Ct.at' Ct.pl
  dsimp only
  rw [hm, ho.2, hrm, Nat.zero_mul, Nat.zero_add, show (40960 + (pa : Int) - 40960).toNat = pa by omega, Nat.mod_eq_of_lt (by omega)]
  unfold putF
  rw [if_pos ⟨Nat.le_refl _, Nat.lt_succ_self _⟩]
  unfold Mp.keeps
  split <;> rfl
/-- what is loaded from a state is alike -/
theorem alike_loaded {kd rn : Nat} (h : C.Base kd rn N F) (h2 : D.Base kd rn N F) : Alike C (D.loaded C.st) :=
  ⟨by rw [h.n]; exact h2.n.symm, by rw [h.f]; exact h2.f.symm, by rw [h.rm]; exact h2.rm.symm, (Ct.loaded_m (by rw [h2.kd, h.kd])).symm, fun k hk => by
    show _ = (if k < D.rm then C.st (5 + k) else 0)
    rw [if_pos (by rw [h2.rm, ← h.rm]; exact hk), Ct.st_ram]⟩
theorem Alike.trans {C D E : Ct} (h : Alike C D) (k : Alike D E) : Alike C E := ⟨h.n.trans k.n, h.f.trans k.f, h.rm.trans k.rm, h.m.trans k.m, fun j hj => (h.rf j hj).trans (k.rf j (by rw [← h.rm]; exact hj))⟩
theorem Ct.st_u8 (ho : C.Ok) (hs : C.m.Std) (k : Nat) : 0 ≤ C.st k ∧ C.st k ≤ 255 := by
  have hk := C.m.kp_le
  unfold Ct.st catF
  split
  · rename_i h
    have hb := hs.at' k h
    have : hiB C.m.kd k ≤ 255 := by
      have key : ∀ a : Fin 6, ∀ b : Fin 5, hiB a.val b.val ≤ 255 := by decide
      have hkd := hs.kd
      exact key ⟨C.m.kd, by omega⟩ ⟨k, h⟩
    show 0 ≤ ((C.m.rg k : Nat) : Int) ∧ ((C.m.rg k : Nat) : Int) ≤ 255
    omega
  · have := ho (k - 5)
    omega
theorem Ct.Ok.u8 (ho : C.Ok) (k : Nat) : 0 ≤ C.rf k ∧ C.rf k ≤ 255 := by
  have hk := C.m.kp_le
  have := ho k
  omega
/-- New of a box's ROM with what another cartridge kept -/
theorem new_again {ty rm rn : Nat} {sd : Int} {R0 : Rw} {sg sc : Nat} (hN : N = 32768) (hT : Tb W) (hB : Box0 ty rm R0) (hW : By W g N (romF ty 0 rm sd)) (hb : R0.bat = true) (hrn : ramN R0 rm = rn) (hr1 : 1 ≤ rn) (hS : By W sg rn C.rf) (hsc : rn ≤ sc) (hsm : sc ≤ maxLen) (ho : C.Ok) (hkd : C.m.kd = R0.mapper) :
    Calls Tryd.prog 15 #[.slice (some ⟨g, 0, none⟩) N N, .slice (some ⟨sg, 0, none⟩) rn sc] W fun e w' => ∃ A D, e = .returned (.tuple #[.pointer (some ⟨A.cb, 0, none⟩), .int .i64 0]) ∧ Cz W.heap.size w'.heap.size A D w' ∧ D.Base R0.mapper rn N (romF ty 0 rm sd) ∧ Up W w' := by
  subst hN
  have hmp := rowsT_mp R0 hB.mem
  have hkp : (Mp.new R0.mapper).kp = C.m.kp := by unfold Mp.kp; rw [hkd]; rfl
  refine (new_save hS hr1 hsc hsm (fun k => ho.u8 k) hT hW (by decide) (by decide) (Nat.le_refl _) (by decide) (romF_byte _ _ _ _)).mono ?_
  rintro e w' ⟨R, b, mk, hr, hm, u, hcs⟩
  obtain ⟨rfl, hf, e8, e9⟩ := hd_none hB (Hd.refl _) hr hm
  rw [e9] at hcs
  have hsf : SaveFits R (ramN R rm) rn C.rf := ⟨hb, hrn.symm, fun k _ => by rw [hkp]; exact (ho k).2⟩
  rcases hcs with ⟨h1, _⟩ | ⟨_, h1, _⟩ | ⟨_, _, m, A, ht, hc, a1, a2, a3, a4, he⟩
  · exact absurd hf h1
  · exact absurd hsf h1
  · rw [e8] at hc
    refine ⟨A, _, he, Cz.of ⟨hc, u, a1, a2, a3, a4⟩ (fun k => ?_) (Mp.new_std hmp), ⟨rfl, hrn, hb, rfl, rfl⟩, u⟩
    show 0 ≤ C.rf k ∧ C.rf k ≤ ((Mp.new R.mapper).kp : Int)
    rw [hkp]
    exact ho k
/-- New of a box's ROM -/
theorem new_first {ty rm rn : Nat} {sd : Int} {R0 : Rw} (hN : N = 32768) (hT : Tb W) (hB : Box0 ty rm R0) (hW : By W g N (romF ty 0 rm sd)) (hb : R0.bat = true) (hrn : ramN R0 rm = rn) :
    Calls Tryd.prog 15 #[.slice (some ⟨g, 0, none⟩) N N, .slice none 0 0] W fun e w' => ∃ A D, e = .returned (.tuple #[.pointer (some ⟨A.cb, 0, none⟩), .int .i64 0]) ∧ Cz W.heap.size w'.heap.size A D w' ∧ D.Base R0.mapper rn N (romF ty 0 rm sd) ∧ Up W w' := by
  subst hN
  have hmp := rowsT_mp R0 hB.mem
  refine (new_any hT hW (by decide) (by decide) (Nat.le_refl _) (by decide) (romF_byte _ _ _ _)).mono ?_
  rintro e w' ⟨R, b, mk, hr, hm, u, hcs⟩
  obtain ⟨rfl, hf, e8, e9⟩ := hd_none hB (Hd.refl _) hr hm
  rcases hcs with ⟨h1, _⟩ | ⟨_, m, A, ht, hc, a1, a2, a3, a4, he⟩
  · exact absurd hf h1
  · rw [e8, e9] at hc
    exact ⟨A, _, he, Cz.of ⟨hc, u, a1, a2, a3, a4⟩ (fun k => ⟨Int.le_refl 0, Int.natCast_nonneg _⟩) (Mp.new_std hmp), ⟨rfl, hrn, hb, rfl, rfl⟩, u⟩
end Go.Proofs.YtpiboooiofjigaaDoor
