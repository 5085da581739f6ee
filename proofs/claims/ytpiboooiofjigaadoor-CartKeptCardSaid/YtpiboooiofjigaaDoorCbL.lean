/- Cart: cartridges side by side. -/
import Derived.Test.YtpiboooiofjigaaDoorCbK
namespace Go.Proofs.YtpiboooiofjigaaDoor
open Go.Shelf Go.RowKit
set_option linter.unusedVariables false
set_option linter.unusedSimpArgs false
variable {w w' W : World} {lo hi : Nat} {A : Ad} {C : Ct}
/-- outside of a stretch of blocks -/
def Off (lo hi k : Nat) : Prop := k < lo ∨ hi ≤ k
/-- a cartridge whose blocks lie in a stretch -/
structure Cz (lo hi : Nat) (A : Ad) (C : Ct) (w : World) : Prop where
  ct : CtAt w A C
  ok : C.Ok
  std : C.m.Std
  l1 : lo ≤ A.cb ∧ A.cb < hi
  l2 : lo ≤ A.rg ∧ A.rg < hi
  l3 : lo ≤ A.rb ∧ A.rb < hi
  l4 : C.m.kd = 0 ∨ (lo ≤ A.mb ∧ A.mb < hi)
theorem Cz.up (h : Cz lo hi A C w) (u : Up w w') : Cz lo hi A C w' := ⟨h.ct.up u, h.ok, h.std, h.l1, h.l2, h.l3, h.l4⟩
theorem Cz.keep {K : Nat → Prop} (h : Cz lo hi A C w) (f : FK K w w') (hK : ∀ k, lo ≤ k → k < hi → K k) : Cz lo hi A C w' := by
  obtain ⟨c, ok, sd, l1, l2, l3, l4⟩ := h
  refine ⟨⟨(f.block A.cb (heap_at c.blk) (hK _ l1.1 l1.2)).trans c.blk, c.rom.of_block (f.block A.rg c.rom.lt (hK _ l2.1 l2.2)), c.ram.of_block (f.block A.rb c.ram.lt (hK _ l3.1 l3.2)), ?_, c.inn, c.n1, c.n2, c.nc, c.rc, c.rm, c.d1, c.d2, c.d3, c.d4, c.d5, c.d6⟩, ok, sd, l1, l2, l3, l4⟩
  rcases c.mp with ⟨h1, h2⟩ | ⟨h1, h2, h3⟩
  · exact Or.inl ⟨h1, h2⟩
  · have hk : lo ≤ A.mb ∧ A.mb < hi := l4.resolve_left (by omega)
    exact Or.inr ⟨h1, h2, (f.block A.mb (heap_at h3) (hK _ hk.1 hk.2)).trans h3⟩
theorem Cz.of (h : Bn W A C w) (ok : C.Ok) (sd : C.m.Std) : Cz W.heap.size w.heap.size A C w :=
  ⟨h.ct, ok, sd, ⟨h.l1, heap_at h.ct.blk⟩, ⟨h.l2, h.ct.rom.lt⟩, ⟨h.l3, h.ct.ram.lt⟩, h.ct.mp.lt.imp id (fun q => ⟨h.l4, q⟩)⟩
theorem Cz.read {a : Int} (h : Cz lo hi A C w) : Calls Tryd.prog 17 #[.pointer (some ⟨A.cb, 0, none⟩), .int .i64 a] w fun e w' => e = .returned (.int .u8 (C.rd a)) ∧ Up w w' :=
  Cx.read (W := { w with heap := #[] }) ⟨⟨h.ct, ⟨rfl, rfl, Nat.zero_le _, fun k hk => absurd hk (Nat.not_lt_zero k)⟩, Nat.zero_le _, Nat.zero_le _, Nat.zero_le _, Nat.zero_le _⟩, h.ok⟩
theorem Ct.wr_kd (C : Ct) (a : Int) (x : Nat) : (C.wr a x).m.kd = C.m.kd := by
  unfold Ct.wr
  split
  · exact Mp.set_kd _ _ _
  · split <;> rfl
theorem Ct.wr_std {a : Int} {x : Nat} (h : C.m.Std) (hx : x ≤ 255) : (C.wr a x).m.Std := by
  unfold Ct.wr
  split
  · exact Mp.set_std h hx
  · split
    · exact h
    · exact h
theorem CtAt.writeRomK {a x : Nat} (h : CtAt W A C) (ha : a < 32768) (hx : x ≤ 255) : Calls Tryd.prog 18 #[.pointer (some ⟨A.cb, 0, none⟩), .int .i64 (a : Int), .int .u8 (x : Int)] W fun e w' => e = .returned (.tuple #[]) ∧ CtAt w' A (C.set a x) ∧ FK (fun k => C.m.kd = 0 ∨ k ≠ A.mb) W w' := by
  by_cases hk : C.m.kd = 0
  · have k8 : W.cell? ⟨A.cb, 8, none⟩ = some A.v := heap_cell h.blk rfl
    have hin := Mp.set_in h.inn (a := a) hx
    rcases h.mp with ⟨_, hv⟩ | ⟨hk2, _⟩
    · rw [hv] at k8
      refine writeRom_0 k8 ha (fun w' hp => hp) (set_0.mono fun e w' ⟨h1, h2⟩ => ⟨h1, h1, h.changed (Fr.ofUp h2) hin ?_, FK.ofUp h2⟩)
      exact Or.inl ⟨by rw [Mp.set_kd]; exact hk, hv⟩
    · omega
  · exact (h.writeRom ha hx).mono fun e w' ⟨q1, q2, q3⟩ => ⟨q1, q2, FK.ofFr q3 (fun h => h.elim hk (fun h => h rfl))⟩
theorem Cz.offK (h : Cz lo hi A C w) {k : Nat} (hk : Off lo hi k) : A.K C.m.kd k := by
  have h3 := h.l3
  refine ⟨fun e => ?_, ?_⟩
  · rcases hk with q | q <;> omega
  · rcases h.l4 with q | q
    · exact Or.inl q
    · refine Or.inr (fun e => ?_)
      rcases hk with p | p <;> omega
theorem Cz.write {a : Int} {x : Nat} (h : Cz lo hi A C w) (hx : x ≤ 255) : Calls Tryd.prog 18 #[.pointer (some ⟨A.cb, 0, none⟩), .int .i64 a, .int .u8 (x : Int)] w fun e w' => e = .returned (.tuple #[]) ∧ Cz lo hi A (C.wr a x) w' ∧ FK (Off lo hi) w w' := by
  have fin : ∀ {w' : World}, CtAt w' A (C.wr a x) → Cz lo hi A (C.wr a x) w' := fun c => ⟨c, h.ok.wr hx, Ct.wr_std h.std hx, h.l1, h.l2, h.l3, by rw [Ct.wr_kd]; exact h.l4⟩
  by_cases h0 : 0 ≤ a ∧ a < 32768
  · have e : C.wr a x = C.set a.toNat x := by unfold Ct.wr; rw [if_pos h0]
    obtain ⟨n, rfl⟩ := Int.eq_ofNat_of_zero_le h0.1
    rw [Int.toNat_natCast] at e
    refine (h.ct.writeRomK (by omega) hx).mono fun e' w' ⟨q1, q2, q3⟩ => ⟨q1, fin (by rw [e]; exact q2), q3.mono (fun k _ hk => (h.offK hk).2)⟩
  · by_cases h3 : C.here a
    · have e : C.wr a x = C.put a x := by unfold Ct.wr; rw [if_neg h0, if_pos h3]
      obtain ⟨n, hn⟩ := Int.eq_ofNat_of_zero_le (show 0 ≤ a - 40960 by have := h3.1; omega)
      obtain rfl : a = ((40960 + n : Nat) : Int) := by omega
      refine (h.ct.writeRam h3.2.2.1 (by have := h3.2.1; omega) h3.2.2.2 hx).mono fun e' w' ⟨q1, q2, q3⟩ => ⟨q1, fin (by rw [e]; exact q2), (FK.ofFr q3 (K := A.K C.m.kd) (fun h => h.1 rfl)).mono (fun k _ hk => h.offK hk)⟩
    · have e : C.wr a x = C := by unfold Ct.wr; rw [if_neg h0, if_neg h3]
      obtain ⟨pl, hp⟩ := h.ct.ramOut h3
      exact (write_none (by omega) hp).mono fun e' w' ⟨q1, q2⟩ => ⟨q1, fin (by rw [e]; exact h.ct.up q2), FK.ofUp q2⟩
theorem Cz.state (h : Cz lo hi A C w) : Calls Tryd.prog 22 #[.pointer (some ⟨A.cb, 0, none⟩)] w (Cop w (5 + C.rm) C.st) := h.ct.state h.std
theorem Cz.save (h : Cz lo hi A C w) (hb : C.bat = true) : Calls Tryd.prog 24 #[.pointer (some ⟨A.cb, 0, none⟩)] w (Cop w C.rm C.rf) := h.ct.save hb
theorem Mp.std_of_f {m : Mp} {f : Nat → Int} (hk : m.kd = 0 ∨ m.kd = 1 ∨ m.kd = 2 ∨ m.kd = 3 ∨ m.kd = 5) (h : ∀ k, k < 5 → (loB m.kd k : Int) ≤ f k ∧ f k ≤ (hiB m.kd k : Int)) : (⟨m.kd, (f 0).toNat, (f 1).toNat, (f 2).toNat, (f 3).toNat, (f 4).toNat⟩ : Mp).Std := by
  have q0 := h 0 (by decide)
  have q1 := h 1 (by decide)
  have q2 := h 2 (by decide)
  have q3 := h 3 (by decide)
  have q4 := h 4 (by decide)
  exact ⟨hk, by show loB m.kd 0 ≤ (f 0).toNat ∧ (f 0).toNat ≤ hiB m.kd 0; omega, by show loB m.kd 1 ≤ (f 1).toNat ∧ (f 1).toNat ≤ hiB m.kd 1; omega, by show loB m.kd 2 ≤ (f 2).toNat ∧ (f 2).toNat ≤ hiB m.kd 2; omega, by show loB m.kd 3 ≤ (f 3).toNat ∧ (f 3).toNat ≤ hiB m.kd 3; omega, by show loB m.kd 4 ≤ (f 4).toNat ∧ (f 4).toNat ≤ hiB m.kd 4; omega⟩
theorem Cz.loadOk {n c ab ao : Nat} {aa : Option Addr} {f : Nat → Int} (h : Cz lo hi A C w) (hL : Byts w aa ab ao n c f) (hn : n = 5 + C.rm) (hn1 : 1 ≤ C.rm) (hfit : ∀ k, k < C.rm → f (5 + k) ≤ (C.m.kp : Int)) (hreg : ∀ k, k < 5 → (loB C.m.kd k : Int) ≤ f k ∧ f k ≤ (hiB C.m.kd k : Int)) (d : Off lo hi ab) : Calls Tryd.prog 20 #[.pointer (some ⟨A.cb, 0, none⟩), .slice aa n c] w fun e w' => e = .returned (.int .i64 0) ∧ Cz lo hi A (C.loaded f) w' ∧ FK (Off lo hi) w w' := by
  refine (h.ct.loadOk hL hn hn1 hfit hreg h.std.kd (h.offK d)).mono fun e w' ⟨q1, q2, q3⟩ => ⟨q1, ⟨q2, ?_, Mp.std_of_f h.std.kd hreg, h.l1, h.l2, h.l3, h.l4⟩, q3.mono (fun k _ hk => h.offK hk)⟩
  intro k
  show 0 ≤ (if k < C.rm then f (5 + k) else 0) ∧ (if k < C.rm then f (5 + k) else 0) ≤ (C.m.kp : Int)
  split
  · rename_i hk
    exact ⟨(hL.u8 _).1, hfit k hk⟩
  · exact ⟨Int.le_refl 0, Int.natCast_nonneg _⟩
/-- what a state tells, loaded again -/
theorem Ct.st_reg {C D : Ct} (h : C.m.Std) (e : D.m.kd = C.m.kd) : ∀ k, k < 5 → (loB D.m.kd k : Int) ≤ C.st k ∧ C.st k ≤ (hiB D.m.kd k : Int) := by
  intro k hk
  have := h.at' k hk
  unfold Ct.st catF
  rw [if_pos hk, e]
  show _ ≤ ((C.m.rg k : Nat) : Int) ∧ ((C.m.rg k : Nat) : Int) ≤ _
  omega
theorem Ct.st_ram (C : Ct) (k : Nat) : C.st (5 + k) = C.rf k := by
  unfold Ct.st catF
  rw [if_neg (by omega)]
  congr 1
  omega
theorem Ct.loaded_m {C D : Ct} (e : D.m.kd = C.m.kd) : (D.loaded C.st).m = C.m := by
  obtain ⟨hd, ty, mpr, bk, rm, bat, n, f, rf, ⟨kd, on, low, high, pick, mode⟩⟩ := C
  have e : D.m.kd = kd := e
  show (⟨D.m.kd, _, _, _, _, _⟩ : Mp) = _
  rw [e]
  rfl
/-- alike: what is read is the same -/
structure Alike (C D : Ct) : Prop where
  n : C.n = D.n
  f : C.f = D.f
  rm : C.rm = D.rm
  m : C.m = D.m
  rf : ∀ k, k < C.rm → C.rf k = D.rf k
theorem Alike.rd {C D : Ct} (h : Alike C D) (a : Int) : C.rd a = D.rd a := by
  unfold Ct.rd
  rw [h.m, h.n, h.f]
  have e : C.here a ↔ D.here a := by unfold Ct.here; rw [h.rm, h.m]
  by_cases hh : C.here a
  · rw [if_pos hh, if_pos (e.1 hh)]
    have hp : C.at' a = D.at' a := by unfold Ct.at' Ct.pl; rw [h.m, h.rm]
    rw [← hp, h.rf (C.at' a) (Ct.pl_lt hh.2.2.1)]
  · rw [if_neg hh, if_neg (fun q => hh (e.2 q))]
theorem Alike.symm {C D : Ct} (h : Alike C D) : Alike D C := ⟨h.n.symm, h.f.symm, h.rm.symm, h.m.symm, fun k hk => (h.rf k (by rw [h.rm]; exact hk)).symm⟩
theorem Alike.st {C D : Ct} (h : Alike C D) (k : Nat) (hk : k < 5 + C.rm) : C.st k = D.st k := by
  unfold Ct.st catF
  rw [h.m]
  split
  · rfl
  · exact h.rf _ (by omega)
end Go.Proofs.YtpiboooiofjigaaDoor
