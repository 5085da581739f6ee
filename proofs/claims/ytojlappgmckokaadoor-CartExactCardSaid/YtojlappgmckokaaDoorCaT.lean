/- Cart: a cartridge beside what was there. -/
import Derived.Test.YtojlappgmckokaaDoorCaS
namespace Go.Proofs.YtojlappgmckokaaDoor
open Go.Shelf Go.RowKit
set_option linter.unusedVariables false
set_option linter.unusedSimpArgs false
variable {w w' W : World} {g n : Nat} {f : Nat → Int} {A : Ad} {C : Ct}
/-- a cartridge made behind W: all of W is as it was -/
structure Bn (W : World) (A : Ad) (C : Ct) (w : World) : Prop where
  ct : CtAt w A C
  up : Up W w
  l1 : W.heap.size ≤ A.cb
  l2 : W.heap.size ≤ A.rg
  l3 : W.heap.size ≤ A.rb
  l4 : W.heap.size ≤ A.mb
theorem Bn.more (h : Bn W A C w) (u : Up w w') : Bn W A C w' := ⟨h.ct.up u, h.up.trans u, h.l1, h.l2, h.l3, h.l4⟩
theorem Bn.write {a x : Nat} (h : Bn W A C w) (ha : a < 32768) (hx : x ≤ 255) : Calls Tryd.prog 18 #[.pointer (some ⟨A.cb, 0, none⟩), .int .i64 (a : Int), .int .u8 (x : Int)] w fun e w' => e = .returned (.tuple #[]) ∧ Bn W A (C.set a x) w' :=
  (h.ct.writeRom ha hx).mono fun e w' ⟨h1, h2, h3⟩ => ⟨h1, h2, Fr.up h.up h.l4 h3, h.l1, h.l2, h.l3, h.l4⟩
theorem Bn.readLow {a : Nat} (h : Bn W A C w) (ha : a < 16384) : Calls Tryd.prog 17 #[.pointer (some ⟨A.cb, 0, none⟩), .int .i64 (a : Int)] w fun e w' => e = .returned (.int .u8 (C.f ((C.m.lower * 16384 + a) % C.n))) ∧ Bn W A C w' :=
  (h.ct.readLow ha).mono fun e w' ⟨h1, h2⟩ => ⟨h1, h.more h2⟩
theorem Bn.readHigh {a : Nat} (h : Bn W A C w) (ha : a < 16384) : Calls Tryd.prog 17 #[.pointer (some ⟨A.cb, 0, none⟩), .int .i64 ((a + 16384 : Nat) : Int)] w fun e w' => e = .returned (.int .u8 (C.f ((C.m.upper * 16384 + a) % C.n))) ∧ Bn W A C w' :=
  (h.ct.readHigh ha).mono fun e w' ⟨h1, h2⟩ => ⟨h1, h.more h2⟩
theorem Bn.writeI {a x : Int} (aN xN : Nat) (h : Bn W A C w) (ea : a = (aN : Int)) (ex : x = (xN : Int)) (ha : aN < 32768) (hx : xN ≤ 255) : Calls Tryd.prog 18 #[.pointer (some ⟨A.cb, 0, none⟩), .int .i64 a, .int .u8 x] w fun e w' => e = .returned (.tuple #[]) ∧ Bn W A (C.set aN xN) w' := by
  rw [ea, ex]
  exact h.write ha hx
/-- a cartridge whose banks are told: bank 0, then bank k of a ROM F -/
structure Seen (W : World) (A : Ad) (F : Nat → Int) (N k : Nat) (w : World) : Prop where
  at' : ∃ C, Bn W A C w ∧ C.f = F ∧ C.n = N ∧ C.m.lower = 0 ∧ C.m.upper = k
  nk : (k + 1) * 16384 ≤ N
theorem Seen.up {F : Nat → Int} {N k : Nat} (h : Seen W A F N k w) : Up W w := by
  obtain ⟨C, h1, _⟩ := h.at'
  exact h1.up
theorem Seen.more {F : Nat → Int} {N k : Nat} (h : Seen W A F N k w) (u : Up w w') : Seen W A F N k w' := by
  obtain ⟨C, h1, h2⟩ := h.at'
  exact ⟨⟨C, h1.more u, h2⟩, h.nk⟩
theorem Seen.low {F : Nat → Int} {N k : Nat} {a : Int} (aN : Nat) (h : Seen W A F N k w) (ea : a = (aN : Int)) (ha : aN < 16384) : Calls Tryd.prog 17 #[.pointer (some ⟨A.cb, 0, none⟩), .int .i64 a] w fun e w' => e = .returned (.int .u8 (F aN)) ∧ Up w w' := by
  obtain ⟨C, h1, h2, h3, h4, h5⟩ := h.at'
  have hn := h.nk
  rw [ea]
  refine (h1.ct.readLow ha).mono fun e w' ⟨q1, q2⟩ => ⟨?_, q2⟩
  rw [q1, h2, h3, h4, Nat.zero_mul, Nat.zero_add, Nat.mod_eq_of_lt (by omega)]
theorem Seen.high {F : Nat → Int} {N k : Nat} {a : Int} (aN : Nat) (h : Seen W A F N k w) (ea : a = (aN : Int) + 16384) (ha : aN < 16384) : Calls Tryd.prog 17 #[.pointer (some ⟨A.cb, 0, none⟩), .int .i64 a] w fun e w' => e = .returned (.int .u8 (F (16384 * k + aN))) ∧ Up w w' := by
  obtain ⟨C, h1, h2, h3, h4, h5⟩ := h.at'
  have hn := h.nk
  rw [show a = ((aN + 16384 : Nat) : Int) by omega]
  refine (h1.ct.readHigh ha).mono fun e w' ⟨q1, q2⟩ => ⟨?_, q2⟩
  rw [q1, h2, h3, h5, Nat.mod_eq_of_lt (by omega)]
  congr 3
  omega
/-- New of a box's ROM -/
theorem new_box {ty rc rm N : Nat} {sd : Int} {R0 : Rw} (hT : Tb W) (hB : By W g N (romF ty rc rm sd)) (hN : N = 32768 * 2 ^ rc) (hR0 : R0 ∈ rowsT) (hk : R0.kind = ty) (h1 : ty ≤ 255) (h2 : rc ≤ 6) (h3 : rm ≤ 255) (hb : 2 * 2 ^ rc ≤ R0.banks) (hlo : R0.lo ≤ rm) (hhi : rm ≤ R0.hi) :
    Calls Tryd.prog 15 #[.slice (some ⟨g, 0, none⟩) N N, .slice none 0 0] W fun e w' => ∃ A m, e = .returned (.tuple #[.pointer (some ⟨A.cb, 0, none⟩), .int .i64 0]) ∧ TitleIs (romF ty rc rm sd) m ∧ Bn W A (ctNew (romF ty rc rm sd) N m R0 rc rm) w' := by
  have hN1 : 32768 ≤ N ∧ N ≤ 2097152 := by
    have : rc = 0 ∨ rc = 1 ∨ rc = 2 ∨ rc = 3 ∨ rc = 4 ∨ rc = 5 ∨ rc = 6 := by omega
    rcases this with rfl | rfl | rfl | rfl | rfl | rfl | rfl <;> subst hN <;> decide
  refine (new_any hT hB hN1.1 hN1.2 (Nat.le_refl _) (by omega) (romF_byte _ _ _ _)).mono ?_
  rintro e w' ⟨R, b, mk, hr, hm, u, hcs⟩
  obtain ⟨rfl, hf, e8, e9⟩ := fault_none hR0 hk h1 h2 h3 hb hN hlo hhi hr hm
  rcases hcs with ⟨h, _⟩ | ⟨_, m, A, ht, hc, a1, a2, a3, a4, he⟩
  · exact absurd hf h
  · rw [e8, e9] at hc
    exact ⟨A, m, he, ht, hc, u, a1, a2, a3, a4⟩
/-- banks that are seen -/
theorem bank_at {k n a banks : Nat} (hn : n = banks * 16384) (hk : k < banks) (ha : a < 16384) : (k * 16384 + a) % n = 16384 * k + a := by
  rw [Nat.mod_eq_of_lt]
  · omega
  · have : (k + 1) * 16384 ≤ banks * 16384 := Nat.mul_le_mul_right _ hk
    omega
theorem lower_zero {m : Mp} (h : m.mode = 0) : m.lower = 0 := by
  unfold Mp.lower
  rw [if_pos h]
  split <;> rfl
end Go.Proofs.YtojlappgmckokaaDoor
