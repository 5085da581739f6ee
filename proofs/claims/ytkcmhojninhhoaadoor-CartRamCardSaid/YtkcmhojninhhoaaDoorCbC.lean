/- Cart: CartRam: one place of each bank of RAM. -/
import Derived.Test.YtkcmhojninhhoaaDoorCbB
namespace Go.Proofs.YtkcmhojninhhoaaDoor
open Go.Shelf Go.RowKit
set_option linter.unusedVariables false
set_option linter.unusedSimpArgs false
variable {w w' W : World} {A : Ad} {m : Mp} {B a s : Nat} {V V' : Nat → Int}
/-- a cartridge whose mapper is m: at the place a of the bank j of its RAM stands V j -/
structure Rs (W : World) (A : Ad) (m : Mp) (B a : Nat) (V : Nat → Int) (w : World) : Prop where
  at' : ∃ C, Cx W A C w ∧ C.m = m ∧ 1 ≤ C.rm ∧ (∀ i j, i < B → j < B → (i * 8192 + a) % C.rm = (j * 8192 + a) % C.rm → i = j) ∧ ∀ j, j < B → C.rf ((j * 8192 + a) % C.rm) = V j
  al : a < 8192
theorem Rs.up (h : Rs W A m B a V w) : Up W w := by
  obtain ⟨C, h1, _⟩ := h.at'
  exact h1.up
theorem Rs.more (h : Rs W A m B a V w) (u : Up w w') : Rs W A m B a V w' := by
  obtain ⟨C, h1, h2⟩ := h.at'
  exact ⟨⟨C, h1.more u, h2⟩, h.al⟩
theorem Rs.congr (h : Rs W A m B a V w) (e : ∀ j, j < B → V j = V' j) : Rs W A m B a V' w := by
  obtain ⟨C, h1, h2, h3, h4, h5⟩ := h.at'
  exact ⟨⟨C, h1, h2, h3, h4, fun j hj => (h5 j hj).trans (e j hj)⟩, h.al⟩
theorem Rs.rom {aI : Int} {x : Nat} (aN : Nat) (h : Rs W A m B a V w) (ea : aI = (aN : Int)) (ha : aN < 32768) (hx : x ≤ 255) : Calls Tryd.prog 18 #[.pointer (some ⟨A.cb, 0, none⟩), .int .i64 aI, .int .u8 (x : Int)] w fun e w' => e = .returned (.tuple #[]) ∧ Rs W A (m.set aN x) B a V w' := by
  obtain ⟨C, h1, h2, h3, h4, h5⟩ := h.at'
  have hal := h.al
  subst ea
  have ew : C.wr (aN : Int) x = C.set aN x := by
    unfold Ct.wr
    rw [if_pos ⟨by omega, by omega⟩, Int.toNat_natCast]
  refine (h1.write hx).mono fun e w' ⟨q1, q2⟩ => ⟨q1, ?_⟩
  rw [ew] at q2
  exact ⟨⟨_, q2, by unfold Ct.set; dsimp only; rw [h2], h3, h4, h5⟩, hal⟩
theorem Rs.read {aI : Int} (h : Rs W A m B a V w) (ea : aI = ((40960 + a : Nat) : Int)) (hs : m.seen = true) (hb : m.bank = s) (hB : s < B) : Calls Tryd.prog 17 #[.pointer (some ⟨A.cb, 0, none⟩), .int .i64 aI] w fun e w' => e = .returned (.int .u8 (m.shows (V s))) ∧ Up w w' := by
  obtain ⟨C, h1, h2, h3, h4, h5⟩ := h.at'
  have hal := h.al
  subst ea
  refine h1.read.mono fun e w' ⟨q1, q2⟩ => ⟨?_, q2⟩
  rw [q1]
  unfold Ct.rd
  rw [if_neg (by omega), if_neg (by omega), if_neg (by omega), if_pos ⟨by omega, by omega, h3, by rw [h2]; exact hs⟩, h2]
  unfold Ct.at' Ct.pl
  rw [h2, hb, show (((40960 + a : Nat) : Int) - 40960).toNat = a by omega, h5 s hB]
theorem Rs.readShut {aI : Int} (h : Rs W A m B a V w) (ea : aI = ((40960 + a : Nat) : Int)) (hs : m.seen = false) : Calls Tryd.prog 17 #[.pointer (some ⟨A.cb, 0, none⟩), .int .i64 aI] w fun e w' => e = .returned (.int .u8 255) ∧ Up w w' := by
  obtain ⟨C, h1, h2, h3, h4, h5⟩ := h.at'
  have hal := h.al
  subst ea
  refine h1.read.mono fun e w' ⟨q1, q2⟩ => ⟨?_, q2⟩
  rw [q1]
  unfold Ct.rd
  rw [if_neg (by omega), if_neg (by omega), if_neg (by omega), if_neg (fun hh => by have := hh.2.2.2; rw [h2, hs] at this; exact absurd this (by decide))]
def updF (V : Nat → Int) (s : Nat) (x : Int) : Nat → Int := fun j => if j = s then x else V j
theorem Rs.write {aI : Int} {x : Nat} (h : Rs W A m B a V w) (ea : aI = ((40960 + a : Nat) : Int)) (hs : m.seen = true) (hb : m.bank = s) (hB : s < B) (hx : x ≤ 255) : Calls Tryd.prog 18 #[.pointer (some ⟨A.cb, 0, none⟩), .int .i64 aI, .int .u8 (x : Int)] w fun e w' => e = .returned (.tuple #[]) ∧ Rs W A m B a (updF V s (m.keeps (x : Int))) w' := by
  obtain ⟨C, h1, h2, h3, h4, h5⟩ := h.at'
  have hal := h.al
  subst ea
  have hh : C.here ((40960 + a : Nat) : Int) := ⟨by omega, by omega, h3, by rw [h2]; exact hs⟩
  have ew : C.wr ((40960 + a : Nat) : Int) x = C.put ((40960 + a : Nat) : Int) x := by
    unfold Ct.wr
    rw [if_neg (by omega), if_pos hh]
  refine (h1.write hx).mono fun e w' ⟨q1, q2⟩ => ⟨q1, ?_⟩
  rw [ew] at q2
  refine ⟨⟨_, q2, h2, h3, h4, fun j hj => ?_⟩, hal⟩
  unfold Ct.put Ct.at' Ct.pl
  dsimp only
  rw [h2, hb, show (((40960 + a : Nat) : Int) - 40960).toNat = a by omega]
  unfold putF updF
  by_cases e : j = s
  · subst e
    rw [if_pos ⟨Nat.le_refl _, by show _ < (_ + 1 : Nat); exact Nat.lt_succ_self _⟩, if_pos rfl]
  · rw [if_neg (fun hq => e (h4 j s hj hB (by have h1 := hq.1; have h2 := hq.2; exact Nat.le_antisymm (Nat.le_of_lt_succ h2) h1))), if_neg e]
    exact h5 j hj
theorem Rs.writeShut {aI : Int} {x : Nat} (h : Rs W A m B a V w) (ea : aI = ((40960 + a : Nat) : Int)) (hs : m.seen = false) (hx : x ≤ 255) : Calls Tryd.prog 18 #[.pointer (some ⟨A.cb, 0, none⟩), .int .i64 aI, .int .u8 (x : Int)] w fun e w' => e = .returned (.tuple #[]) ∧ Rs W A m B a V w' := by
  obtain ⟨C, h1, h2, h3, h4, h5⟩ := h.at'
  have hal := h.al
  subst ea
  have hh : ¬ C.here ((40960 + a : Nat) : Int) := fun hh => by have := hh.2.2.2; rw [h2, hs] at this; exact absurd this (by decide)
  have ew : C.wr ((40960 + a : Nat) : Int) x = C := by
    unfold Ct.wr
    rw [if_neg (by omega), if_neg hh]
  refine (h1.write hx).mono fun e w' ⟨q1, q2⟩ => ⟨q1, ?_⟩
  rw [ew] at q2
  exact ⟨⟨_, q2, h2, h3, h4, h5⟩, hal⟩
theorem Rs.romI {aI xI : Int} (aN xN : Nat) (h : Rs W A m B a V w) (ea : aI = (aN : Int)) (ex : xI = (xN : Int)) (ha : aN < 32768) (hx : xN ≤ 255) : Calls Tryd.prog 18 #[.pointer (some ⟨A.cb, 0, none⟩), .int .i64 aI, .int .u8 xI] w fun e w' => e = .returned (.tuple #[]) ∧ Rs W A (m.set aN xN) B a V w' := by
  subst ex
  exact h.rom aN ea ha hx
theorem Rs.writeI {aI xI : Int} (xN : Nat) (h : Rs W A m B a V w) (ea : aI = ((40960 + a : Nat) : Int)) (ex : xI = (xN : Int)) (hs : m.seen = true) (hb : m.bank = s) (hB : s < B) (hx : xN ≤ 255) : Calls Tryd.prog 18 #[.pointer (some ⟨A.cb, 0, none⟩), .int .i64 aI, .int .u8 xI] w fun e w' => e = .returned (.tuple #[]) ∧ Rs W A m B a (updF V s (m.keeps xI)) w' := by
  subst ex
  exact h.write ea hs hb hB hx
theorem Rs.writeShutI {aI xI : Int} (xN : Nat) (h : Rs W A m B a V w) (ea : aI = ((40960 + a : Nat) : Int)) (ex : xI = (xN : Int)) (hs : m.seen = false) (hx : xN ≤ 255) : Calls Tryd.prog 18 #[.pointer (some ⟨A.cb, 0, none⟩), .int .i64 aI, .int .u8 xI] w fun e w' => e = .returned (.tuple #[]) ∧ Rs W A m B a V w' := by
  subst ex
  exact h.writeShut ea hs hx
theorem ne_0 : ∀ x : Int, 0 ≤ x → x ≤ 255 → (x != bits .or .u8 (bits .andNot .u8 x 0) 0) = false := byteAll (by decide +kernel)
theorem ne_240 : ∀ x : Int, 0 ≤ x → x ≤ 255 → (x % 16 + 240 != bits .or .u8 (bits .andNot .u8 x 240) 240) = false := byteAll (by decide +kernel)
theorem eq_0 : ∀ x : Int, 0 ≤ x → x ≤ 255 → (x == bits .or .u8 (bits .andNot .u8 x 0) 0) = true := byteAll (by decide +kernel)
theorem eq_240 : ∀ x : Int, 0 ≤ x → x ≤ 255 → (x % 16 + 240 == bits .or .u8 (bits .andNot .u8 x 240) 240) = true := byteAll (by decide +kernel)
/-- what the law writes into the banks, one by one -/
def vF (n : Nat) (f : Nat → Int) (j : Nat) : Int := if j < n then f j % 256 else ((j : Int) + 1) % 256
theorem vF_in (n : Nat) (f : Nat → Int) (j : Nat) : 0 ≤ vF n f j ∧ vF n f j ≤ 255 := by
  unfold vF
  split <;> omega
def ramV (m : Mp) (n : Nat) (f : Nat → Int) (i : Nat) : Nat → Int := fun j => if j < i then m.keeps (vF n f j) else 0
theorem ramV_next (m : Mp) (n : Nat) (f : Nat → Int) (i j : Nat) : updF (ramV m n f i) i (m.keeps (vF n f i)) j = ramV m n f (i + 1) j := by
  unfold updF ramV
  by_cases e : j = i
  · subst e
    rw [if_pos rfl, if_pos (by omega)]
  · rw [if_neg e]
    by_cases e2 : j < i
    · rw [if_pos e2, if_pos (by omega)]
    · rw [if_neg e2, if_neg (by omega)]
theorem Mp.shows_keeps (m : Mp) (x : Int) : m.shows (m.keeps x) = m.shows x := by
  unfold Mp.shows Mp.keeps
  split
  · rw [Int.emod_emod_of_dvd _ (Int.dvd_refl _)]
  · rfl
end Go.Proofs.YtkcmhojninhhoaaDoor
