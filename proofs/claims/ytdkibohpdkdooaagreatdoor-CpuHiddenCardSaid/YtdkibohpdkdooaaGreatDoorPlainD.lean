/- Plain facts on shifts, turns and single bits of a byte. No condition but that bytes are 0 to 255. -/
import Derived.Test.YtdkibohpdkdooaaGreatDoorPlain
namespace Go.Proofs.YtdkibohpdkdooaaGreatDoor

/-- what falls out -/
def shO (op a : Int) : Int := if op = 6 then 0 else if op = 0 ∨ op = 2 ∨ op = 4 then a / 128 else a % 2
/-- Shift -/
def shR (op a f : Int) : Int :=
  if op = 0 then a * 2 % 256 + a / 128 else if op = 1 then a / 2 + a % 2 * 128 else if op = 2 then a * 2 % 256 + cof f else if op = 3 then a / 2 + cof f * 128
  else if op = 4 then a * 2 % 256 else if op = 5 then a / 2 + a / 128 * 128 else if op = 6 then a % 16 * 16 + a / 16 else if op = 7 then a / 2 else a
def shF (op a f : Int) : Int := if op < 0 ∨ 8 ≤ op then f / 16 * 16 else flg (shR op a f == 0) false false (shO op a == 1)
/-- DAA -/
def daHi (a f : Int) : Bool := cof f == 1 || decide (153 < a)
def daLo (a f : Int) : Bool := f / 32 % 2 == 1 || decide (9 < a % 16)
def daSum (a f : Int) : Int := (a + flagI (daHi a f) 96 + flagI (daLo a f) 6) % 256
def daDif (a f : Int) : Int := (a - flagI (cof f == 1) 96 - flagI (f / 32 % 2 == 1) 6) % 256
def daR (a f : Int) : Int := if f / 64 % 2 = 1 then daDif a f else daSum a f
def daF (a f : Int) : Int := if f / 64 % 2 = 1 then flg (daDif a f == 0) true false (cof f == 1) else flg (daSum a f == 0) false false (daHi a f)
/-- Turn -/
def tuR (op a f : Int) : Int := if op < 0 ∨ 8 ≤ op then a else if op < 4 then shR op a f else if op = 4 then daR a f else if op = 5 then 255 - a else a
def tuF (op a f : Int) : Int :=
  if op < 0 ∨ 8 ≤ op then f / 16 * 16 else if op < 4 then flg false false false (shO op a == 1) else if op = 4 then daF a f
  else if op = 5 then flg (f / 128 == 1) true true (cof f == 1) else if op = 6 then flg (f / 128 == 1) false false true else flg (f / 128 == 1) false false (!(cof f == 1))
/-- Bit, Res, Set -/
def biF (n a f : Int) : Int := if n < 0 ∨ 8 ≤ n then f / 16 * 16 else flg (a / 2 ^ n.toNat % 2 == 0) false true (cof f == 1)
def reR (n a : Int) : Int := if n < 0 ∨ 8 ≤ n then a else a - a / 2 ^ n.toNat % 2 * 2 ^ n.toNat
def seR (n a : Int) : Int := if n < 0 ∨ 8 ≤ n then a else a + (1 - a / 2 ^ n.toNat % 2) * 2 ^ n.toNat

theorem fRlc : ∀ a : Int, 0 ≤ a → a ≤ 255 → bits .or .u8 (a * 2 % 256) (a / 128) = a * 2 % 256 + a / 128 := byteAll (by decide +kernel)
theorem fRrc : ∀ a : Int, 0 ≤ a → a ≤ 255 → bits .or .u8 (a / 2) (a * 128 % 256) = a / 2 + a % 2 * 128 := byteAll (by decide +kernel)
theorem fRl0 : ∀ a : Int, 0 ≤ a → a ≤ 255 → bits .or .u8 (a * 2 % 256) 0 = a * 2 % 256 := byteAll (by decide +kernel)
theorem fRl1 : ∀ a : Int, 0 ≤ a → a ≤ 255 → bits .or .u8 (a * 2 % 256) 1 = a * 2 % 256 + 1 := byteAll (by decide +kernel)
theorem fRr0 : ∀ a : Int, 0 ≤ a → a ≤ 255 → bits .or .u8 (a / 2) 0 = a / 2 := byteAll (by decide +kernel)
theorem fRr1 : ∀ a : Int, 0 ≤ a → a ≤ 255 → bits .or .u8 (a / 2) 128 = a / 2 + 128 := byteAll (by decide +kernel)
theorem fSra : ∀ a : Int, 0 ≤ a → a ≤ 255 → bits .or .u8 (a / 2) (bits .and .u8 a 128) = a / 2 + a / 128 * 128 := byteAll (by decide +kernel)
theorem fSwap : ∀ a : Int, 0 ≤ a → a ≤ 255 → bits .or .u8 (a * 16 % 256) (a / 16) = a % 16 * 16 + a / 16 := byteAll (by decide +kernel)
theorem out7 : ∀ a : Int, 0 ≤ a → a ≤ 255 → (bits .and .u8 a 128 != 0) = (a / 128 == 1) := byteAll (by decide +kernel)
theorem out0 : ∀ a : Int, 0 ≤ a → a ≤ 255 → (bits .and .u8 a 1 != 0) = (a % 2 == 1) := byteAll (by decide +kernel)
theorem has64 : ∀ a : Int, 0 ≤ a → a ≤ 255 → (bits .and .u8 a 64 != 0) = (a / 64 % 2 == 1) := byteAll (by decide +kernel)
theorem has32 : ∀ a : Int, 0 ≤ a → a ≤ 255 → (bits .and .u8 a 32 != 0) = (a / 32 % 2 == 1) := byteAll (by decide +kernel)
theorem has16 : ∀ a : Int, 0 ≤ a → a ≤ 255 → (bits .and .u8 a 16 != 0) = (cof a == 1) := byteAll (by decide +kernel)
theorem fRl (a c : Int) (h0 : 0 ≤ a) (h1 : a ≤ 255) (c0 : 0 ≤ c) (c1 : c ≤ 1) : bits .or .u8 (a * 2 % 256) c = a * 2 % 256 + c := by
  have : c = 0 ∨ c = 1 := by omega
  rcases this with rfl | rfl
  · rw [fRl0 a h0 h1, Int.add_zero]
  · exact fRl1 a h0 h1
theorem fRr (a c : Int) (h0 : 0 ≤ a) (h1 : a ≤ 255) (c0 : 0 ≤ c) (c1 : c ≤ 1) : bits .or .u8 (a / 2) (c * 128) = a / 2 + c * 128 := by
  have : c = 0 ∨ c = 1 := by omega
  rcases this with rfl | rfl
  · rw [Int.zero_mul, fRr0 a h0 h1, Int.add_zero]
  · exact fRr1 a h0 h1
theorem orCpl (f : Int) (h0 : 0 ≤ f) (h1 : f ≤ 255) : bits .or .u8 (bits .or .u8 (bits .and .u8 f 144) 64) 32 = flg (f / 128 == 1) true true (cof f == 1) :=
  byteAll (p := fun f => bits .or .u8 (bits .or .u8 (bits .and .u8 f 144) 64) 32 = flg (f / 128 == 1) true true (cof f == 1)) (by decide +kernel) f h0 h1
theorem orScf (f : Int) (h0 : 0 ≤ f) (h1 : f ≤ 255) : bits .or .u8 (bits .and .u8 f 128) 16 = flg (f / 128 == 1) false false true :=
  byteAll (p := fun f => bits .or .u8 (bits .and .u8 f 128) 16 = flg (f / 128 == 1) false false true) (by decide +kernel) f h0 h1
theorem xorCcf (f : Int) (h0 : 0 ≤ f) (h1 : f ≤ 255) : bits .xor .u8 (bits .and .u8 f 144) 16 = flg (f / 128 == 1) false false (!(cof f == 1)) :=
  byteAll (p := fun f => bits .xor .u8 (bits .and .u8 f 144) 16 = flg (f / 128 == 1) false false (!(cof f == 1))) (by decide +kernel) f h0 h1
theorem orBit (z c : Bool) : bits .or .u8 (bits .or .u8 (flagI z 128) 32) (flagI c 16) = flg z false true c := by
  cases z <;> cases c <;> decide +kernel
theorem orDd (z c : Bool) : bits .or .u8 (bits .or .u8 (flagI z 128) 64) (flagI c 16) = flg z true false c := by
  cases z <;> cases c <;> decide +kernel
theorem orDs (z c : Bool) : bits .or .u8 (flagI z 128) (flagI c 16) = flg z false false c := by
  cases z <;> cases c <;> decide +kernel
theorem bitAt (n : Nat) (h : n < 8) (a : Int) (h0 : 0 ≤ a) (h1 : a ≤ 255) : (bits .and .u8 a (2 ^ n) == 0) = (a / 2 ^ n % 2 == 0) := by
  have : n = 0 ∨ n = 1 ∨ n = 2 ∨ n = 3 ∨ n = 4 ∨ n = 5 ∨ n = 6 ∨ n = 7 := by omega
  rcases this with rfl | rfl | rfl | rfl | rfl | rfl | rfl | rfl
  all_goals exact byteAll (p := fun a => (bits .and .u8 a (2 ^ _) == 0) = (a / 2 ^ _ % 2 == 0)) (by decide +kernel) a h0 h1
theorem resAt (n : Nat) (h : n < 8) (a : Int) (h0 : 0 ≤ a) (h1 : a ≤ 255) : bits .andNot .u8 a (2 ^ n) = a - a / 2 ^ n % 2 * 2 ^ n := by
  have : n = 0 ∨ n = 1 ∨ n = 2 ∨ n = 3 ∨ n = 4 ∨ n = 5 ∨ n = 6 ∨ n = 7 := by omega
  rcases this with rfl | rfl | rfl | rfl | rfl | rfl | rfl | rfl
  all_goals exact byteAll (p := fun a => bits .andNot .u8 a (2 ^ _) = a - a / 2 ^ _ % 2 * 2 ^ _) (by decide +kernel) a h0 h1
theorem setAt (n : Nat) (h : n < 8) (a : Int) (h0 : 0 ≤ a) (h1 : a ≤ 255) : bits .or .u8 a (2 ^ n) = a + (1 - a / 2 ^ n % 2) * 2 ^ n := by
  have : n = 0 ∨ n = 1 ∨ n = 2 ∨ n = 3 ∨ n = 4 ∨ n = 5 ∨ n = 6 ∨ n = 7 := by omega
  rcases this with rfl | rfl | rfl | rfl | rfl | rfl | rfl | rfl
  all_goals exact byteAll (p := fun a => bits .or .u8 a (2 ^ _) = a + (1 - a / 2 ^ _ % 2) * 2 ^ _) (by decide +kernel) a h0 h1
theorem shR_none (op a f : Int) (h : op < 0 ∨ 8 ≤ op) : shR op a f = a := by
  unfold shR; simp only [show ¬ op = 0 by omega, show ¬ op = 1 by omega, show ¬ op = 2 by omega, show ¬ op = 3 by omega, show ¬ op = 4 by omega, show ¬ op = 5 by omega, show ¬ op = 6 by omega, show ¬ op = 7 by omega, if_false]
theorem shF_none (op a f : Int) (h : op < 0 ∨ 8 ≤ op) : shF op a f = f / 16 * 16 := by unfold shF; rw [if_pos h]
theorem tuR_none (op a f : Int) (h : op < 0 ∨ 8 ≤ op) : tuR op a f = a := by unfold tuR; rw [if_pos h]
theorem tuF_none (op a f : Int) (h : op < 0 ∨ 8 ≤ op) : tuF op a f = f / 16 * 16 := by unfold tuF; rw [if_pos h]
theorem shR_lo (op a f : Int) (h0 : 0 ≤ a) : 0 ≤ shR op a f := by
  have := cof_lo f
  unfold shR; repeat' split
  all_goals omega
theorem shR_hi (op a f : Int) (h0 : 0 ≤ a) (h1 : a ≤ 255) : shR op a f ≤ 255 := by
  have := cof_hi f
  unfold shR; repeat' split
  all_goals omega
theorem shF_lo (op a f : Int) (h0 : 0 ≤ f) : 0 ≤ shF op a f := by
  unfold shF; split
  · omega
  · exact flg_lo _ _ _ _
theorem shF_hi (op a f : Int) (h0 : f ≤ 255) : shF op a f ≤ 255 := by
  unfold shF; split
  · omega
  · exact flg_hi' _ _ _ _
theorem tuR_lo (op a f : Int) (h0 : 0 ≤ a) (h1 : a ≤ 255) : 0 ≤ tuR op a f := by
  have := shR_lo op a f h0
  unfold tuR daR daDif daSum; repeat' split
  all_goals omega
theorem tuR_hi (op a f : Int) (h0 : 0 ≤ a) (h1 : a ≤ 255) : tuR op a f ≤ 255 := by
  have := shR_hi op a f h0 h1
  unfold tuR daR daDif daSum; repeat' split
  all_goals omega
theorem tuF_lo (op a f : Int) (h0 : 0 ≤ f) : 0 ≤ tuF op a f := by
  unfold tuF daF; repeat' split
  all_goals first | exact flg_lo _ _ _ _ | omega
theorem tuF_hi (op a f : Int) (h0 : f ≤ 255) : tuF op a f ≤ 255 := by
  unfold tuF daF; repeat' split
  all_goals first | exact flg_hi' _ _ _ _ | omega
end Go.Proofs.YtdkibohpdkdooaaGreatDoor
