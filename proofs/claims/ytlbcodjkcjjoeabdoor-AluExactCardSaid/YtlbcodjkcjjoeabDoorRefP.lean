/- Plain facts on numbers as rows of bits: sums and differences made column by column are the sums and differences of numbers. No condition. -/
import Derived.Test.YtlbcodjkcjjoeabDoorPlain
namespace Go.Proofs.YtlbcodjkcjjoeabDoor

def bitB (v i : Nat) : Bool := v / 2 ^ i % 2 == 1
def b2n (b : Bool) : Nat := if b then 1 else 0
theorem b2n_le (b : Bool) : b2n b ≤ 1 := by cases b <;> decide
/-- the number of the lowest k bits of a row -/
def numF (f : Nat → Bool) : Nat → Nat
  | 0 => 0
  | k + 1 => numF f k + b2n (f k) * 2 ^ k
/-- the number of m bits from place i on -/
def hiF (f : Nat → Bool) : Nat → Nat → Nat
  | _, 0 => 0
  | i, m + 1 => b2n (f i) + 2 * hiF f (i + 1) m
/-- the carry into column k -/
def carN (a b : Nat) (c : Bool) : Nat → Bool
  | 0 => c
  | k + 1 => decide (1 < b2n (bitB a k) + b2n (bitB b k) + b2n (carN a b c k))
def sumB (a b : Nat) (c : Bool) (k : Nat) : Bool := (b2n (bitB a k) + b2n (bitB b k) + b2n (carN a b c k)) % 2 == 1
/-- the borrow into column k -/
def borN (a b : Nat) (c : Bool) : Nat → Bool
  | 0 => c
  | k + 1 => decide (b2n (bitB a k) < b2n (bitB b k) + b2n (borN a b c k))
def difB (a b : Nat) (c : Bool) (k : Nat) : Bool := (b2n (bitB a k) + b2n (bitB b k) + b2n (borN a b c k)) % 2 == 1

theorem b2n_bit (v k : Nat) : b2n (bitB v k) = v / 2 ^ k % 2 := by
  unfold b2n bitB
  have : v / 2 ^ k % 2 < 2 := Nat.mod_lt _ (by decide)
  split
  · rename_i h; rw [beq_iff_eq] at h; exact h.symm
  · rename_i h; rw [beq_iff_eq] at h; omega
theorem mod_succ (v k : Nat) : v % 2 ^ (k + 1) = v % 2 ^ k + 2 ^ k * b2n (bitB v k) := by rw [b2n_bit]; exact Nat.mod_pow_succ
theorem num_bit (v k : Nat) : numF (bitB v) k = v % 2 ^ k := by
  induction k with
  | zero => simp [numF, Nat.mod_one]
  | succ k ih => rw [numF, ih, mod_succ, Nat.mul_comm]
theorem num_hi (f : Nat → Bool) (i m : Nat) : hiF f i m * 2 ^ i + numF f i = numF f (i + m) := by
  induction m generalizing i with
  | zero => simp [hiF]
  | succ m ih =>
    have := ih (i + 1)
    rw [numF, Nat.pow_succ] at this
    rw [hiF, show i + (m + 1) = i + 1 + m from by omega, ← this, Nat.add_mul]
    have e : 2 * hiF f (i + 1) m * 2 ^ i = hiF f (i + 1) m * (2 ^ i * 2) := by rw [Nat.mul_comm 2, Nat.mul_assoc, Nat.mul_comm 2]
    rw [e]; omega
theorem hi_num (f : Nat → Bool) (n : Nat) : hiF f 0 n = numF f n := by
  have := num_hi f 0 n
  simpa [numF] using this
theorem hiF_lt (f : Nat → Bool) (i m : Nat) : hiF f i m < 2 ^ m := by
  induction m generalizing i with
  | zero => simp [hiF]
  | succ m ih => have := ih (i + 1); have := b2n_le (f i); rw [hiF, Nat.pow_succ]; omega
theorem num_congr (f g : Nat → Bool) (n : Nat) (h : ∀ i, i < n → f i = g i) : numF f n = numF g n := by
  induction n with
  | zero => rfl
  | succ n ih => rw [numF, numF, ih (fun i hi => h i (by omega)), h n (by omega)]
theorem three (x y z : Bool) : (b2n x + b2n y + b2n z) = 2 * b2n (decide (1 < b2n x + b2n y + b2n z)) + b2n ((b2n x + b2n y + b2n z) % 2 == 1) := by
  cases x <;> cases y <;> cases z <;> decide
theorem threeD (x y z : Bool) : b2n x + 2 * b2n (decide (b2n x < b2n y + b2n z)) = b2n y + b2n z + b2n ((b2n x + b2n y + b2n z) % 2 == 1) := by
  cases x <;> cases y <;> cases z <;> decide
theorem sum_is (a b : Nat) (c : Bool) (k : Nat) : numF (sumB a b c) k + 2 ^ k * b2n (carN a b c k) = a % 2 ^ k + b % 2 ^ k + b2n c := by
  induction k with
  | zero => simp [numF, carN, Nat.mod_one]
  | succ k ih =>
    have t := three (bitB a k) (bitB b k) (carN a b c k)
    rw [numF, mod_succ, mod_succ, Nat.pow_succ]
    have hc : carN a b c (k + 1) = decide (1 < b2n (bitB a k) + b2n (bitB b k) + b2n (carN a b c k)) := rfl
    have hs : sumB a b c k = ((b2n (bitB a k) + b2n (bitB b k) + b2n (carN a b c k)) % 2 == 1) := rfl
    rw [hc, hs]
    generalize b2n (decide (1 < b2n (bitB a k) + b2n (bitB b k) + b2n (carN a b c k))) = C at *
    generalize b2n ((b2n (bitB a k) + b2n (bitB b k) + b2n (carN a b c k)) % 2 == 1) = S at *
    generalize b2n (bitB a k) = A at *
    generalize b2n (bitB b k) = B at *
    generalize b2n (carN a b c k) = D at *
    generalize 2 ^ k = P at *
    have e : S = A + B + D - 2 * C := by omega
    have h1 : P * 2 * C + S * P = P * A + P * B + P * D := by
      have : P * (2 * C + S) = P * (A + B + D) := by rw [← t]
      rw [Nat.mul_add, Nat.mul_add, Nat.mul_add, ← Nat.mul_assoc] at this
      rw [Nat.mul_comm S P]; omega
    omega
theorem dif_is (a b : Nat) (c : Bool) (k : Nat) : numF (difB a b c) k + b % 2 ^ k + b2n c = a % 2 ^ k + 2 ^ k * b2n (borN a b c k) := by
  induction k with
  | zero => simp [numF, borN, Nat.mod_one]
  | succ k ih =>
    have t := threeD (bitB a k) (bitB b k) (borN a b c k)
    rw [numF, mod_succ, mod_succ, Nat.pow_succ]
    have hc : borN a b c (k + 1) = decide (b2n (bitB a k) < b2n (bitB b k) + b2n (borN a b c k)) := rfl
    have hs : difB a b c k = ((b2n (bitB a k) + b2n (bitB b k) + b2n (borN a b c k)) % 2 == 1) := rfl
    rw [hc, hs]
    generalize b2n (decide (b2n (bitB a k) < b2n (bitB b k) + b2n (borN a b c k))) = C at *
    generalize b2n ((b2n (bitB a k) + b2n (bitB b k) + b2n (borN a b c k)) % 2 == 1) = S at *
    generalize b2n (bitB a k) = A at *
    generalize b2n (bitB b k) = B at *
    generalize b2n (borN a b c k) = D at *
    generalize 2 ^ k = P at *
    have h1 : P * A + P * 2 * C = P * B + P * D + S * P := by
      have : P * (A + 2 * C) = P * (B + D + S) := by rw [t]
      rw [Nat.mul_add, Nat.mul_add, Nat.mul_add, ← Nat.mul_assoc] at this
      rw [Nat.mul_comm S P]; omega
    omega
theorem num_lt (f : Nat → Bool) (k : Nat) : numF f k < 2 ^ k := by rw [← hi_num]; exact hiF_lt f 0 k
theorem sum_num (a b : Nat) (c : Bool) (k : Nat) : numF (sumB a b c) k = (a % 2 ^ k + b % 2 ^ k + b2n c) % 2 ^ k := by
  rw [← sum_is, Nat.add_mul_mod_self_left, Nat.mod_eq_of_lt (num_lt _ _)]
theorem sum_car (a b : Nat) (c : Bool) (k : Nat) : carN a b c k = decide (2 ^ k ≤ a % 2 ^ k + b % 2 ^ k + b2n c) := by
  have := sum_is a b c k
  have l := num_lt (sumB a b c) k
  cases h : carN a b c k
  · rw [h] at this; symm; apply decide_eq_false; simp [b2n] at *; omega
  · rw [h] at this; symm; apply decide_eq_true; simp [b2n] at *; omega
theorem dif_bor (a b : Nat) (c : Bool) (k : Nat) : borN a b c k = decide (a % 2 ^ k < b % 2 ^ k + b2n c) := by
  have := dif_is a b c k
  have l := num_lt (difB a b c) k
  have m : a % 2 ^ k < 2 ^ k := Nat.mod_lt _ (Nat.two_pow_pos k)
  cases h : borN a b c k
  · rw [h] at this; symm; apply decide_eq_false; simp [b2n] at *; omega
  · rw [h] at this; symm; apply decide_eq_true; simp [b2n] at *; omega
theorem bit_test (v i : Nat) : bitB v i = v.testBit i := by
  unfold bitB; rw [Nat.testBit_eq_decide_div_mod_eq]; rw [Bool.eq_iff_iff]; simp
theorem num_and (a b : Nat) (ha : a < 256) : numF (fun i => bitB a i && bitB b i) 8 = a &&& b := by
  have : (fun i => bitB a i && bitB b i) = bitB (a &&& b) := by funext i; rw [bit_test, bit_test, bit_test, Nat.testBit_and]
  rw [this, num_bit, Nat.mod_eq_of_lt (Nat.lt_of_le_of_lt Nat.and_le_left ha)]
theorem num_xor (a b : Nat) (ha : a < 256) (hb : b < 256) : numF (fun i => bitB a i ^^ bitB b i) 8 = a ^^^ b := by
  have : (fun i => bitB a i ^^ bitB b i) = bitB (a ^^^ b) := by funext i; rw [bit_test, bit_test, bit_test, Nat.testBit_xor]
  rw [this, num_bit, Nat.mod_eq_of_lt (Nat.xor_lt_two_pow (n := 8) ha hb)]
theorem num_or (a b : Nat) (ha : a < 256) (hb : b < 256) : numF (fun i => bitB a i || bitB b i) 8 = a ||| b := by
  have : (fun i => bitB a i || bitB b i) = bitB (a ||| b) := by funext i; rw [bit_test, bit_test, bit_test, Nat.testBit_or]
  rw [this, num_bit, Nat.mod_eq_of_lt (Nat.or_lt_two_pow (n := 8) ha hb)]
end Go.Proofs.YtlbcodjkcjjoeabDoor
