/- Plain facts: remainders by masks, digits to the base 16. No condition. -/
import Derived.Test.YtmboogkpbcjfoaaDoorTabP
import Derived.Laws.BitsLemmas
import Derived.Laws.BitsAllLaws
namespace Go.Proofs.YtmboogkpbcjfoaaDoor
theorem i64_mask (n : Int) (k : Nat) (hk : k < 63) (m : Int) (hm : m = ((2 ^ k - 1 : Nat) : Int)) : bits .and .i64 n m = n % ((2 ^ k : Nat) : Int) := by
  subst hm
  have hp : 2 ^ k < 2 ^ 63 := Nat.pow_lt_pow_right (by decide) hk
  have hpos : 0 < 2 ^ k := Nat.two_pow_pos k
  have h1 : (BitVec.ofInt 64 ((2 ^ k - 1 : Nat) : Int)).toNat = 2 ^ k - 1 := by
    rw [BitVec.ofInt_natCast, BitVec.toNat_ofNat]; exact Nat.mod_eq_of_lt (by omega)
  have key : (BitVec.ofInt 64 n &&& BitVec.ofInt 64 ((2 ^ k - 1 : Nat) : Int)).toNat = (n % ((2 ^ 64 : Nat) : Int)).toNat % 2 ^ k := by
    rw [BitVec.toNat_and, BitVec.toNat_ofInt, h1, Nat.and_two_pow_sub_one_eq_mod]
  show IntKind.i64.wrap ((BitVec.ofInt 64 n &&& BitVec.ofInt 64 ((2 ^ k - 1 : Nat) : Int)).toNat : Nat) = _
  rw [key, IntKind.wrap_i64]
  have hd : ((2 ^ k : Nat) : Int) ∣ ((2 ^ 64 : Nat) : Int) := Int.natCast_dvd_natCast.2 (Nat.pow_dvd_pow 2 (by omega))
  have hnn : 0 ≤ n % ((2 ^ 64 : Nat) : Int) := Int.emod_nonneg _ (by decide)
  have e1 : (((n % ((2 ^ 64 : Nat) : Int)).toNat % 2 ^ k : Nat) : Int) = n % ((2 ^ k : Nat) : Int) := by
    rw [Int.natCast_emod, Int.toNat_of_nonneg hnn, Int.emod_emod_of_dvd _ hd]
  rw [e1]
  have l1 := Int.emod_nonneg n (show ((2 ^ k : Nat) : Int) ≠ 0 by omega)
  have l2 := Int.emod_lt_of_pos n (show 0 < ((2 ^ k : Nat) : Int) by omega)
  omega
theorem i64_and15 (n : Int) : bits .and .i64 n 15 = n % 16 := i64_mask n 4 (by decide) 15 rfl
theorem i64_and7 (n : Int) : bits .and .i64 n 7 = n % 8 := i64_mask n 3 (by decide) 7 rfl
theorem hexDs1 (v : Int) : hexDs v 1 = hexD (v % 16).toNat :: hexDs v 0 := by
  show hexD (v / 16 ^ 0 % 16).toNat :: hexDs v 0 = _
  rw [show (16 : Int) ^ 0 = 1 from by decide, Int.ediv_one]
theorem hexDs2 (v : Int) : hexDs v 2 = hexD (v / 16 % 16).toNat :: hexDs v 1 := by
  show hexD (v / 16 ^ 1 % 16).toNat :: hexDs v 1 = _
  rw [show (16 : Int) ^ 1 = 16 from by decide]
theorem hexDs3 (v : Int) : hexDs v 3 = hexD (v / 256 % 16).toNat :: hexDs v 2 := by
  show hexD (v / 16 ^ 2 % 16).toNat :: hexDs v 2 = _
  rw [show (16 : Int) ^ 2 = 256 from by decide]
theorem hexDs4 (v : Int) : hexDs v 4 = hexD (v / 4096 % 16).toNat :: hexDs v 3 := by
  show hexD (v / 16 ^ 3 % 16).toNat :: hexDs v 3 = _
  rw [show (16 : Int) ^ 3 = 4096 from by decide]
def hexS : ByteArray := ⟨#[48, 49, 50, 51, 52, 53, 54, 55, 56, 57, 97, 98, 99, 100, 101, 102]⟩
theorem hexD_is (m : Nat) (h : m < 16) (h' : m < (⟨#[48, 49, 50, 51, 52, 53, 54, 55, 56, 57, 97, 98, 99, 100, 101, 102]⟩ : ByteArray).size) : ((⟨#[48, 49, 50, 51, 52, 53, 54, 55, 56, 57, 97, 98, 99, 100, 101, 102]⟩ : ByteArray)[m]'h') = hexD m := by
  have : ∀ n : Fin 16, (⟨#[48, 49, 50, 51, 52, 53, 54, 55, 56, 57, 97, 98, 99, 100, 101, 102]⟩ : ByteArray).data.toList.getD n.val 0 = hexD n.val := by decide
  have h2 := this ⟨m, h⟩
  rw [← h2]
  have h3 : m < (#[48, 49, 50, 51, 52, 53, 54, 55, 56, 57, 97, 98, 99, 100, 101, 102] : Array UInt8).toList.length := h'
  rw [List.getD_eq_getElem?_getD, List.getElem?_eq_getElem h3]
  rfl
theorem bit_is (ys y : Nat) (h : ys < 256) : (bits .and .u8 ((ys : Int) / 2 ^ y) 1 == 1) = (ys / 2 ^ y % 2 == 1) := by
  have e : ((ys : Int) / 2 ^ y) = ((ys / 2 ^ y : Nat) : Int) := by
    rw [Int.natCast_ediv, Int.natCast_pow]; rfl
  have hl : ys / 2 ^ y < 256 := Nat.lt_of_le_of_lt (Nat.div_le_self _ _) h
  rw [e, show (1 : Int) = ((1 : Nat) : Int) from rfl, u8_and_nat _ 1 hl (by decide), Nat.and_one_is_mod]
  rw [Bool.eq_iff_iff, beq_iff_eq, beq_iff_eq]
  omega
end Go.Proofs.YtmboogkpbcjfoaaDoor
