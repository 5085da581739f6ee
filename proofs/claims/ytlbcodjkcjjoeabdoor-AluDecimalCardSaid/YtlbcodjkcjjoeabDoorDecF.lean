/- Plain facts for AluDecimal: DAA behind ADC and SBC, at all numbers of two decimal digits. No condition. -/
import Derived.Test.YtlbcodjkcjjoeabDoorPlainD
namespace Go.Proofs.YtlbcodjkcjjoeabDoor
def dec0 (x y : Int) : Bool :=
  (tuR 4 (arR 1 (x / 10 * 16 + x % 10) (y / 10 * 16 + y % 10) 0) (arF 1 (x / 10 * 16 + x % 10) (y / 10 * 16 + y % 10) 0) == (x + y) % 100 / 10 * 16 + (x + y) % 10) &&
  ((bits .and .u8 (tuF 4 (arR 1 (x / 10 * 16 + x % 10) (y / 10 * 16 + y % 10) 0) (arF 1 (x / 10 * 16 + x % 10) (y / 10 * 16 + y % 10) 0)) 16 != 0) == decide (99 < x + y)) &&
  ((bits .and .u8 (tuF 4 (arR 1 (x / 10 * 16 + x % 10) (y / 10 * 16 + y % 10) 0) (arF 1 (x / 10 * 16 + x % 10) (y / 10 * 16 + y % 10) 0)) 128 != 0) == (tuR 4 (arR 1 (x / 10 * 16 + x % 10) (y / 10 * 16 + y % 10) 0) (arF 1 (x / 10 * 16 + x % 10) (y / 10 * 16 + y % 10) 0) == 0)) &&
  (bits .and .u8 (tuF 4 (arR 1 (x / 10 * 16 + x % 10) (y / 10 * 16 + y % 10) 0) (arF 1 (x / 10 * 16 + x % 10) (y / 10 * 16 + y % 10) 0)) 96 == 0) &&
  (tuR 4 (arR 3 (x / 10 * 16 + x % 10) (y / 10 * 16 + y % 10) 0) (arF 3 (x / 10 * 16 + x % 10) (y / 10 * 16 + y % 10) 0) == (x - y + 200) % 100 / 10 * 16 + (x - y + 200) % 10) &&
  ((bits .and .u8 (tuF 4 (arR 3 (x / 10 * 16 + x % 10) (y / 10 * 16 + y % 10) 0) (arF 3 (x / 10 * 16 + x % 10) (y / 10 * 16 + y % 10) 0)) 16 != 0) == decide (x - y < 0)) &&
  (bits .and .u8 (tuF 4 (arR 3 (x / 10 * 16 + x % 10) (y / 10 * 16 + y % 10) 0) (arF 3 (x / 10 * 16 + x % 10) (y / 10 * 16 + y % 10) 0)) 96 == 64) &&
  ((bits .and .u8 (tuF 4 (arR 3 (x / 10 * 16 + x % 10) (y / 10 * 16 + y % 10) 0) (arF 3 (x / 10 * 16 + x % 10) (y / 10 * 16 + y % 10) 0)) 128 != 0) == (tuR 4 (arR 3 (x / 10 * 16 + x % 10) (y / 10 * 16 + y % 10) 0) (arF 3 (x / 10 * 16 + x % 10) (y / 10 * 16 + y % 10) 0) == 0))
def dec1 (x y : Int) : Bool :=
  (tuR 4 (arR 1 (x / 10 * 16 + x % 10) (y / 10 * 16 + y % 10) 16) (arF 1 (x / 10 * 16 + x % 10) (y / 10 * 16 + y % 10) 16) == (x + y + 1) % 100 / 10 * 16 + (x + y + 1) % 10) &&
  ((bits .and .u8 (tuF 4 (arR 1 (x / 10 * 16 + x % 10) (y / 10 * 16 + y % 10) 16) (arF 1 (x / 10 * 16 + x % 10) (y / 10 * 16 + y % 10) 16)) 16 != 0) == decide (99 < x + y + 1)) &&
  ((bits .and .u8 (tuF 4 (arR 1 (x / 10 * 16 + x % 10) (y / 10 * 16 + y % 10) 16) (arF 1 (x / 10 * 16 + x % 10) (y / 10 * 16 + y % 10) 16)) 128 != 0) == (tuR 4 (arR 1 (x / 10 * 16 + x % 10) (y / 10 * 16 + y % 10) 16) (arF 1 (x / 10 * 16 + x % 10) (y / 10 * 16 + y % 10) 16) == 0)) &&
  (bits .and .u8 (tuF 4 (arR 1 (x / 10 * 16 + x % 10) (y / 10 * 16 + y % 10) 16) (arF 1 (x / 10 * 16 + x % 10) (y / 10 * 16 + y % 10) 16)) 96 == 0) &&
  (tuR 4 (arR 3 (x / 10 * 16 + x % 10) (y / 10 * 16 + y % 10) 16) (arF 3 (x / 10 * 16 + x % 10) (y / 10 * 16 + y % 10) 16) == (x - y - 1 + 200) % 100 / 10 * 16 + (x - y - 1 + 200) % 10) &&
  ((bits .and .u8 (tuF 4 (arR 3 (x / 10 * 16 + x % 10) (y / 10 * 16 + y % 10) 16) (arF 3 (x / 10 * 16 + x % 10) (y / 10 * 16 + y % 10) 16)) 16 != 0) == decide (x - y - 1 < 0)) &&
  (bits .and .u8 (tuF 4 (arR 3 (x / 10 * 16 + x % 10) (y / 10 * 16 + y % 10) 16) (arF 3 (x / 10 * 16 + x % 10) (y / 10 * 16 + y % 10) 16)) 96 == 64) &&
  ((bits .and .u8 (tuF 4 (arR 3 (x / 10 * 16 + x % 10) (y / 10 * 16 + y % 10) 16) (arF 3 (x / 10 * 16 + x % 10) (y / 10 * 16 + y % 10) 16)) 128 != 0) == (tuR 4 (arR 3 (x / 10 * 16 + x % 10) (y / 10 * 16 + y % 10) 16) (arF 3 (x / 10 * 16 + x % 10) (y / 10 * 16 + y % 10) 16) == 0))
theorem hundredAll {p : Int → Int → Bool} (h : ∀ m : Fin 100, ∀ n : Fin 100, p ((m.val : Nat) : Int) ((n.val : Nat) : Int) = true) (x y : Int) (h0 : 0 ≤ x) (h1 : x < 100) (h2 : 0 ≤ y) (h3 : y < 100) : p x y = true := by
  have := h ⟨x.toNat, by omega⟩ ⟨y.toNat, by omega⟩
  have e1 : (((⟨x.toNat, by omega⟩ : Fin 100).val : Nat) : Int) = x := by simp; omega
  have e2 : (((⟨y.toNat, by omega⟩ : Fin 100).val : Nat) : Int) = y := by simp; omega
  rw [e1, e2] at this
  exact this
theorem dec0All : ∀ m : Fin 100, ∀ n : Fin 100, dec0 ((m.val : Nat) : Int) ((n.val : Nat) : Int) = true := by decide +kernel
theorem dec1All : ∀ m : Fin 100, ∀ n : Fin 100, dec1 ((m.val : Nat) : Int) ((n.val : Nat) : Int) = true := by decide +kernel
end Go.Proofs.YtlbcodjkcjjoeabDoor
