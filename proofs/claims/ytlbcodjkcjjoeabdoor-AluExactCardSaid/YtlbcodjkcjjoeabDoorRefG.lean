/- Plain facts: what the reference's rows come to as numbers and flags of bytes. No condition but that bytes are 0 to 255. -/
import Derived.Test.YtlbcodjkcjjoeabDoorRefP
namespace Go.Proofs.YtlbcodjkcjjoeabDoor
set_option linter.unusedVariables false
theorem b2n_cof (f : Int) : ((b2n (f / 16 % 2 == 1) : Nat) : Int) = cof f := by
  unfold cof b2n
  have : f / 16 % 2 = 0 ∨ f / 16 % 2 = 1 := by omega
  rcases this with h | h <;> rw [h] <;> rfl
theorem sumFinR (A B : Nat) (c : Bool) (k : Int) (hk : k = b2n c) (V : Nat) (hV : V = numF (sumB A B c) 8) (hA : A ≤ 255) (hB : B ≤ 255) : (V : Int) = sumR A B k := by
  rw [hV, sum_num, hk]; unfold sumR; omega
theorem sumFinF (A B : Nat) (c : Bool) (k : Int) (hk : k = b2n c) (V : Nat) (hV : V = numF (sumB A B c) 8) (hA : A ≤ 255) (hB : B ≤ 255) :
    flg ((V : Int) == 0) false (carN A B c 4) (carN A B c 8) = sumF A B k := by
  have e := sumFinR A B c k hk V hV hA hB
  rw [e, sum_car, sum_car, hk]
  unfold sumF sumR
  exact flg_congr rfl rfl (decEq (by omega)) (decEq (by omega))
theorem difFinR (A B : Nat) (c : Bool) (k : Int) (hk : k = b2n c) (V : Nat) (hV : V = numF (difB A B c) 8) (hA : A ≤ 255) (hB : B ≤ 255) : (V : Int) = difR A B k := by
  have h := dif_is A B c 8
  have l := num_lt (difB A B c) 8
  have hb := b2n_le (borN A B c 8)
  rw [← hV] at h l
  rw [hk]; unfold difR; omega
theorem difFinF (A B : Nat) (c : Bool) (k : Int) (hk : k = b2n c) (V : Nat) (hV : V = numF (difB A B c) 8) (hA : A ≤ 255) (hB : B ≤ 255) :
    flg ((V : Int) == 0) true (borN A B c 4) (borN A B c 8) = difF A B k := by
  have e := difFinR A B c k hk V hV hA hB
  rw [e, dif_bor, dif_bor, hk]
  unfold difF difR
  exact flg_congr rfl rfl (decEq (by omega)) (decEq (by omega))
theorem andFin (A B V : Nat) (hV : V = numF (fun i => bitB A i && bitB B i) 8) (hA : A ≤ 255) (hB : B ≤ 255) : (V : Int) = bits .and .u8 A B := by
  rw [hV, num_and A B (by omega), u8_and_nat A B (by omega) (by omega)]
theorem xorFin (A B V : Nat) (hV : V = numF (fun i => bitB A i ^^ bitB B i) 8) (hA : A ≤ 255) (hB : B ≤ 255) : (V : Int) = bits .xor .u8 A B := by
  rw [hV, num_xor A B (by omega) (by omega), u8_xor_nat A B (by omega) (by omega)]
theorem orFin (A B V : Nat) (hV : V = numF (fun i => bitB A i || bitB B i) 8) (hA : A ≤ 255) (hB : B ≤ 255) : (V : Int) = bits .or .u8 A B := by
  rw [hV, num_or A B (by omega) (by omega), u8_or_nat A B (by omega) (by omega)]
end Go.Proofs.YtlbcodjkcjjoeabDoor
