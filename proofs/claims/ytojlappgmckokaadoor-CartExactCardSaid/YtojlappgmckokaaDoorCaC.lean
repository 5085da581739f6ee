/- Cart: the law's bytes: byteAt, sum. -/
import Derived.Test.YtojlappgmckokaaDoorCaB
namespace Go.Proofs.YtojlappgmckokaaDoor
open Go.Shelf Go.RowKit
set_option linter.unusedVariables false
variable {w w' W : World} {g n : Nat} {f : Nat → Int}
/-- what stands at a place of a ROM -/
def byteF (p : Nat) (s : Int) : Int := ((p % 16384 * 13 + p / 16384 * 7 + p / 256 * 3 : Nat) + s) % 256
theorem byteF_lo (p : Nat) (s : Int) : 0 ≤ byteF p s := by unfold byteF; omega
theorem byteF_hi (p : Nat) (s : Int) : byteF p s ≤ 255 := by unfold byteF; omega
set_option maxRecDepth 100000 in
theorem byteAt_any {p : Nat} {s : Int} (hp : p ≤ 4194304) (hs : I64 s) : Calls Tryd.prog 31 #[.int .i64 (p : Int), .int .i64 s] w fun e w' => e = .returned (.int .u8 (byteF p s)) ∧ w' = w := by
  obtain ⟨h1, h2⟩ := hs
  go_enter Tryd.func31, Tryd.ntmps31
  go_wp2
  go_ret
  refine ⟨ret1 ?_, rfl⟩
  unfold wrap64 byteF
  omega
/-- the sum of k bytes from 308 on -/
def sig (f : Nat → Int) : Nat → Int
  | 0 => 0
  | k + 1 => sig f k + f (308 + k)
theorem sig_congr {f f' : Nat → Int} {k : Nat} (h : ∀ j, j < k → f (308 + j) = f' (308 + j)) : sig f k = sig f' k := by
  induction k with
  | zero => rfl
  | succ k ih =>
    show sig f k + f (308 + k) = sig f' k + f' (308 + k)
    rw [ih (fun j hj => h j (by omega)), h k (by omega)]
set_option maxRecDepth 100000 in
set_option maxHeartbeats 1000000 in
theorem lawSum_any {c : Nat} (h : By w g n f) (hn : 512 ≤ n) (hc : n ≤ c) (hm : c ≤ 9223372036854775807) (h8 : ∀ k, 0 ≤ f k ∧ f k ≤ 255) : Calls Tryd.prog 19 #[.slice (some ⟨g, 0, none⟩) n c] w fun e w' => e = .returned (.int .u8 ((231 - sig f 25) % 256)) ∧ w' = w := by
  have HB : Hid (By w g n f) := h
  have H8 : Hid (∀ k, 0 ≤ f k ∧ f k ≤ 255) := h8
  clear h h8
  go_enter Tryd.func19, Tryd.ntmps19
  go_wp2_with fail
  go_loopw [3, 4] (fun S I wr => wr = w ∧ ∃ k : Nat, k ≤ 25 ∧ I = .int .i64 ((308 + k : Nat) : Int) ∧ S = .int .u8 ((0 - sig f k - k) % 256)) (fun _ I _ => 333 - (intOf I).toNat)
  case atStart => exact ⟨rfl, 0, Nat.zero_le _, rfl, rfl⟩
  case round =>
    obtain ⟨hw, k, hk, rfl, rfl⟩ := hrel
    subst hw
    by_cases hlt : k < 25
    · have e1 : ((308 + k : Nat) : Int) ≤ 332 := by omega
      have e2 : ((308 + k : Nat) : Int) < (n : Int) := by omega
      have kc := HB.out.cell (308 + k) (by omega)
      have k8 := H8.out (308 + k)
      have hs : sig f (k + 1) = sig f k + f (308 + k) := rfl
      generalize f (308 + k) = X at *
      generalize sig f k = S at *
      go_wp2_with fail
      go_round
      case rel => exact ⟨by trivial, k + 1, by omega, by go_num, by rw [hs]; congr 1; omega⟩
      case measure => simp [intOf]; omega
    · have e1 : ¬ ((308 + k : Nat) : Int) ≤ 332 := by omega
      obtain rfl : k = 25 := by omega
      go_wp2_with fail
      go_ret
      exact ⟨ret1 (by omega), rfl⟩
end Go.Proofs.YtojlappgmckokaaDoor
