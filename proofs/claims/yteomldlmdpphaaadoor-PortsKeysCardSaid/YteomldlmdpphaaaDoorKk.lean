/- PortsKeys, plainly. -/
import Derived.Test.YteomldlmdpphaaaDoorPpR
namespace Go.Proofs.YteomldlmdpphaaaDoor
open Go.RowKit
set_option linter.unusedVariables false
variable {b : Nat} {p : Po}
def kf (ro bu : Int) : Int := if ro = 48 then 15 else if ro = 32 then 15 - bu % 16 else if ro = 16 then 15 - bu / 16 else 15 - bits .or .u8 (bu % 16) (bu / 16)
theorem Po.keys_kf (p : Po) : p.keys = kf p.ro p.bu := rfl
theorem keysThen_ro (p q : Po) : (p.keysThen q).ro = q.ro ∧ (p.keysThen q).bu = q.bu := by
  unfold Po.keysThen
  split <;> exact ⟨rfl, rfl⟩
theorem and48r (R : Int) (h0 : 0 ≤ R) (h1 : R < 4) : bits .and .u8 (R * 16) 48 = R * 16 := by
  have : R = 0 ∨ R = 1 ∨ R = 2 ∨ R = 3 := by omega
  rcases this with rfl | rfl | rfl | rfl <;> decide
theorem rq16 : ∀ x : Int, 0 ≤ x → x ≤ 255 → (bits .and .i64 (bits .andNot .u8 x 16) 16 != 0) = false ∧ (bits .and .i64 (bits .or .u8 (bits .andNot .u8 x 16) 16) 16 != 0) = true := byteAll (by decide +kernel)
theorem or15 : ∀ x : Int, 0 ≤ x → x ≤ 255 → 0 ≤ bits .or .u8 (x % 16) (x / 16) ∧ bits .or .u8 (x % 16) (x / 16) ≤ 15 := byteAll (by decide +kernel)
theorem kf_b (r x : Int) (h0 : 0 ≤ x) (h1 : x ≤ 255) : 0 ≤ kf r x ∧ kf r x ≤ 15 := by
  have := or15 x h0 h1
  unfold kf
  repeat' split
  all_goals omega
/-- is a key down, by what is read -/
def downB (R k : Int) (n : Nat) : Bool := bits .and .i64 ((192 + R * 16 + k) / 2 ^ n) 1 == 0
def fellB (R ka kc : Int) : Nat → Bool
  | 0 => false
  | n + 1 => fellB R ka kc n || (downB R kc n && !downB R ka n)
theorem fell4' : ∀ (R : Fin 4) (a c : Fin 16), fellB ((R.val : Nat) : Int) ((a.val : Nat) : Int) ((c.val : Nat) : Int) 4 = (bits .andNot .u8 ((a.val : Nat) : Int) ((c.val : Nat) : Int) != 0) := by decide +kernel
theorem fell4 (R a c : Int) (r0 : 0 ≤ R) (r1 : R < 4) (a0 : 0 ≤ a) (a1 : a ≤ 15) (c0 : 0 ≤ c) (c1 : c ≤ 15) : fellB R a c 4 = (bits .andNot .u8 a c != 0) := by
  have := fell4' ⟨R.toNat, by omega⟩ ⟨a.toNat, by omega⟩ ⟨c.toNat, by omega⟩
  simpa [Int.toNat_of_nonneg r0, Int.toNat_of_nonneg a0, Int.toNat_of_nonneg c0] using this
theorem and240' : ∀ (R : Fin 4) (a : Fin 16), (bits .and .i64 (192 + ((R.val : Nat) : Int) * 16 + ((a.val : Nat) : Int)) 240 == 192 + ((R.val : Nat) : Int) * 16) = true := by decide +kernel
theorem and240r (R a : Int) (r0 : 0 ≤ R) (r1 : R < 4) (a0 : 0 ≤ a) (a1 : a ≤ 15) : (bits .and .i64 (192 + R * 16 + a) 240 == 192 + R * 16) = true := by
  have := and240' ⟨R.toNat, by omega⟩ ⟨a.toNat, by omega⟩
  simpa [Int.toNat_of_nonneg r0, Int.toNat_of_nonneg a0] using this
def bt (A : Int) (n : Nat) : Bool := bits .and .i64 (A / 2 ^ n) 1 == 1
theorem down0 (n : Nat) (hn : n < 4) : ∀ A : Int, 0 ≤ A → A ≤ 255 → downB 0 (kf (0 * 16) A) n = (bt A n || bt A (4 + n)) := by
  have : n = 0 ∨ n = 1 ∨ n = 2 ∨ n = 3 := by omega
  rcases this with rfl | rfl | rfl | rfl <;> exact byteAll (by decide +kernel)
theorem down1 (n : Nat) (hn : n < 4) : ∀ A : Int, 0 ≤ A → A ≤ 255 → downB 1 (kf (1 * 16) A) n = bt A (4 + n) := by
  have : n = 0 ∨ n = 1 ∨ n = 2 ∨ n = 3 := by omega
  rcases this with rfl | rfl | rfl | rfl <;> exact byteAll (by decide +kernel)
theorem down2 (n : Nat) (hn : n < 4) : ∀ A : Int, 0 ≤ A → A ≤ 255 → downB 2 (kf (2 * 16) A) n = bt A n := by
  have : n = 0 ∨ n = 1 ∨ n = 2 ∨ n = 3 := by omega
  rcases this with rfl | rfl | rfl | rfl <;> exact byteAll (by decide +kernel)
theorem down3 (n : Nat) (hn : n < 4) : ∀ A : Int, 0 ≤ A → A ≤ 255 → downB 3 (kf (3 * 16) A) n = false := by
  have : n = 0 ∨ n = 1 ∨ n = 2 ∨ n = 3 := by omega
  rcases this with rfl | rfl | rfl | rfl <;> exact byteAll (by decide +kernel)
/-- what is read behind the first buttons, and behind the second ones; and whether they are asked for -/
theorem keys_plain (q : Po) (o : q.Ok) (R A C : Int) (r0 : 0 ≤ R) (r1 : R < 4) (a0 : 0 ≤ A) (a1 : A ≤ 255) (c0 : 0 ≤ C) (c1 : C ≤ 255) (q2 q3 q4 : Po) (h2 : (q.wr 0 (R * 16)).keysThen { q.wr 0 (R * 16) with bu := A } = q2) (h3 : q2.take 4 = q3) (h4 : q3.keysThen { q3 with bu := C } = q4) :
    q2.rd 0 = 192 + R * 16 + kf (R * 16) A ∧ q4.rd 0 = 192 + R * 16 + kf (R * 16) C ∧ (bits .and .i64 q4.rq 16 != 0) = (bits .andNot .u8 (kf (R * 16) A) (kf (R * 16) C) != 0) := by
  have o1 := o.wr 0 (R * 16) (by omega) (by omega)
  have e1 : (q.wr 0 (R * 16)).ro = R * 16 := by
    show (q.keysThen { q with ro := bits .and .u8 (R * 16) 48 }).ro = R * 16
    rw [(keysThen_ro _ _).1]
    exact and48r R r0 r1
  generalize q.wr 0 (R * 16) = q1 at *
  have o2 : q2.Ok := by rw [← h2]; exact Po.Ok.keysThen (o1.press A a0 a1)
  have e2 : q2.ro = R * 16 := by rw [← h2, (keysThen_ro _ _).1]; exact e1
  have f2 : q2.bu = A := by rw [← h2, (keysThen_ro _ _).2]
  have o3 : q3.Ok := by rw [← h3]; exact o2.take 4
  have e3 : q3.ro = R * 16 := by rw [← h3]; exact e2
  have f3 : q3.bu = A := by rw [← h3]; exact f2
  have o4 : q4.Ok := by rw [← h4]; exact Po.Ok.keysThen (o3.press C c0 c1)
  have e4 : q4.ro = R * 16 := by rw [← h4, (keysThen_ro _ _).1]; exact e3
  have f4 : q4.bu = C := by rw [← h4, (keysThen_ro _ _).2]
  refine ⟨?_, ?_, ?_⟩
  · show q2.btn = _
    rw [Po.btn_eq o2, Po.keys_kf, e2, f2]
  · show q4.btn = _
    rw [Po.btn_eq o4, Po.keys_kf, e4, f4]
  · have k3 : q3.keys = kf (R * 16) A := by rw [Po.keys_kf, e3, f3]
    have k4 : ({ q3 with bu := C } : Po).keys = kf (R * 16) C := by rw [Po.keys_kf]; show kf q3.ro C = _; rw [e3]
    have x3 : q3.rq = bits .andNot .u8 q2.rq 16 := by rw [← h3]; rfl
    have t := rq16 q2.rq o2.rq.1 (by have := o2.rq.2; omega)
    rw [← h4]
    unfold Po.keysThen
    rw [k3, k4]
    split
    · rename_i e
      rw [e]
      show (bits .and .i64 q3.rq 16 != 0) = _
      rw [x3, t.1]
      rfl
    · rename_i e
      show (bits .and .i64 (bits .or .u8 q3.rq 16) 16 != 0) = _
      rw [x3, t.2]
      exact (bne_iff_ne.2 e).symm
end Go.Proofs.YteomldlmdpphaaaDoor
