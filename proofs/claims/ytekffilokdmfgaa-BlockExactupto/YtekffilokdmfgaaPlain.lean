/- Plain facts on bytes and flags: the flags of a byte as four truths, what masks leave of them, and what the alu's calls come to as functions of numbers. No condition. -/
import Derived.Laws.Entries
import Derived.Laws.BitsLemmas
import Derived.Laws.BitsAllLaws
namespace Go.Proofs.Ytekffilokdmfgaa

/-- a flag, or 0 -/
def flagI (b : Bool) (x : Int) : Int := if b then x else 0
/-- a byte of flags -/
def flg (z n h c : Bool) : Int := flagI z 128 + flagI n 64 + flagI h 32 + flagI c 16
/-- C of f as a number -/
def cof (f : Int) : Int := f / 16 % 2

/-- every byte -/
theorem byteAll {p : Int → Prop} [DecidablePred p] (h : decide (∀ n : Fin 256, p ((n.val : Nat) : Int)) = true) (x : Int) (h0 : 0 ≤ x) (h1 : x ≤ 255) : p x := by
  have := of_decide_eq_true h ⟨x.toNat, by omega⟩
  simpa [Int.toNat_of_nonneg h0] using this

theorem or3 (z h c : Bool) : bits .or .u8 (bits .or .u8 (flagI z 128) (flagI h 32)) (flagI c 16) = flg z false h c := by
  cases z <;> cases h <;> cases c <;> decide +kernel
theorem orDif (z h c : Bool) : bits .or .u8 (bits .or .u8 (flagI z 128) 64) (bits .or .u8 (flagI h 32) (flagI c 16)) = flg z true h c := by
  cases z <;> cases h <;> cases c <;> decide +kernel
theorem orAnd (z : Bool) : bits .or .u8 (flagI z 128) 32 = flg z false true false := by cases z <;> decide +kernel
theorem orNone (z : Bool) : flagI z 128 = flg z false false false := by cases z <;> decide +kernel
theorem and16 : ∀ x : Int, 0 ≤ x → x ≤ 255 → bits .and .u8 x 16 = flagI (cof x == 1) 16 :=
  byteAll (by decide +kernel)
theorem orInc (z h c : Bool) : bits .or .u8 (bits .or .u8 (flagI z 128) (flagI h 32)) (flagI c 16) = flg z false h c := or3 z h c
theorem orDec (z h c : Bool) : bits .or .u8 (bits .or .u8 (bits .or .u8 (flagI z 128) 64) (flagI h 32)) (flagI c 16) = flg z true h c := by
  cases z <;> cases h <;> cases c <;> decide +kernel
theorem flg_lo (z n h c : Bool) : 0 ≤ flg z n h c := by cases z <;> cases n <;> cases h <;> cases c <;> decide
theorem flg_hi (z n h c : Bool) : flg z n h c ≤ 240 := by cases z <;> cases n <;> cases h <;> cases c <;> decide
theorem cof_flg (z n h c : Bool) : cof (flg z n h c) = flagI c 1 := by cases z <;> cases n <;> cases h <;> cases c <;> decide
theorem cof_lo (f : Int) : 0 ≤ cof f := by unfold cof; omega
theorem cof_hi (f : Int) : cof f ≤ 1 := by unfold cof; omega

theorem and240 : ∀ x : Int, 0 ≤ x → x ≤ 255 → bits .and .u8 x 240 = x / 16 * 16 :=
  byteAll (by decide +kernel)
/-- sums -/
def sumR (a b c : Int) : Int := (a + b + c) % 256
def sumF (a b c : Int) : Int := flg ((a + b + c) % 256 == 0) false (decide (15 < a % 16 + b % 16 + c)) (decide (255 < a + b + c))
/-- differences -/
def difR (a b c : Int) : Int := (a - b - c) % 256
def difF (a b c : Int) : Int := flg ((a - b - c) % 256 == 0) true (decide (a % 16 < b % 16 + c)) (decide (a < b + c))
/-- Arith's result -/
def arR (op a b f : Int) : Int :=
  if op = 0 then sumR a b 0 else if op = 1 then sumR a b (cof f) else if op = 2 then difR a b 0 else if op = 3 then difR a b (cof f)
  else if op = 4 then bits .and .u8 a b else if op = 5 then bits .xor .u8 a b else if op = 6 then bits .or .u8 a b else a
/-- Arith's flags -/
def arF (op a b f : Int) : Int :=
  if op = 0 then sumF a b 0 else if op = 1 then sumF a b (cof f) else if op = 2 then difF a b 0 else if op = 3 then difF a b (cof f)
  else if op = 4 then flg (bits .and .u8 a b == 0) false true false else if op = 5 then flg (bits .xor .u8 a b == 0) false false false
  else if op = 6 then flg (bits .or .u8 a b == 0) false false false else if op = 7 then difF a b 0 else f / 16 * 16
/-- Step -/
def stR (op a _f : Int) : Int := if op = 0 then (a + 1) % 256 else if op = 1 then (a - 1) % 256 else a
def stF (op a f : Int) : Int :=
  if op = 0 then flg ((a + 1) % 256 == 0) false ((a + 1) % 16 == 0) (cof f == 1) else if op = 1 then flg ((a - 1) % 256 == 0) true ((a - 1) % 16 == 15) (cof f == 1) else f / 16 * 16
theorem and128 : ∀ x : Int, 0 ≤ x → x ≤ 255 → bits .and .u8 x 128 = flagI (x / 128 == 1) 128 :=
  byteAll (by decide +kernel)
/-- AddOffset -/
def ofR (sp e : Int) : Int := (sp + e - (if 127 < e then 256 else 0)) % 65536
def ofF (sp e : Int) : Int := flg false false (decide (15 < sp % 16 + e % 16)) (decide (255 < sp % 256 + e))
/-- which of n -/
def pickI (c n : Int) : Int := if c < 0 then (-(c + 1)) % n else c % n
theorem arR_none (op a b f : Int) (h : op < 0 ∨ 8 ≤ op) : arR op a b f = a := by
  unfold arR; simp only [show ¬ op = 0 by omega, show ¬ op = 1 by omega, show ¬ op = 2 by omega, show ¬ op = 3 by omega, show ¬ op = 4 by omega, show ¬ op = 5 by omega, show ¬ op = 6 by omega, if_false]
theorem arF_none (op a b f : Int) (h : op < 0 ∨ 8 ≤ op) : arF op a b f = f / 16 * 16 := by
  unfold arF; simp only [show ¬ op = 0 by omega, show ¬ op = 1 by omega, show ¬ op = 2 by omega, show ¬ op = 3 by omega, show ¬ op = 4 by omega, show ¬ op = 5 by omega, show ¬ op = 6 by omega, show ¬ op = 7 by omega, if_false]
theorem stR_none (op a f : Int) (h : op < 0 ∨ 2 ≤ op) : stR op a f = a := by
  unfold stR; simp only [show ¬ op = 0 by omega, show ¬ op = 1 by omega, if_false]
theorem stF_none (op a f : Int) (h : op < 0 ∨ 2 ≤ op) : stF op a f = f / 16 * 16 := by
  unfold stF; simp only [show ¬ op = 0 by omega, show ¬ op = 1 by omega, if_false]
theorem and4095 (x : Int) (h0 : 0 ≤ x) (h1 : x ≤ 65535) : bits .and .u16 x 4095 = x % 4096 := by
  have := u16_and x 4095 h0 (by omega) (by omega) (by omega)
  rw [this, show ((4095 : Int).toNat) = 2 ^ 12 - 1 from rfl, Nat.and_two_pow_sub_one_eq_mod]
  omega
theorem andNot128 (z n h c : Bool) : bits .andNot .u8 (flg z n h c) 128 = flg false n h c := by
  cases z <;> cases n <;> cases h <;> cases c <;> decide +kernel
theorem signed (e : Int) : 0 ≤ e → e ≤ 255 → IntKind.i8.wrap e = e - (if 127 < e then 256 else 0) :=
  byteAll (p := fun e => IntKind.i8.wrap e = e - (if 127 < e then 256 else 0)) (by decide +kernel) e
theorem ofR_is (sp e : Int) (_h0 : 0 ≤ sp) (_h1 : sp ≤ 65535) (h2 : 0 ≤ e) (h3 : e ≤ 255) :
    IntKind.u16.wrap (sp + IntKind.u16.wrap (IntKind.i8.wrap e)) = ofR sp e := by
  rw [signed e h2 h3, IntKind.wrap_u16, IntKind.wrap_u16]
  unfold ofR
  split <;> omega
theorem ofF_is (sp e : Int) (_h0 : 0 ≤ sp) (_h1 : sp ≤ 65535) (_h2 : 0 ≤ e) (_h3 : e ≤ 255) :
    bits .andNot .u8 (sumF (sp % 256) e 0) 128 = ofF sp e := by
  unfold sumF ofF
  rw [andNot128, show sp % 256 % 16 = sp % 16 from by omega, Int.add_zero, Int.add_zero]
theorem andF16 (z n h c : Bool) : bits .and .u8 (flg z n h c) 16 = flg false false false c := by
  cases z <;> cases n <;> cases h <;> cases c <;> decide +kernel
theorem andF48 (z n h c : Bool) : bits .and .u8 (flg z n h c) 48 = flg false false h c := by
  cases z <;> cases n <;> cases h <;> cases c <;> decide +kernel
theorem andF64 (z n h c : Bool) : bits .and .u8 (flg z n h c) 64 = flg false n false false := by
  cases z <;> cases n <;> cases h <;> cases c <;> decide +kernel
theorem andF96 (z n h c : Bool) : bits .and .u8 (flg z n h c) 96 = flg false n h false := by
  cases z <;> cases n <;> cases h <;> cases c <;> decide +kernel
theorem andF128 (z n h c : Bool) : bits .and .u8 (flg z n h c) 128 = flg z false false false := by
  cases z <;> cases n <;> cases h <;> cases c <;> decide +kernel
theorem andF224 (z n h c : Bool) : bits .and .u8 (flg z n h c) 224 = flg z n h false := by
  cases z <;> cases n <;> cases h <;> cases c <;> decide +kernel
theorem andF31 (z n h c : Bool) : bits .and .u8 (flg z n h c) 31 = flg false false false c := by
  cases z <;> cases n <;> cases h <;> cases c <;> decide +kernel
theorem andF79 (z n h c : Bool) : bits .and .u8 (flg z n h c) 79 = flg false n false false := by
  cases z <;> cases n <;> cases h <;> cases c <;> decide +kernel
theorem andF144 (z n h c : Bool) : bits .and .u8 (flg z n h c) 144 = flg z false false c := by
  cases z <;> cases n <;> cases h <;> cases c <;> decide +kernel
theorem flg_congr {z n h c z' n' h' c' : Bool} (h1 : z = z') (h2 : n = n') (h3 : h = h') (h4 : c = c') : flg z n h c = flg z' n' h' c' := by rw [h1, h2, h3, h4]
theorem flg_c (c : Bool) : flagI c 16 = flg false false false c := by cases c <;> decide
theorem cof_flg1 (z n h c : Bool) : (cof (flg z n h c) == 1) = c := by cases z <;> cases n <;> cases h <;> cases c <;> decide
theorem cof16 (f : Int) (h0 : 0 ≤ f) (h1 : f ≤ 255) : cof (bits .and .u8 f 16) = cof f :=
  byteAll (p := fun f => cof (bits .and .u8 f 16) = cof f) (by decide +kernel) f h0 h1
theorem decEq {p q : Prop} [Decidable p] [Decidable q] (h : p ↔ q) : decide p = decide q := by simp only [h]
theorem beqDec {a b : Int} {q : Prop} [Decidable q] (h : a = b ↔ q) : (a == b) = decide q := by rw [Bool.eq_iff_iff, beq_iff_eq, decide_eq_true_iff]; exact h
theorem beqBeq {a b c d : Int} (h : a = b ↔ c = d) : (a == b) = (c == d) := by rw [Bool.eq_iff_iff, beq_iff_eq, beq_iff_eq]; exact h
theorem sumR_lo (a b c : Int) : 0 ≤ sumR a b c := by unfold sumR; omega
theorem sumR_hi (a b c : Int) : sumR a b c ≤ 255 := by unfold sumR; omega
theorem difR_lo (a b c : Int) : 0 ≤ difR a b c := by unfold difR; omega
theorem difR_hi (a b c : Int) : difR a b c ≤ 255 := by unfold difR; omega
theorem flg_hi' (z n h c : Bool) : flg z n h c ≤ 255 := by have := flg_hi z n h c; omega
theorem u8_lo (op : BinOp) (a b : Int) : 0 ≤ bits op .u8 a b := by
  unfold bits; rw [IntKind.wrap_u8']; omega
theorem u8_hi (op : BinOp) (a b : Int) : bits op .u8 a b ≤ 255 := by
  unfold bits; rw [IntKind.wrap_u8']; omega
theorem arR_lo (op a b f : Int) (h0 : 0 ≤ a) : 0 ≤ arR op a b f := by
  unfold arR
  repeat' split
  all_goals first | exact sumR_lo _ _ _ | exact difR_lo _ _ _ | exact u8_lo _ _ _ | exact h0
theorem arR_hi (op a b f : Int) (h0 : a ≤ 255) : arR op a b f ≤ 255 := by
  unfold arR
  repeat' split
  all_goals first | exact sumR_hi _ _ _ | exact difR_hi _ _ _ | exact u8_hi _ _ _ | exact h0
theorem arF_lo (op a b f : Int) (h0 : 0 ≤ f) : 0 ≤ arF op a b f := by
  unfold arF
  repeat' split
  all_goals first | exact flg_lo _ _ _ _ | omega
theorem arF_hi (op a b f : Int) (h0 : f ≤ 255) : arF op a b f ≤ 255 := by
  unfold arF
  repeat' split
  all_goals first | exact flg_hi' _ _ _ _ | omega
theorem stR_lo (op a f : Int) (h0 : 0 ≤ a) : 0 ≤ stR op a f := by unfold stR; repeat' split <;> omega
theorem stR_hi (op a f : Int) (h0 : a ≤ 255) : stR op a f ≤ 255 := by unfold stR; repeat' split <;> omega
theorem stF_lo (op a f : Int) (h0 : 0 ≤ f) : 0 ≤ stF op a f := by
  unfold stF
  repeat' split
  all_goals first | exact flg_lo _ _ _ _ | omega
theorem stF_hi (op a f : Int) (h0 : f ≤ 255) : stF op a f ≤ 255 := by
  unfold stF
  repeat' split
  all_goals first | exact flg_hi' _ _ _ _ | omega
theorem pickI_lo (c n : Int) (h : 0 < n) : 0 ≤ pickI c n := by
  unfold pickI; split <;> exact Int.emod_nonneg _ (by omega)
theorem pickI_hi (c n : Int) (h : 0 < n) : pickI c n < n := by
  unfold pickI; split <;> exact Int.emod_lt_of_pos _ h
theorem orSh (z c : Bool) : bits .or .u8 (flagI z 128) (flagI c 16) = flg z false false c := by
  cases z <;> cases c <;> decide +kernel
end Go.Proofs.Ytekffilokdmfgaa
