/- Plain facts for AluRound: what eight and nine turns come to, at every byte and every F. No condition. -/
import Derived.Test.YtlbcodjkcjjoeaaDoorPlainD
namespace Go.Proofs.YtlbcodjkcjjoeaaDoor
/-- RLC, k times, at most eight -/
def rU : Nat → Int → Int
  | 0, x => x
  | k + 1, x => if k < 8 then shR 0 (rU k x) 0 else rU k x
/-- RRC likewise -/
def rV : Nat → Int → Int
  | 0, x => x
  | k + 1, x => if k < 8 then shR 1 (rV k x) 240 else rV k x
/-- RL once: the byte and the flags -/
def rW1 (p : Int × Int) : Int × Int := (shR 2 p.1 p.2, shF 2 p.1 p.2)
/-- RL, k times -/
def rW : Nat → Int → Int → Int × Int
  | 0, x, c => (x, c)
  | k + 1, x, c => rW1 (rW k x c)
theorem rU_bd (k : Nat) (x : Int) (h0 : 0 ≤ x) (h1 : x ≤ 255) : 0 ≤ rU k x ∧ rU k x ≤ 255 := by
  induction k with
  | zero => exact ⟨h0, h1⟩
  | succ k ih => 
    unfold rU
    split
    · exact ⟨shR_lo _ _ _ ih.1, shR_hi _ _ _ ih.1 ih.2⟩
    · exact ih
theorem rV_bd (k : Nat) (x : Int) (h0 : 0 ≤ x) (h1 : x ≤ 255) : 0 ≤ rV k x ∧ rV k x ≤ 255 := by
  induction k with
  | zero => exact ⟨h0, h1⟩
  | succ k ih => 
    unfold rV
    split
    · exact ⟨shR_lo _ _ _ ih.1, shR_hi _ _ _ ih.1 ih.2⟩
    · exact ih
theorem rW_bd (k : Nat) (x c : Int) (h0 : 0 ≤ x) (h1 : x ≤ 255) (h2 : 0 ≤ c) (h3 : c ≤ 255) : (0 ≤ (rW k x c).1 ∧ (rW k x c).1 ≤ 255) ∧ 0 ≤ (rW k x c).2 ∧ (rW k x c).2 ≤ 255 := by
  induction k with
  | zero => exact ⟨⟨h0, h1⟩, h2, h3⟩
  | succ k ih =>
    have a := shR_lo 2 (rW k x c).1 (rW k x c).2 ih.1.1
    have b := shR_hi 2 (rW k x c).1 (rW k x c).2 ih.1.1 ih.1.2
    have d := shF_lo 2 (rW k x c).1 (rW k x c).2 ih.2.1
    have e := shF_hi 2 (rW k x c).1 (rW k x c).2 ih.2.2
    exact ⟨⟨a, b⟩, d, e⟩
theorem rW_cof (k : Nat) (x c d : Int) (h : cof c = cof d) : rW (k + 1) x c = rW (k + 1) x d := by
  induction k with
  | zero =>
    show (shR 2 x c, shF 2 x c) = (shR 2 x d, shF 2 x d)
    have a : shR 2 x c = shR 2 x d := by show x * 2 % 256 + cof c = x * 2 % 256 + cof d; rw [h]
    have b : shF 2 x c = shF 2 x d := by show flg (shR 2 x c == 0) false false (shO 2 x == 1) = flg (shR 2 x d == 0) false false (shO 2 x == 1); rw [a]
    rw [a, b]
  | succ k ih => show rW1 (rW (k + 1) x c) = rW1 (rW (k + 1) x d); rw [ih]
/-- what is asked ahead of the loop -/
def ahead (x c : Int) : Bool :=
  !(shR 1 (shR 0 x c) c != x) && !(shR 3 (shR 2 x c) (shF 2 x c) != x) && !(bits .and .u8 (shF 3 (shR 2 x c) (shF 2 x c)) 16 != bits .and .u8 c 16)
def rest (x c : Int) : Bool :=
  shR 6 (shR 6 x c) c == x && (shR 6 x c == bits .or .u8 (x * 16 % 256) (x / 16)) && (tuR 5 (tuR 5 x c) (tuF 5 x c) == x) && (tuR 5 x c == bits .xor .u8 IntKind.u8.max x) &&
  (bits .and .u8 (tuF 7 x (tuF 7 x c)) 144 == bits .and .u8 c 144) && (bits .and .u8 (tuF 7 x c) 16 != bits .and .u8 c 16) && (shR 4 x c == arR 0 x x 0) && (bits .and .u8 (shF 4 x c) 144 == bits .and .u8 (arF 0 x x 0) 144) &&
  (shR 7 x c == x / 2) && (shR 5 x c == bits .or .u8 (x / 2) (bits .and .u8 x 128))
theorem pairAll {p : Int → Int → Bool} (h : (∀ m : Fin 16, ∀ n : Fin 256, p ((n.val : Nat) : Int) ((m.val * 16 : Nat) : Int) = true)) (x f : Int) (h0 : 0 ≤ x) (h1 : x ≤ 255) (h2 : 0 ≤ f) (h3 : f ≤ 255) : p x (bits .and .u8 f 240) = true := by
  have := h ⟨(f / 16).toNat, by omega⟩ ⟨x.toNat, by omega⟩
  rw [and240 f h2 h3]
  have e1 : (((⟨x.toNat, by omega⟩ : Fin 256).val : Nat) : Int) = x := by simp; omega
  have e2 : ((((⟨(f / 16).toNat, by omega⟩ : Fin 16).val * 16 : Nat)) : Int) = f / 16 * 16 := by simp; omega
  rw [e1, e2] at this
  exact this
theorem aheadAll : ∀ m : Fin 16, ∀ n : Fin 256, ahead ((n.val : Nat) : Int) ((m.val * 16 : Nat) : Int) = true := by decide +kernel
theorem nineU : ∀ x : Int, 0 ≤ x → x ≤ 255 → (rU 9 x == x) = true := byteAll (by decide +kernel)
theorem nineV : ∀ x : Int, 0 ≤ x → x ≤ 255 → (rV 9 x == x) = true := byteAll (by decide +kernel)
theorem nineW0 : ∀ x : Int, 0 ≤ x → x ≤ 255 → ((rW 9 x 0).1 == x && (bits .and .u8 (rW 9 x 0).2 16 == 0)) = true := byteAll (by decide +kernel)
theorem nineW1 : ∀ x : Int, 0 ≤ x → x ≤ 255 → ((rW 9 x 16).1 == x && (bits .and .u8 (rW 9 x 16).2 16 == 16)) = true := byteAll (by decide +kernel)
theorem nineW (x c : Int) (h0 : 0 ≤ x) (h1 : x ≤ 255) (h2 : 0 ≤ c) (h3 : c ≤ 255) : ((rW 9 x c).1 == x) = true ∧ (bits .and .u8 (rW 9 x c).2 16 == bits .and .u8 c 16) = true := by
  rw [and16 c h2 h3]
  have b0 := cof_lo c
  have b1 := cof_hi c
  by_cases h : cof c = 1
  · rw [rW_cof 8 x c 16 h, h]
    have := nineW1 x h0 h1
    rw [Bool.and_eq_true] at this
    exact this
  · have h : cof c = 0 := by omega
    rw [rW_cof 8 x c 0 h, h]
    have := nineW0 x h0 h1
    rw [Bool.and_eq_true] at this
    exact this
theorem restAll : ∀ m : Fin 16, ∀ n : Fin 256, rest ((n.val : Nat) : Int) ((m.val * 16 : Nat) : Int) = true := by decide +kernel
end Go.Proofs.YtlbcodjkcjjoeaaDoor
