/- Proto, plainly: numbers in bytes, parts, kinds, frames; what is written is read back, and what is read is written so. No condition. -/
import Derived.Test.YtnengokobkehfaaPlain
namespace Go.Proofs.Ytnengokobkehfaa
set_option linter.unusedVariables false
/-- n bytes from o on -/
def bl (f : Nat → Int) (o n : Nat) : List Int := (List.range n).map (fun k => f (o + k))
theorem bl_len (f : Nat → Int) (o n : Nat) : (bl f o n).length = n := by simp [bl]
theorem bl_at {f : Nat → Int} {o n k : Nat} (h : k < n) : (bl f o n)[k]? = some (f (o + k)) := by
  unfold bl
  rw [List.getElem?_map, List.getElem?_range h]
  rfl
theorem bl_add (f : Nat → Int) (o a b : Nat) : bl f o (a + b) = bl f o a ++ bl f (o + a) b := by
  unfold bl
  rw [List.range_add, List.map_append, List.map_map]
  congr 1
  refine List.map_congr_left fun k _ => ?_
  show f (o + (a + k)) = f (o + a + k)
  rw [Nat.add_assoc]
theorem bl_zero (f : Nat → Int) (o : Nat) : bl f o 0 = [] := rfl
theorem bl_one (f : Nat → Int) (o : Nat) : bl f o 1 = [f o] := rfl
theorem bl_snoc (f : Nat → Int) (o n : Nat) : bl f o (n + 1) = bl f o n ++ [f (o + n)] := bl_add f o n 1
theorem bl_congr {f g : Nat → Int} {o p n : Nat} (h : ∀ k, k < n → f (o + k) = g (p + k)) : bl f o n = bl g p n := by
  unfold bl
  exact List.map_congr_left fun k hk => h k (List.mem_range.1 hk)
/-- a byte -/
def U8 (x : Int) : Prop := 0 ≤ x ∧ x ≤ 255
def F8 (f : Nat → Int) : Prop := ∀ k, U8 (f k)
def L8 (l : List Int) : Prop := ∀ x ∈ l, U8 x
theorem bl_u8 {f : Nat → Int} (h : F8 f) (o n : Nat) : L8 (bl f o n) := by
  intro x hx
  obtain ⟨k, _, rfl⟩ := List.mem_map.1 hx
  exact h _
theorem L8.nil : L8 [] := fun x h => by cases h
theorem L8.append {a b : List Int} (h : L8 a) (k : L8 b) : L8 (a ++ b) := fun x hx => (List.mem_append.1 hx).elim (h x) (k x)
theorem L8.left {a b : List Int} (h : L8 (a ++ b)) : L8 a := fun x hx => h x (List.mem_append_left _ hx)
theorem L8.right {a b : List Int} (h : L8 (a ++ b)) : L8 b := fun x hx => h x (List.mem_append_right _ hx)
/-- the number in w bytes at o -/
def num (f : Nat → Int) (o : Nat) : Nat → Int
  | 0 => 0
  | w + 1 => num f o w * 256 + f (o + w)
theorem num_lo {f : Nat → Int} (h : F8 f) (o : Nat) : ∀ w, 0 ≤ num f o w
  | 0 => Int.le_refl _
  | w + 1 => by have := num_lo h o w; have := (h (o + w)).1; unfold num; omega
theorem num_hi {f : Nat → Int} (h : F8 f) (o : Nat) : ∀ w, num f o w < 256 ^ w
  | 0 => by unfold num; decide
  | w + 1 => by have := num_hi h o w; have := (h (o + w)).2; unfold num; rw [Int.pow_succ]; omega
theorem num_hi4 {f : Nat → Int} (h : F8 f) (o w : Nat) (hw : w ≤ 4) : num f o w < 4294967296 := by
  have := num_hi h o w
  have e : (256 : Int) ^ w ≤ 4294967296 := by
    rcases (show w = 0 ∨ w = 1 ∨ w = 2 ∨ w = 3 ∨ w = 4 by omega) with rfl | rfl | rfl | rfl | rfl <;> decide
  omega
theorem num_congr {f g : Nat → Int} {o p : Nat} : ∀ w, (∀ k, k < w → f (o + k) = g (p + k)) → num f o w = num g p w
  | 0, _ => rfl
  | w + 1, h => by unfold num; rw [num_congr w (fun k hk => h k (by omega)), h w (by omega)]
/-- the bytes of a number, the highest first -/
def dg (x : Int) : Nat → List Int
  | 0 => []
  | w + 1 => (x / 256 ^ w % 256) :: dg x w
theorem dg_len (x : Int) : ∀ w, (dg x w).length = w
  | 0 => rfl
  | w + 1 => by simp [dg, dg_len x w]
theorem dg_u8 (x : Int) : ∀ w, L8 (dg x w)
  | 0 => L8.nil
  | w + 1 => by
    intro y hy
    rcases List.mem_cons.1 hy with rfl | h
    · exact ⟨by omega, by omega⟩
    · exact dg_u8 x w y h
/-- what is read where a number was written -/
theorem num_dg {f : Nat → Int} : ∀ (w o : Nat) (x a : Int), bl f o w = dg x w → a * 256 ^ w + num f o w = a * 256 ^ w + x % 256 ^ w := by
  intro w
  induction w with
  | zero => intro o x a _; simp [num]
  | succ w ih =>
    intro o x a h
    -- the number is f o * 256 ^ w + the number at o + 1
    have hs : ∀ v, num f o (v + 1) = f o * 256 ^ v + num f (o + 1) v := by
      intro v
      induction v with
      | zero => simp [num]
      | succ v iv =>
        show num f o (v + 1) * 256 + f (o + (v + 1)) = _
        rw [iv]
        show _ = f o * 256 ^ (v + 1) + (num f (o + 1) v * 256 + f (o + 1 + v))
        rw [Int.pow_succ, show o + (v + 1) = o + 1 + v by omega, Int.add_mul, Int.mul_assoc]
        omega
    have h1 : bl f o (w + 1) = f o :: bl f (o + 1) w := by rw [Nat.add_comm w 1, bl_add]; rfl
    rw [h1] at h
    injection h with h2 h3
    have := ih (o + 1) x 0 h3
    rw [hs w, h2]
    simp only [Int.zero_mul, Int.zero_add] at this
    rw [this, Int.pow_succ]
    congr 1
    have e1 : x % (256 ^ w * 256) = x % 256 ^ w + 256 ^ w * (x / 256 ^ w % 256) := by
      have a := Int.emod_add_mul_ediv x (256 ^ w)
      have b := Int.emod_add_mul_ediv x (256 ^ w * 256)
      have c := Int.emod_add_mul_ediv (x / 256 ^ w) 256
      have d : x / 256 ^ w / 256 = x / (256 ^ w * 256) := Int.ediv_ediv_of_nonneg (Int.le_of_lt (Int.pow_pos (by decide)))
      rw [Int.mul_assoc, ← d] at b
      have c' : 256 ^ w * (x / 256 ^ w) = 256 ^ w * (x / 256 ^ w % 256) + 256 ^ w * (256 * (x / 256 ^ w / 256)) := by rw [← Int.mul_add, c]
      omega
    rw [e1, Int.mul_comm]
    omega
theorem num_of_dg {f : Nat → Int} {w o : Nat} {x : Int} (h : bl f o w = dg x w) (h0 : 0 ≤ x) (h1 : x < 256 ^ w) : num f o w = x := by
  have := num_dg w o x 0 h
  simp only [Int.zero_mul, Int.zero_add] at this
  rw [this, Int.emod_eq_of_lt h0 h1]
theorem dg_mod (x : Int) : ∀ (w : Nat) (a : Int), dg (a * 256 ^ w + x) w = dg x w
  | 0, _ => rfl
  | w + 1, a => by
    unfold dg
    have e : a * 256 ^ (w + 1) + x = (a * 256) * 256 ^ w + x := by rw [Int.pow_succ, Int.mul_assoc, Int.mul_comm 256]
    rw [e, dg_mod x w, Int.add_comm ((a * 256) * 256 ^ w) x, Int.add_mul_ediv_right _ _ (by have : (0:Int) < 256 ^ w := Int.pow_pos (by decide); omega)]
    congr 1
    omega
/-- what is written of a number that was read -/
theorem dg_num {f : Nat → Int} (h : F8 f) : ∀ (w o : Nat), dg (num f o w) w = bl f o w
  | 0, _ => rfl
  | w + 1, o => by
    have hs : ∀ v, num f o (v + 1) = f o * 256 ^ v + num f (o + 1) v := by
      intro v
      induction v with
      | zero => simp [num]
      | succ v iv =>
        show num f o (v + 1) * 256 + f (o + (v + 1)) = _
        rw [iv]
        show _ = f o * 256 ^ (v + 1) + (num f (o + 1) v * 256 + f (o + 1 + v))
        rw [Int.pow_succ, show o + (v + 1) = o + 1 + v by omega, Int.add_mul, Int.mul_assoc]
        omega
    have h1 : bl f o (w + 1) = f o :: bl f (o + 1) w := by rw [Nat.add_comm w 1, bl_add]; rfl
    rw [h1, hs w]
    unfold dg
    rw [dg_mod, dg_num h w (o + 1)]
    congr 1
    have p : (0 : Int) < 256 ^ w := Int.pow_pos (by decide)
    rw [Int.add_comm, Int.add_mul_ediv_right _ _ (by omega), Int.ediv_eq_zero_of_lt (num_lo h _ _) (num_hi h _ _), Int.zero_add]
    have := h o
    unfold U8 at this
    omega
end Go.Proofs.Ytnengokobkehfaa
