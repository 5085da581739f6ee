/- Block: Sync, Crash, Of. -/
import Derived.Test.YtekffilokdmfgaaBkF
import Derived.StillTailTactics
namespace Go.Proofs.Ytekffilokdmfgaa
open Go.RowKit
set_option linter.unusedVariables false
set_option linter.unusedSimpArgs false
theorem still_of_quiet {P : Program} {ops : Array Oper} {w0 : World} {Q : Act → Prop} : ∀ (l : List Oper) (a : Act), wpQuiet P ops (fun w' => w' = w0) Q l a → wpStill P ops w0 Q l a
  | [], a, h => h
  | o :: rest, a, h => by
    unfold wpQuiet at h
    unfold wpStill
    split
    · rename_i hw
      rw [if_pos hw] at h
      obtain ⟨v, h1, h2⟩ := h
      have h3 := h1 w0 rfl
      have h4 := still_of_quiet rest _ h2
      unfold Oper.quietAt at h3
      unfold Oper.still
      generalize (execOp a.eval o).run P w0 = r at *
      cases r with
      | ok n w' =>
        cases n <;> simp only [Oper.quietUpon] at h3 <;> simp only [Oper.stillUpon]
        case value u =>
          obtain ⟨e1, e2⟩ := h3
          subst e2
          exact ⟨e1, h4⟩
        case skip =>
          obtain ⟨e1, e2⟩ := h3
          subst e2
          exact ⟨e1, h4⟩
        case enter f args =>
          exact ⟨h3.1, v, h3.2, h4⟩
      | _ => simp only [Oper.quietUpon] at h3
    · rename_i hw
      rw [if_neg hw] at h
      exact still_of_quiet rest _ h
theorem wp_still2 {P : Program} {id : Nat} {Q : Exit → Act → World → Prop} {a : Act} {w : World} {l : List Oper} (n : Nat) (hm : P.follows .mixedOrders = true) (hB : Region.lexTailB .any l.toArray n = true)
    (h : ∀ w1, w1 = w.drew → wpQuiet P l.toArray (fun w' => w' = w1) (fun a' => wpList P l.toArray Q (l.drop n) a' w1) (l.take n) a) : (Code.region id l.toArray true).wp P Q a w :=
  wp_region_still_tail n hm hB (still_of_quiet _ _ (h w.drew rfl))
variable {w w' W : World} {g n m o : Nat} {f f' : Nat → Int} {K K' : Nat → Prop} {sb : Nat} {A : Ad} {S : Sto}
/-- the bytes behind the first i of the writes -/
def syncN (l : List PW) (f : Nat → Int) : Nat → Nat → Int
  | 0 => f
  | i + 1 => match l[i]? with
    | some x => putF (syncN l f i) (512 * x.1) 512 x.2
    | none => syncN l f i
theorem syncN_succ {l : List PW} {i : Nat} {x : PW} (h : l[i]? = some x) (f : Nat → Int) : syncN l f (i + 1) = putF (syncN l f i) (512 * x.1) 512 x.2 := by
  show (match l[i]? with | some x => putF (syncN l f i) (512 * x.1) 512 x.2 | none => syncN l f i) = _
  rw [h]
/-- what a pick says: from where on, and how many -/
def spFrom (p : Int) : Nat := if p / 513 % 2 = 0 then 0 else 512 - (p % 513).toNat
def spLen (p : Int) : Nat := (p % 513).toNat
theorem sp_le (p : Int) : spFrom p + spLen p ≤ 512 := by
  unfold spFrom spLen
  have : (p % 513).toNat ≤ 512 := by omega
  split <;> omega
/-- a write that is there in part -/
def tear (f : Nat → Int) (x : PW) (p : Int) : Nat → Int := putF f (512 * x.1 + spFrom p) (spLen p) (fun j => x.2 (spFrom p + j))
/-- the bytes that are left behind the first i of the writes, by the picks -/
def crashN (pk : Nat → Int) (l : List PW) (f : Nat → Int) : Nat → Nat → Int
  | 0 => f
  | i + 1 => match l[i]? with
    | some x => tear (crashN pk l f i) x (pk i)
    | none => crashN pk l f i
theorem crashN_succ {pk : Nat → Int} {l : List PW} {i : Nat} {x : PW} (h : l[i]? = some x) (f : Nat → Int) : crashN pk l f (i + 1) = tear (crashN pk l f i) x (pk i) := by
  show (match l[i]? with | some x => tear (crashN pk l f i) x (pk i) | none => crashN pk l f i) = _
  rw [h]
/-- the i-th pick -/
def pkN (l : Nat) (h : Nat → Int) (i : Nat) : Int := if i < l then (if h i < 0 then -(h i + 1) else h i) else 0
theorem pkN_lo {l : Nat} {h : Nat → Int} {i : Nat} : 0 ≤ pkN l h i := by unfold pkN; split <;> (try split) <;> omega
theorem pkN_hi {l : Nat} {h : Nat → Int} (hh : ∀ k, I64 (h k)) {i : Nat} : pkN l h i ≤ 9223372036854775807 := by
  have := hh i
  unfold I64 at this
  unfold pkN
  split <;> (try split) <;> omega
set_option maxRecDepth 100000 in
theorem pickAt_any {aa : Option Addr} {ab ao pl pc : Nat} {h : Nat → Int} (D : Ints W aa ab ao pl pc h) (i : Nat) (hi : i ≤ 1099511627776) :
    Calls Try.prog 42 #[.slice aa pl pc, .int .i64 (i : Int)] W fun e w' => e = .returned (.int .i64 (pkN pl h i)) ∧ w' = W := by
  have l1 := D.lc
  have l2 : pc ≤ 9223372036854775807 := by have := D.cm; unfold maxLen at this; omega
  by_cases hlt : i < pl
  · have kc := D.cell i hlt
    have hh := D.i64 i
    obtain rfl := D.ad (by omega)
    obtain ⟨h1, h2⟩ := hh
    have d1 : ¬ (pl : Int) ≤ (i : Int) := by omega
    clear D
    by_cases hneg : h i < 0
    · have e : pkN pl h i = -(h i + 1) := by unfold pkN; rw [if_pos hlt, if_pos hneg]
      rw [e]
      clear e
      generalize h i = x at *
      go_enter Try.func42, Try.ntmps42
      go_wp2
      go_ret
      exact ⟨by first | rfl | (simp; done), rfl⟩
    · have e : pkN pl h i = h i := by unfold pkN; rw [if_pos hlt, if_neg hneg]
      rw [e]
      clear e
      generalize h i = x at *
      go_enter Try.func42, Try.ntmps42
      go_wp2
      go_ret
      exact ⟨by first | rfl | (simp; done), rfl⟩
  · have e : pkN pl h i = 0 := by unfold pkN; rw [if_neg hlt]
    have d1 : (pl : Int) ≤ (i : Int) := by omega
    rw [e]
    clear e D
    go_enter Try.func42, Try.ntmps42
    go_wp2
    go_ret
    exact ⟨by first | rfl | (simp; done), rfl⟩
set_option maxRecDepth 100000 in
theorem span_any {p : Int} (h1 : 0 ≤ p) (h2 : p ≤ 9223372036854775807) :
    Calls Try.prog 41 #[.int .i64 p] W fun e w' => e = .returned (.tuple #[.int .i64 (spFrom p : Int), .int .i64 ((spFrom p + spLen p : Nat) : Int)]) ∧ w' = W := by
  have em : p.tmod 513 = p % 513 := Int.tmod_eq_emod_of_nonneg h1
  have ed : p.tdiv 513 = p / 513 := Int.tdiv_eq_ediv_of_nonneg h1
  have e2 : (p / 513).tmod 2 = p / 513 % 2 := Int.tmod_eq_emod_of_nonneg (by omega)
  by_cases hev : p / 513 % 2 = 0
  · have e : spFrom p = 0 := by unfold spFrom; rw [if_pos hev]
    have el : ((spFrom p + spLen p : Nat) : Int) = p % 513 := by rw [e]; unfold spLen; omega
    rw [el, e]
    have b1 : ((p / 513 % 2) == 0) = true := by rw [hev]; rfl
    clear el e hev
    go_enter Try.func41, Try.ntmps41
    go_wp2
    go_ret2
    exact ⟨by first | rfl | (simp; done), rfl⟩
  · have e : ((spFrom p : Nat) : Int) = 512 - p % 513 := by unfold spFrom; rw [if_neg hev]; omega
    have el : ((spFrom p + spLen p : Nat) : Int) = 512 := by unfold spLen at *; omega
    rw [el, e]
    have b1 : ((p / 513 % 2) == 0) = false := beq_eq_false_iff_ne.2 hev
    clear el e hev
    go_enter Try.func41, Try.ntmps41
    go_wp2
    go_ret2
    exact ⟨by first | rfl | (simp; done), rfl⟩
end Go.Proofs.Ytekffilokdmfgaa
