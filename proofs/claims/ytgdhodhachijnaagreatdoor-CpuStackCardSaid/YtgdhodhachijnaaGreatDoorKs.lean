/- CpuStack, plainly. -/
import Derived.Test.YtgdhodhachijnaaGreatDoorLq
namespace Go.Proofs.YtgdhodhachijnaaGreatDoor
open Go.RowKit
set_option linter.unusedVariables false
def skB : List Int := [197, 213, 229, 245, 193, 209, 225, 241]
def skF : Nat → Int := mem1 512 skB
/-- the memory behind k pushes -/
def skM (r : Nat → Int) (S : Int) : Nat → Nat → Int
  | 0 => skF
  | k + 1 => upd (upd (skM r S k) (S - 2 * k - 1).toNat (pHi r k)) (S - 2 * k - 2).toNat (pLo r k)
/-- the registers behind k pulls -/
def skR (r : Nat → Int) : Nat → Nat → Int
  | 0 => r
  | k + 1 => popR (skR r k) k (wordP (pHi r (3 - k)) (pLo r (3 - k)))
def skSt (r : Nat → Int) (S : Int) (ime : Bool) (i : Nat) : Pm :=
  if i ≤ 4 then (bd r (S - 2 * i) (512 + i) ime, skM r S i) else (bd (skR r (i - 4)) (S - 16 + 2 * i) (512 + i) ime, skM r S 4)
def skK (i : Nat) : Nat := if i < 4 then 4 else 3
theorem skF_code (i : Nat) (h : i < 8) : skF (512 + i) = skB.getD i 0 := by
  have := lay_at (fun _ => 0) 512 skB 8 (by decide) i h
  rw [← this, ladr_in 512 i (by decide) (by decide)]
  show skF (512 + i) = skF _
  congr 1
  omega
theorem skF_off (j : Nat) (h : j < 512 ∨ 519 < j) : skF j = 0 := by
  refine lay_off (fun _ => 0) 512 skB j 8 (fun k hk => ?_)
  rw [ladr_in 512 k (by decide) (by decide)]
  omega
variable {r : Nat → Int} {S : Int} {ime : Bool}
theorem skM_low (h0 : 1024 ≤ S) (h1 : S ≤ 65535) (j : Nat) (hj : j < 1000) : ∀ k, k ≤ 4 → skM r S k j = skF j := by
  intro k
  induction k with
  | zero => exact fun _ => rfl
  | succ k ih =>
    intro hk
    show upd (upd (skM r S k) _ _) _ _ j = _
    unfold upd
    rw [if_neg (by omega), if_neg (by omega)]
    exact ih (by omega)
theorem skM_off (h0 : 1024 ≤ S) (h1 : S ≤ 65535) (j : Nat) (hj : S - j < 1 ∨ 8 < S - j) : ∀ k, k ≤ 4 → skM r S k j = skF j := by
  intro k
  induction k with
  | zero => exact fun _ => rfl
  | succ k ih =>
    intro hk
    show upd (upd (skM r S k) _ _) _ _ j = _
    unfold upd
    rw [if_neg (by omega), if_neg (by omega)]
    exact ih (by omega)
theorem skM_lo (h0 : 1024 ≤ S) (h1 : S ≤ 65535) (p : Nat) (hp : p < 4) : ∀ k, p < k → k ≤ 4 → skM r S k (S - 2 * p - 2).toNat = pLo r p := by
  intro k
  induction k with
  | zero => intro h; omega
  | succ k ih =>
    intro h hk
    show upd (upd (skM r S k) _ _) _ _ _ = _
    by_cases e : p = k
    · subst e; unfold upd; rw [if_pos rfl]
    · unfold upd
      rw [if_neg (by omega), if_neg (by omega)]
      exact ih (by omega) (by omega)
theorem skM_hi (h0 : 1024 ≤ S) (h1 : S ≤ 65535) (p : Nat) (hp : p < 4) : ∀ k, p < k → k ≤ 4 → skM r S k (S - 2 * p - 1).toNat = pHi r p := by
  intro k
  induction k with
  | zero => intro h; omega
  | succ k ih =>
    intro h hk
    show upd (upd (skM r S k) _ _) _ _ _ = _
    by_cases e : p = k
    · subst e; unfold upd; rw [if_neg (by omega), if_pos rfl]
    · unfold upd
      rw [if_neg (by omega), if_neg (by omega)]
      exact ih (by omega) (by omega)
theorem pc1_in (x : Int) (h0 : 0 ≤ x) (h1 : x < 65535) : pc1 x = x + 1 := by unfold pc1; omega
theorem sk_push (hr : ∀ k, 0 ≤ r k ∧ r k ≤ 255) (h0 : 1024 ≤ S) (h1 : S ≤ 65535) (i : Nat) (hi : i < 4) : Ins (skSt r S ime i) (skK i) (skSt r S ime (i + 1)) := by
  have e0 : skSt r S ime i = (bd r (S - 2 * i) (512 + i) ime, skM r S i) := by unfold skSt; rw [if_pos (by omega)]
  have e1 : skSt r S ime (i + 1) = (bd r (S - 2 * (i + 1 : Nat)) (512 + (i + 1 : Nat)) ime, skM r S (i + 1)) := by unfold skSt; rw [if_pos (by omega)]
  have e2 : skK i = 4 := by unfold skK; rw [if_pos hi]
  have hc : skM r S i ((512 : Int) + i).toNat = 197 + 16 * i := by
    rw [show ((512 : Int) + i).toNat = 512 + i by omega, skM_low h0 h1 _ (by omega) i (by omega), skF_code i (by omega)]
    have : i = 0 ∨ i = 1 ∨ i = 2 ∨ i = 3 := by omega
    rcases this with rfl | rfl | rfl | rfl <;> rfl
  have h := push_ins (r := r) (sp := S - 2 * i) (ime := ime) i hi hc
  have ph : 0 ≤ pHi r i ∧ pHi r i ≤ 255 := hr _
  have pl : 0 ≤ pLo r i ∧ pLo r i ≤ 255 := hr _
  rw [e0, e1, e2]
  have m : pushM (skM r S i) (S - 2 * i) (pHi r i) (pLo r i) = skM r S (i + 1) := by
    show _ = upd (upd (skM r S i) (S - 2 * i - 1).toNat (pHi r i)) (S - 2 * i - 2).toNat (pLo r i)
    unfold pushM
    rw [show ((S - 2 * i - 1) % 65536) = S - 2 * i - 1 by omega, show ((S - 2 * i - 2) % 65536) = S - 2 * i - 2 by omega, show wordP (pHi r i) (pLo r i) / 256 = pHi r i by unfold wordP; omega, show wordP (pHi r i) (pLo r i) % 256 = pLo r i by unfold wordP; omega]
  rw [m, pc1_in _ (by omega) (by omega), show ((S - 2 * i - 2) % 65536) = S - 2 * (i + 1 : Nat) by omega] at h
  rw [show (512 : Int) + (i + 1 : Nat) = 512 + i + 1 by omega]
  exact h
theorem sk_pop (hr : ∀ k, 0 ≤ r k ∧ r k ≤ 255) (h0 : 1024 ≤ S) (h1 : S ≤ 65535) (i : Nat) (hi : i < 4) : Ins (skSt r S ime (4 + i)) (skK (4 + i)) (skSt r S ime (4 + i + 1)) := by
  have e0 : skSt r S ime (4 + i) = (bd (skR r i) (S - 8 + 2 * i) (516 + i) ime, skM r S 4) := by
    unfold skSt
    by_cases hz : i = 0
    · subst hz; rw [if_pos (by omega)]; simp [skR]
    · rw [if_neg (by omega), show 4 + i - 4 = i by omega, show S - 16 + 2 * ((4 + i : Nat) : Int) = S - 8 + 2 * i by omega, show (512 : Int) + ((4 + i : Nat) : Int) = 516 + i by omega]
  have e1 : skSt r S ime (4 + i + 1) = (bd (skR r (i + 1)) (S - 8 + 2 * (i + 1)) (516 + i + 1) ime, skM r S 4) := by
    unfold skSt
    rw [if_neg (by omega), show 4 + i + 1 - 4 = i + 1 by omega, show S - 16 + 2 * ((4 + i + 1 : Nat) : Int) = S - 8 + 2 * (i + 1) by omega, show (512 : Int) + ((4 + i + 1 : Nat) : Int) = 516 + i + 1 by omega]
  have e2 : skK (4 + i) = 3 := by unfold skK; rw [if_neg (by omega)]
  have hc : skM r S 4 ((516 : Int) + i).toNat = 193 + 16 * i := by
    rw [show ((516 : Int) + i).toNat = 512 + (4 + i) by omega, skM_low h0 h1 _ (by omega) 4 (by omega), skF_code (4 + i) (by omega)]
    have : i = 0 ∨ i = 1 ∨ i = 2 ∨ i = 3 := by omega
    rcases this with rfl | rfl | rfl | rfl <;> rfl
  have hl : skM r S 4 (S - 8 + 2 * i).toNat = pLo r (3 - i) := by
    rw [show (S - 8 + 2 * i).toNat = (S - 2 * (3 - i : Nat) - 2).toNat by omega]
    exact skM_lo h0 h1 (3 - i) (by omega) 4 (by omega) (by omega)
  have hh : skM r S 4 ((S - 8 + 2 * i + 1) % 65536).toNat = pHi r (3 - i) := by
    rw [show ((S - 8 + 2 * i + 1) % 65536).toNat = (S - 2 * (3 - i : Nat) - 1).toNat by omega]
    exact skM_hi h0 h1 (3 - i) (by omega) 4 (by omega) (by omega)
  have h := pop_ins (r := skR r i) (ime := ime) i hi hc hl hh
  have ph : 0 ≤ pHi r (3 - i) ∧ pHi r (3 - i) ≤ 255 := hr _
  have pl : 0 ≤ pLo r (3 - i) ∧ pLo r (3 - i) ≤ 255 := hr _
  rw [e0, e1, e2]
  rw [pc1_in _ (by omega) (by omega), show pHi r (3 - i) % 256 = pHi r (3 - i) by omega, show pLo r (3 - i) % 256 = pLo r (3 - i) by omega, show ((S - 8 + 2 * (i : Int) + 2) % 65536) = S - 8 + 2 * (i + 1) by omega] at h
  exact h
theorem sk_ins (hr : ∀ k, 0 ≤ r k ∧ r k ≤ 255) (h0 : 1024 ≤ S) (h1 : S ≤ 65535) (i : Nat) (hi : i < 8) : Ins (skSt r S ime i) (skK i) (skSt r S ime (i + 1)) := by
  by_cases h : i < 4
  · exact sk_push hr h0 h1 i h
  · have := sk_pop (ime := ime) hr h0 h1 (i - 4) (by omega)
    rw [show 4 + (i - 4) = i by omega] at this
    exact this
theorem skK7 (i : Nat) : skK i ≤ 7 := by unfold skK; split <;> decide
theorem sk_end : skSt r S ime 8 = (bd (skR r 4) S 520 ime, skM r S 4) := by
  unfold skSt
  rw [if_neg (by omega)]
  show (bd (skR r 4) (S - 16 + 2 * 8) 520 ime, _) = _
  rw [show S - 16 + 2 * 8 = S by omega]
theorem sk_start : skSt r S ime 0 = (bd r S 512 ime, skF) := by
  unfold skSt
  rw [if_pos (by omega)]
  show (bd r (S - 2 * 0) 512 ime, skF) = _
  rw [show S - 2 * 0 = S by omega]
theorem sk_regs (hr : ∀ k, 0 ≤ r k ∧ r k ≤ 255) : skR r 4 0 = r 7 ∧ skR r 4 1 = r 6 ∧ skR r 4 2 = r 4 ∧ skR r 4 3 = r 5 ∧ skR r 4 4 = r 2 ∧ skR r 4 5 = r 3 ∧ skR r 4 7 = r 0 ∧ skR r 4 6 = r 1 / 16 * 16 := by
  have b0 := hr 0
  have b1 := hr 1
  have b2 := hr 2
  have b3 := hr 3
  have b4 := hr 4
  have b5 := hr 5
  have b6 := hr 6
  have b7 := hr 7
  refine ⟨?_, ?_, ?_, ?_, ?_, ?_, ?_, ?_⟩
  · show wordP (r 7) (r 6) / 256 = r 7; unfold wordP; omega
  · show wordP (r 7) (r 6) % 256 = r 6; unfold wordP; omega
  · show wordP (r 4) (r 5) / 256 = r 4; unfold wordP; omega
  · show wordP (r 4) (r 5) % 256 = r 5; unfold wordP; omega
  · show wordP (r 2) (r 3) / 256 = r 2; unfold wordP; omega
  · show wordP (r 2) (r 3) % 256 = r 3; unfold wordP; omega
  · show wordP (r 0) (r 1) / 256 = r 0; unfold wordP; omega
  · show wordP (r 0) (r 1) % 256 / 16 * 16 = r 1 / 16 * 16; unfold wordP; omega
theorem sk_byt : ∀ x ∈ skB, 0 ≤ x ∧ x ≤ 255 := by decide
end Go.Proofs.YtgdhodhachijnaaGreatDoor
