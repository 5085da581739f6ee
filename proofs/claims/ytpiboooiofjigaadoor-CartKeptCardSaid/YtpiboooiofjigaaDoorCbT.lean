/- Cart: CartKept, plainly. -/
import Derived.Test.YtpiboooiofjigaaDoorCbS
namespace Go.Proofs.YtpiboooiofjigaaDoor
open Go.Shelf Go.RowKit
set_option linter.unusedVariables false
set_option linter.unusedSimpArgs false
variable {C : Ct} {f h : Nat → Int}
/-- how many of m bytes from 5 on are others -/
def cntF (f h : Nat → Int) : Nat → Nat
  | 0 => 0
  | m + 1 => cntF f h m + (if f (5 + m) = h (5 + m) then 0 else 1)
theorem cntF_zero {m : Nat} (e : ∀ k, k < m → f (5 + k) = h (5 + k)) : cntF f h m = 0 := by
  induction m with
  | zero => rfl
  | succ m ih =>
    unfold cntF
    rw [ih (fun k hk => e k (by omega)), if_pos (e m (by omega))]
theorem cntF_one {m p : Nat} (e : ∀ k, k < m → k ≠ p → f (5 + k) = h (5 + k)) : cntF f h m ≤ 1 := by
  induction m with
  | zero => exact Nat.zero_le _
  | succ m ih =>
    unfold cntF
    by_cases hp : m = p
    · rw [cntF_zero (fun k hk => e k (by omega) (by omega))]
      split <;> omega
    · rw [if_pos (e m (by omega) hp)]
      exact ih (fun k hk => e k (by omega))
theorem cntF_le (f h : Nat → Int) (m : Nat) : cntF f h m ≤ m := by
  induction m with
  | zero => exact Nat.le_refl _
  | succ m ih =>
    unfold cntF
    split <;> omega
/-- a write changes at most one byte of the RAM, and only where the RAM is -/
theorem wr_cnt (C : Ct) (a : Int) (x m : Nat) : cntF (C.wr a x).st C.st m ≤ 1 := by
  refine cntF_one (p := C.at' a) (fun k hk hp => ?_)
  rw [Ct.st_ram, Ct.st_ram]
  unfold Ct.wr
  split
  · rfl
  · split
    · unfold Ct.put
      dsimp only
      exact putF_out _ _ (by omega)
    · rfl
theorem wr_cnt_out {a : Int} {x m : Nat} (hn : ¬ (40960 ≤ a ∧ a < 49152)) : cntF (C.wr a x).st C.st m = 0 := by
  refine cntF_zero (fun k hk => ?_)
  rw [Ct.st_ram, Ct.st_ram]
  unfold Ct.wr
  split
  · rfl
  · rw [if_neg (fun q => hn ⟨q.1, q.2.1⟩)]
/-- a write to the RAM's addresses leaves the registers -/
theorem wr_regs {a : Int} {x k : Nat} (hr : 40960 ≤ a) (hk : k < 5) : (C.wr a x).st k = C.st k := by
  unfold Ct.st catF
  rw [if_pos hk, if_pos hk]
  unfold Ct.wr
  rw [if_neg (by omega)]
  split <;> rfl
theorem wr_m {a : Int} {x : Nat} (hr : 40960 ≤ a) : (C.wr a x).m = C.m := by
  unfold Ct.wr
  rw [if_neg (by omega)]
  split <;> rfl
theorem wr_rm (C : Ct) (a : Int) (x : Nat) : (C.wr a x).rm = C.rm := by
  unfold Ct.wr
  split
  · rfl
  · split <;> rfl
theorem Mp.shows_keeps2 (m : Mp) (x : Int) : m.shows (m.keeps x) = m.shows x := by
  unfold Mp.shows Mp.keeps
  split
  · rw [Int.emod_emod_of_dvd _ (Int.dvd_refl _)]
  · rfl
/-- what is read behind a write to the RAM's addresses -/
theorem wr_read {a : Int} {x : Nat} (h1 : 40960 ≤ a) (h2 : a < 49152) (hx : x ≤ 255) : (C.wr a x).rd a = (x : Int) ∨ (C.wr a x).rd a = (x : Int) % 16 + 240 ∨ ((C.wr a x).rd a = 255 ∧ C.rd a = 255) := by
  by_cases hh : C.here a
  · have e : C.wr a x = C.put a x := by unfold Ct.wr; rw [if_neg (by omega), if_pos hh]
    have hh2 : (C.put a x).here a := hh
    rw [e]
    unfold Ct.rd
    rw [if_neg (by omega), if_neg (by omega), if_neg (by omega), if_pos hh2]
    have e2 : (C.put a x).rf ((C.put a x).at' a) = C.m.keeps (x : Int) := by
      show putF C.rf (C.at' a) 1 (fun _ => C.m.keeps (x : Int)) (C.at' a) = _
      unfold putF
      rw [if_pos ⟨Nat.le_refl _, Nat.lt_succ_self _⟩]
    rw [e2]
    show C.m.shows (C.m.keeps (x : Int)) = _ ∨ C.m.shows (C.m.keeps (x : Int)) = _ ∨ _
    rw [Mp.shows_keeps2]
    unfold Mp.shows
    split
    · exact Or.inr (Or.inl rfl)
    · exact Or.inl rfl
  · have e : C.wr a x = C := by unfold Ct.wr; rw [if_neg (by omega), if_neg hh]
    have e2 : C.rd a = 255 := by
      unfold Ct.rd
      rw [if_neg (by omega), if_neg (by omega), if_neg (by omega), if_neg hh]
    rw [e]
    exact Or.inr (Or.inr ⟨e2, e2⟩)
theorem mod_banks (B banks m at' : Nat) (ha : at' < B) (hb : 1 ≤ banks) : (m * B + at') % (banks * B) = (m % banks) * B + at' := by
  have e : m * B + at' = (banks * B) * (m / banks) + ((m % banks) * B + at') := by
    have h := Nat.div_add_mod m banks
    have h2 : m * B = (banks * (m / banks) + m % banks) * B := by rw [h]
    rw [h2, Nat.add_mul, Nat.mul_right_comm, Nat.add_assoc]
  have hl : (m % banks) * B + at' < banks * B := by
    have h1 : m % banks + 1 ≤ banks := Nat.mod_lt m hb
    have h2 : (m % banks + 1) * B ≤ banks * B := Nat.mul_le_mul_right _ h1
    rw [Nat.add_mul, Nat.one_mul] at h2
    exact Nat.lt_of_lt_of_le (Nat.add_lt_add_left ha _) h2
  rw [e, Nat.mul_add_mod, Nat.mod_eq_of_lt hl]
/-- a byte of the ROM that is read is that of some bank at that place -/
theorem rd_bank {a : Int} (h0 : 0 ≤ a) (h1 : a < 32768) {banks : Nat} (hn : C.n = banks * 16384) (hb : 1 ≤ banks) : ∃ b, b < banks ∧ C.rd a = C.f (b * 16384 + a.toNat % 16384) := by
  unfold Ct.rd
  rw [if_neg (by omega), hn]
  by_cases h2 : a < 16384
  · rw [if_pos h2]
    have ha : a.toNat < 16384 := by omega
    exact ⟨C.m.lower % banks, Nat.mod_lt _ hb, by rw [mod_banks _ _ _ _ ha hb, Nat.mod_eq_of_lt ha]⟩
  · rw [if_neg h2, if_pos h1]
    have ha : a.toNat - 16384 < 16384 := by omega
    have e : a.toNat % 16384 = a.toNat - 16384 := by omega
    exact ⟨C.m.upper % banks, Nat.mod_lt _ hb, by rw [mod_banks _ _ _ _ ha hb, e]⟩
end Go.Proofs.YtpiboooiofjigaaDoor
