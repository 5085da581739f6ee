/- Clocks that go by, plainly: many at once, and one by one. -/
import Derived.Test.YteomldlmdpphaaaDoorPoY
namespace Go.Proofs.YteomldlmdpphaaaDoor
open Go.RowKit
set_option linter.unusedVariables false
variable {p : Po}
/-- clocks that go by at once -/
def Po.pass (p : Po) (c : Int) : Po := ((p.passAl c).count c).passTr c
def Po.passZ (p : Po) (c : Int) (zs : List Int) : List Int := ((p.passAl c).count c).trZ c zs
structure Po.Fit (p : Po) (m : Int) : Prop where
  al : p.al = 0 ∨ m ≤ p.al
  un : p.until = 0 ∨ m ≤ p.until
  tr : p.tr = 0 ∨ m ≤ p.tr
theorem m1_b (c l : Int) (h : 0 < c) : 1 ≤ m1 c l ∧ m1 c l ≤ c ∧ (l ≤ 0 ∨ m1 c l ≤ l) := by
  unfold m1
  split <;> omega
theorem Po.soon_b (o : p.Ok) (c : Int) (h : 0 < c) : 1 ≤ p.soon c 3 ∧ p.soon c 3 ≤ c ∧ p.Fit (p.soon c 3) := by
  have a0 := o.al.1
  have t0 := o.tr.1
  have u0 := (Po.until_b o).1
  show 1 ≤ m1 (m1 (m1 c p.al) p.until) p.tr ∧ m1 (m1 (m1 c p.al) p.until) p.tr ≤ c ∧ p.Fit (m1 (m1 (m1 c p.al) p.until) p.tr)
  have h1 := m1_b c p.al h
  have h2 := m1_b (m1 c p.al) p.until (by omega)
  have h3 := m1_b (m1 (m1 c p.al) p.until) p.tr (by omega)
  refine ⟨by omega, by omega, ⟨by omega, by omega, by omega⟩⟩
theorem Po.passAl_tr (p : Po) (c : Int) : (p.passAl c).tr = p.tr := by
  unfold Po.passAl
  split
  · rfl
  · split <;> rfl
theorem Po.passAl_ct (p : Po) (c : Int) : (p.passAl c).ct = p.ct ∧ (p.passAl c).co = p.co := by
  unfold Po.passAl
  split
  · exact ⟨rfl, rfl⟩
  · split <;> exact ⟨rfl, rfl⟩
theorem Po.passAl_until (p : Po) (c : Int) : (p.passAl c).until = p.until := by
  unfold Po.until
  rw [(p.passAl_ct c).1, (p.passAl_ct c).2]
theorem Po.tick_tr (p : Po) : p.tick.tr = p.tr := by
  unfold Po.tick
  split <;> rfl
theorem Po.count_tr (p : Po) (c : Int) : (p.count c).tr = p.tr := by
  unfold Po.count
  split
  · rw [Po.tick_tr]
  · rfl
theorem Po.Ok.pass (o : p.Ok) (c : Int) (c0 : 0 ≤ c) (f : p.Fit c) : (p.pass c).Ok := by
  unfold Po.pass
  have o1 := o.passAl c c0 f.al
  have o2 := Po.Ok.count o1 c
  exact o2.passTr c c0 (by rw [Po.count_tr, Po.passAl_tr]; exact f.tr)
def runF : Nat → Po → List Int → Int → Po × List Int
  | 0, p, zs, _ => (p, zs)
  | n + 1, p, zs, c => if c ≤ 0 then (p, zs) else runF n (p.pass (p.soon c 3)) (p.passZ (p.soon c 3) zs) (c - p.soon c 3)
theorem runF_any : ∀ (n k : Nat) (p : Po) (zs : List Int) (c : Int), p.Ok → c.toNat ≤ n → c.toNat ≤ k → runF n p zs c = runF k p zs c := by
  intro n
  induction n with
  | zero =>
    intro k p zs c o hn hk
    have hc : c ≤ 0 := by omega
    cases k with
    | zero => rfl
    | succ k => simp only [runF]; rw [if_pos hc]
  | succ n ih =>
    intro k p zs c o hn hk
    by_cases hc : c ≤ 0
    · cases k with
      | zero => simp only [runF]; rw [if_pos hc]
      | succ k => simp only [runF]; rw [if_pos hc, if_pos hc]
    · cases k with
      | zero => omega
      | succ k =>
        simp only [runF]
        rw [if_neg hc, if_neg hc]
        have b := Po.soon_b o c (by omega)
        exact ih k _ _ _ (o.pass _ (by omega) b.2.2) (by omega) (by omega)
/-- some clocks go by -/
def Po.run (p : Po) (zs : List Int) (c : Int) : Po × List Int := runF c.toNat p zs c
theorem Po.run_zero (p : Po) (zs : List Int) : p.run zs 0 = (p, zs) := rfl
theorem Po.run_step (o : p.Ok) (zs : List Int) (c : Int) (h : 0 < c) : p.run zs c = (p.pass (p.soon c 3)).run (p.passZ (p.soon c 3) zs) (c - p.soon c 3) := by
  have b := Po.soon_b o c h
  unfold Po.run
  obtain ⟨n, hn⟩ : ∃ n, c.toNat = n + 1 := ⟨c.toNat - 1, by omega⟩
  rw [hn]
  simp only [runF]
  rw [if_neg (by omega)]
  exact runF_any _ _ _ _ _ (o.pass _ (by omega) b.2.2) (by omega) (by omega)
theorem Po.passZ_len (p : Po) (c : Int) (zs : List Int) (h : zs.length ≤ 256) : (p.passZ c zs).length ≤ 256 := Po.trZ_len _ c zs h
theorem Po.run_ok : ∀ (n : Nat) (p : Po) (zs : List Int) (c : Int), c.toNat ≤ n → p.Ok → zs.length ≤ 256 → (p.run zs c).1.Ok ∧ (p.run zs c).2.length ≤ 256 := by
  intro n
  induction n with
  | zero =>
    intro p zs c hn o hz
    have : c.toNat = 0 := by omega
    unfold Po.run
    rw [this]
    exact ⟨o, hz⟩
  | succ n ih =>
    intro p zs c hn o hz
    by_cases hc : 0 < c
    · have b := Po.soon_b o c hc
      rw [Po.run_step o zs c hc]
      exact ih _ _ _ (by omega) (o.pass _ (by omega) b.2.2) (Po.passZ_len _ _ _ hz)
    · have : c.toNat = 0 := by omega
      unfold Po.run
      rw [this]
      exact ⟨o, hz⟩
end Go.Proofs.YteomldlmdpphaaaDoor
