/- Clocks that go by may be cut anywhere, plainly. -/
import Derived.Test.YteomldlmdpphaaaDoorKp
namespace Go.Proofs.YteomldlmdpphaaaDoor
open Go.RowKit
set_option linter.unusedVariables false
variable {p : Po}
/-- so few clocks that nothing comes -/
def Po.adv (p : Po) (k : Int) : Po := { p with al := if p.al = 0 then 0 else p.al - k, co := (p.co + k) % 65536, tr := if p.tr = 0 then 0 else p.tr - k }
theorem Po.passAl_few (p : Po) (k : Int) (h : p.al = 0 ∨ k < p.al) : p.passAl k = { p with al := if p.al = 0 then 0 else p.al - k } := by
  unfold Po.passAl
  split
  · rename_i e
    obtain ⟨bu, ro, sh, li, co, ti, ag, ct, rq, al, tr, se⟩ := p
    simp_all
  · split
    · omega
    · rfl
theorem Po.count_few (p : Po) (k : Int) (h : p.until ≠ k) : p.count k = { p with co := (p.co + k) % 65536 } := by
  unfold Po.count
  rw [if_neg (fun e => h e.symm)]
theorem Po.passTr_few (p : Po) (k : Int) (h : p.tr = 0 ∨ k < p.tr) : p.passTr k = { p with tr := if p.tr = 0 then 0 else p.tr - k } := by
  unfold Po.passTr
  split
  · rename_i e
    obtain ⟨bu, ro, sh, li, co, ti, ag, ct, rq, al, tr, se⟩ := p
    simp_all
  · split
    · omega
    · rfl
theorem Po.pass_few (p : Po) (k : Int) (h0 : 0 < k) (ha : p.al = 0 ∨ k < p.al) (hu : p.until = 0 ∨ k < p.until) (ht : p.tr = 0 ∨ k < p.tr) (zs : List Int) : p.pass k = p.adv k ∧ p.passZ k zs = zs := by
  have e1 := p.passAl_few k ha
  have e2 : (p.passAl k).count k = { p.passAl k with co := ((p.passAl k).co + k) % 65536 } := Po.count_few _ k (by rw [Po.passAl_until]; omega)
  unfold Po.pass Po.passZ
  rw [e2, e1]
  dsimp only
  refine ⟨?_, ?_⟩
  · rw [Po.passTr_few _ k (by dsimp only; exact ht)]
    rfl
  · unfold Po.trZ
    dsimp only
    split
    · rfl
    · rw [if_neg (by omega)]
theorem drv_pos (x : Int) : 0 < drv x := by rcases drv_b x with e | e | e | e <;> rw [e] <;> decide
theorem Po.until_adv (p : Po) (k : Int) (h0 : 0 < k) (hu : p.until = 0 ∨ k < p.until) : (p.adv k).until = if p.until = 0 then 0 else p.until - k := by
  have hc : (p.adv k).until = if p.ct < 4 then 0 else 2 * drv p.ct - (p.co + k) % 65536 % (2 * drv p.ct) := rfl
  have hp : p.until = if p.ct < 4 then 0 else 2 * drv p.ct - p.co % (2 * drv p.ct) := rfl
  rw [hc]
  by_cases e : p.ct < 4
  · rw [if_pos e] at hp
    rw [if_pos e, hp, if_pos rfl]
  · rw [if_neg e] at hp
    rw [if_neg e]
    generalize p.until = U at *
    rcases drv_b p.ct with d | d | d | d <;> rw [d] at hp ⊢ <;> rw [if_neg (by omega)] <;> omega
theorem Po.tick_co (p : Po) (c : Int) (t : Int) : ({ p with co := c, tr := t } : Po).tick = { p.tick with co := c, tr := t } := by
  unfold Po.tick
  dsimp only
  split <;> rfl
theorem Po.ring_co (p : Po) (c : Int) (t : Int) : ({ p with co := c, tr := t } : Po).ring = { p.ring with co := c, tr := t } := rfl
theorem Po.passAl_adv (p : Po) (k m : Int) (h0 : 0 < k) (hk : k < m) (ha : p.al = 0 ∨ m ≤ p.al) :
    (p.adv k).passAl (m - k) = { p.passAl m with co := (p.co + k) % 65536, tr := if p.tr = 0 then 0 else p.tr - k } := by
  obtain ⟨bu, ro, sh, li, co, ti, ag, ct, rq, al, tr, se⟩ := p
  dsimp only at *
  unfold Po.passAl Po.adv
  dsimp only
  by_cases e : al = 0
  · subst e
    rfl
  · rw [if_neg e, if_neg e, if_neg (by omega)]
    by_cases e1 : al - m = 0
    · rw [if_pos e1, if_pos (by omega)]
      rfl
    · rw [if_neg e1, if_neg (by omega)]
      dsimp only
      congr 1
      omega
theorem Po.pass_adv (p : Po) (k m : Int) (h0 : 0 < k) (hk : k < m) (f : p.Fit m) (zs : List Int) : (p.adv k).pass (m - k) = p.pass m ∧ (p.adv k).passZ (m - k) zs = p.passZ m zs := by
  have hu := p.until_adv k h0 (by have := f.un; omega)
  have e1 := p.passAl_adv k m h0 hk f.al
  have hu1 : ((p.adv k).passAl (m - k)).until = (p.adv k).until := Po.passAl_until _ _
  have hu2 : (p.passAl m).until = p.until := Po.passAl_until _ _
  have hc := (p.passAl_ct m).2
  have ht := p.passAl_tr m
  have hun := f.un
  have htr := f.tr
  have e2 : ((p.adv k).passAl (m - k)).count (m - k) = { (p.passAl m).count m with tr := if p.tr = 0 then 0 else p.tr - k } := by
    by_cases e : m = p.until
    · have c1 : ((p.adv k).passAl (m - k)).count (m - k) = ({ ((p.adv k).passAl (m - k)) with co := (((p.adv k).passAl (m - k)).co + (m - k)) % 65536 } : Po).tick := by
        unfold Po.count
        rw [if_pos (by rw [hu1, hu]; split <;> omega)]
      have c2 : (p.passAl m).count m = ({ p.passAl m with co := ((p.passAl m).co + m) % 65536 } : Po).tick := by
        unfold Po.count
        rw [if_pos (by rw [hu2]; exact e)]
      rw [c1, c2, e1]
      dsimp only
      rw [hc, show ((p.co + k) % 65536 + (m - k)) % 65536 = (p.co + m) % 65536 by omega]
      generalize p.passAl m = q
      unfold Po.tick
      dsimp only
      split <;> rfl
    · have c1 := Po.count_few ((p.adv k).passAl (m - k)) (m - k) (by rw [hu1, hu]; split <;> omega)
      have c2 := Po.count_few (p.passAl m) m (by rw [hu2]; exact fun e' => e e'.symm)
      rw [c1, c2, e1]
      dsimp only
      rw [hc, show ((p.co + k) % 65536 + (m - k)) % 65536 = (p.co + m) % 65536 by omega]
  have ht2 : ((p.passAl m).count m).tr = p.tr := by rw [Po.count_tr, ht]
  unfold Po.pass Po.passZ
  rw [e2]
  generalize (p.passAl m).count m = q at ht2
  obtain ⟨bu, ro, sh, li, co, ti, ag, ct, rq, al, tr, se⟩ := q
  dsimp only at *
  rw [← ht2]
  unfold Po.passTr Po.trZ
  dsimp only
  by_cases e : tr = 0
  · subst e
    exact ⟨rfl, rfl⟩
  · have n1 : ¬ (tr - k = 0) := by omega
    by_cases e1 : tr - m = 0
    · have n2 : tr - k - (m - k) = 0 := by omega
      simp only [if_neg e, if_neg n1, if_pos e1, if_pos n2]
      refine ⟨?_, ?_⟩ <;> first | rfl | trivial
    · have n2 : ¬ (tr - k - (m - k) = 0) := by omega
      simp only [if_neg e, if_neg n1, if_neg e1, if_neg n2]
      refine ⟨?_, ?_⟩ <;> first | trivial | rfl | (congr 1; omega)
theorem m1_le {c d l : Int} (h : m1 c l ≤ d) (hd : d ≤ c) (h0 : 0 < d) : m1 d l = m1 c l ∨ (m1 c l = d ∧ m1 d l = d) := by
  unfold m1 at *
  split at h <;> split <;> omega
/-- the least of the lefts, cut to c -/
theorem soon_eq (p : Po) (c : Int) : p.soon c 3 = m1 (m1 (m1 c p.al) p.until) p.tr := rfl
theorem m1_min (c l : Int) : m1 c l = if 0 < l ∧ l < c then l else c := by
  unfold m1
  split
  · split <;> omega
  · rw [if_neg (by omega)]
theorem soon_low (p : Po) (c d : Int) (h : p.soon c 3 ≤ d) (hd : d ≤ c) : p.soon d 3 = p.soon c 3 := by
  rw [soon_eq] at *
  rw [soon_eq]
  simp only [m1_min] at *
  repeat' split at h
  all_goals (repeat' split)
  all_goals omega
theorem soon_high (p : Po) (c d : Int) (h : d < p.soon c 3) (hd : d ≤ c) (h0 : 0 < d) : p.soon d 3 = d := by
  rw [soon_eq] at *
  simp only [m1_min] at *
  repeat' split at h
  all_goals (repeat' split)
  all_goals omega
theorem Po.Ok.adv' (o : p.Ok) (k : Int) (h0 : 0 < k) (ha : p.al = 0 ∨ k < p.al) (ht : p.tr = 0 ∨ k < p.tr) : (p.adv k).Ok := by
  have a := o.al
  have t := o.tr
  have c := o.co
  refine { o with co := ?_, al := ?_, tr := ?_ }
  · show 0 ≤ (p.co + k) % 65536 ∧ (p.co + k) % 65536 ≤ 65535
    omega
  · show 0 ≤ (if p.al = 0 then 0 else p.al - k) ∧ (if p.al = 0 then 0 else p.al - k) ≤ 4
    split <;> omega
  · show 0 ≤ (if p.tr = 0 then 0 else p.tr - k) ∧ (if p.tr = 0 then 0 else p.tr - k) ≤ 4096
    split <;> omega
theorem soon_adv (o : p.Ok) (c k : Int) (h0 : 0 < k) (hk : k < p.soon c 3) (hc : k < c) : (p.adv k).soon (c - k) 3 = p.soon c 3 - k := by
  have b := Po.soon_b o c (by omega)
  have f := b.2.2
  have hu := p.until_adv k h0 (by have := f.un; omega)
  have u0 := (Po.until_b o).1
  have a0 := o.al.1
  have t0 := o.tr.1
  have ha : (p.adv k).al = if p.al = 0 then 0 else p.al - k := rfl
  have ht : (p.adv k).tr = if p.tr = 0 then 0 else p.tr - k := rfl
  have fa := f.al
  have fu := f.un
  have ft := f.tr
  rw [soon_eq] at *
  rw [soon_eq, hu, ha, ht]
  generalize p.until = U at *
  generalize p.al = A at *
  generalize p.tr = T at *
  have ea : m1 (c - k) (if A = 0 then 0 else A - k) = m1 c A - k := by
    unfold m1
    by_cases e : A = 0
    · rw [if_pos e, if_neg (by omega), if_neg (by omega)]
    · rw [if_neg e, if_pos (by omega), if_pos (by omega)]; omega
  rw [ea]
  generalize m1 c A = x at *
  have eb : m1 (x - k) (if U = 0 then 0 else U - k) = m1 x U - k := by
    unfold m1
    by_cases e : U = 0
    · rw [if_pos e, if_neg (by omega), if_neg (by omega)]
    · rw [if_neg e, if_pos (by omega), if_pos (by omega)]; omega
  rw [eb]
  generalize m1 x U = y at *
  unfold m1
  by_cases e : T = 0
  · rw [if_pos e, if_neg (by omega), if_neg (by omega)]
  · rw [if_neg e, if_pos (by omega), if_pos (by omega)]; omega
/-- clocks that are cut are the same clocks -/
theorem run_add : ∀ (n : Nat) (p : Po) (zs : List Int) (a c : Int), a.toNat ≤ n → p.Ok → 0 ≤ a → 0 ≤ c → p.run zs (a + c) = (p.run zs a).1.run (p.run zs a).2 c := by
  intro n
  induction n with
  | zero =>
    intro p zs a c hn o ha hc
    obtain rfl : a = 0 := by omega
    rw [Int.zero_add]
    rfl
  | succ n ih =>
    intro p zs a c hn o ha hc
    by_cases a0 : a = 0
    · subst a0
      rw [Int.zero_add]
      rfl
    by_cases c0 : c = 0
    · subst c0
      rw [Int.add_zero]
      exact (Po.run_zero _ _).symm ▸ rfl
    have b := Po.soon_b o (a + c) (by omega)
    by_cases h : p.soon (a + c) 3 ≤ a
    · have es := soon_low p (a + c) a h (by omega)
      rw [Po.run_step o zs (a + c) (by omega), Po.run_step o zs a (by omega), es]
      generalize p.soon (a + c) 3 = m at *
      rw [show a + c - m = (a - m) + c by omega]
      exact ih _ _ (a - m) c (by omega) (o.pass _ (by omega) b.2.2) (by omega) hc
    · have es := soon_high p (a + c) a (by omega) (by omega) (by omega)
      have f := b.2.2
      have fa := f.al
      have fu := f.un
      have ft := f.tr
      have pf := p.pass_few a (by omega) (by omega) (by omega) (by omega) zs
      have ra : p.run zs a = (p.adv a, zs) := by
        rw [Po.run_step o zs a (by omega), es, pf.1, pf.2, Int.sub_self]
        rfl
      have oa := o.adv' a (by omega) (by omega) (by omega)
      have sa := soon_adv o (a + c) a (by omega) (by omega) (by omega)
      rw [show a + c - a = c by omega] at sa
      have pa := p.pass_adv a (p.soon (a + c) 3) (by omega) (by omega) f zs
      rw [ra]
      dsimp only
      rw [Po.run_step o zs (a + c) (by omega), Po.run_step oa zs c (by omega), sa, pa.1, pa.2]
      congr 1
      omega
end Go.Proofs.YteomldlmdpphaaaDoor
