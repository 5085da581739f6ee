/- The timer by its clocks, plainly. -/
import Derived.Test.YteomldlmdpphaaaDoorKt
import Derived.Test.YteomldlmdpphaaaDoorPpB
namespace Go.Proofs.YteomldlmdpphaaaDoor
open Go.RowKit
set_option linter.unusedVariables false
variable {p : Po}
/-- is the timer's request there -/
def Po.t4 (p : Po) : Bool := bits .and .i64 p.rq 4 != 0
theorem t4_facts : ∀ x : Int, 0 ≤ x → x ≤ 255 → (bits .and .i64 (bits .or .u8 x 8) 4 != 0) = (bits .and .i64 x 4 != 0) ∧ (bits .and .i64 (bits .or .u8 x 4) 4 != 0) = true ∧ (bits .and .i64 (bits .andNot .u8 x 4) 4 != 0) = false := byteAll (by decide +kernel)
/-- what the timer is -/
structure Po.Tm (p : Po) (ct ag co ti al : Int) (t : Bool) : Prop where
  ct : p.ct = ct
  ag : p.ag = ag
  co : p.co = co
  ti : p.ti = ti
  al : p.al = al
  t4 : p.t4 = t
theorem Po.Tm.passTr {ct ag co ti al : Int} {t : Bool} (h : p.Tm ct ag co ti al t) (o : p.Ok) (m : Int) : (p.passTr m).Tm ct ag co ti al t := by
  unfold Po.passTr
  split
  · exact h
  · split
    · exact ⟨h.ct, h.ag, h.co, h.ti, h.al, ((t4_facts p.rq o.rq.1 (by have := o.rq.2; omega)).1).trans h.t4⟩
    · exact ⟨h.ct, h.ag, h.co, h.ti, h.al, h.t4⟩
theorem Po.Tm.until_eq {ct ag co ti al : Int} {t : Bool} (h : p.Tm ct ag co ti al t) (hc : 4 ≤ ct) : p.until = 2 * drv ct - co % (2 * drv ct) := by
  unfold Po.until
  rw [h.ct, h.co, if_neg (by omega)]
theorem Po.Tm.pass_few {ct ag co ti al : Int} {t : Bool} (h : p.Tm ct ag co ti al t) (o : p.Ok) (m : Int) (m0 : 0 < m) (ha : al = 0 ∨ m < al) (hu : p.until ≠ m) : (p.pass m).Tm ct ag ((co + m) % 65536) ti (if al = 0 then 0 else al - m) t := by
  have e1 := p.passAl_few m (by rw [h.al]; exact ha)
  have e2 : (p.passAl m).count m = { p.passAl m with co := ((p.passAl m).co + m) % 65536 } := Po.count_few _ m (by rw [Po.passAl_until]; exact hu)
  have o1 : (p.passAl m).Ok := o.passAl m (by omega) (by rw [h.al]; omega)
  have o2 := Po.Ok.count o1 m
  unfold Po.pass
  refine Po.Tm.passTr ?_ o2 m
  rw [e2, e1]
  exact ⟨h.ct, h.ag, by rw [← h.co], h.ti, by rw [← h.al], h.t4⟩
/-- no tick, no alarm -/
theorem Po.Tm.run_few {ct ag ti : Int} {t : Bool} (hc : 4 ≤ ct) : ∀ (n : Nat) (p : Po) (zs : List Int) (co al c : Int), c.toNat ≤ n → p.Ok → p.Tm ct ag co ti al t → 0 ≤ c → (al = 0 ∨ c < al) → c < 2 * drv ct - co % (2 * drv ct) → 0 ≤ co → co ≤ 65535 →
    (p.run zs c).1.Tm ct ag ((co + c) % 65536) ti (if al = 0 then 0 else al - c) t := by
  intro n
  induction n with
  | zero =>
    intro p zs co al c hn o h h0 ha hu b0 b1
    obtain rfl : c = 0 := by omega
    rw [Po.run_zero]
    have : (co + 0) % 65536 = co := by omega
    rw [this]
    have e : (if al = 0 then 0 else al - 0) = al := by split <;> omega
    rw [e]
    exact h
  | succ n ih =>
    intro p zs co al c hn o h h0 ha hu b0 b1
    by_cases hz : c = 0
    · subst hz
      rw [Po.run_zero]
      have : (co + 0) % 65536 = co := by omega
      rw [this]
      have e : (if al = 0 then 0 else al - 0) = al := by split <;> omega
      rw [e]
      exact h
    · have b := Po.soon_b o c (by omega)
      rw [Po.run_step o zs c (by omega)]
      generalize p.soon c 3 = m at *
      have hu' := h.until_eq hc
      have d0 := drv_pos ct
      have hp := h.pass_few o m (by omega) (by omega) (by omega)
      have g := ih (p.pass m) (p.passZ m zs) ((co + m) % 65536) (if al = 0 then 0 else al - m) (c - m) (by omega) (o.pass m (by omega) b.2.2) hp (by omega) (by split <;> omega) (by
        rcases drv_b ct with d | d | d | d <;> rw [d] at hu ⊢ <;> omega) (by omega) (by omega)
      have e1 : ((co + m) % 65536 + (c - m)) % 65536 = (co + c) % 65536 := by omega
      have e2 : (if (if al = 0 then 0 else al - m) = 0 then 0 else (if al = 0 then 0 else al - m) - (c - m)) = (if al = 0 then 0 else al - c) := by
        by_cases e : al = 0
        · simp [e]
        · rw [if_neg e, if_neg e, if_neg (by omega)]
          omega
      rw [e1, e2] at g
      exact g
theorem soon_one (o : p.Ok) : p.soon 1 3 = 1 := by
  have b := Po.soon_b o 1 (by decide)
  omega
theorem Po.run_one (o : p.Ok) (zs : List Int) : p.run zs 1 = (p.pass 1, p.passZ 1 zs) := by
  rw [Po.run_step o zs 1 (by decide), soon_one o]
  rfl
/-- the clock of a tick -/
theorem Po.Tm.tick {ct ag co ti : Int} {t : Bool} (h : p.Tm ct ag co ti 0 t) (o : p.Ok) (hc : 4 ≤ ct) (hu : 2 * drv ct - co % (2 * drv ct) = 1) (zs : List Int) :
    (p.run zs 1).1.Tm ct ag ((co + 1) % 65536) ((ti + 1) % 256) (if (ti + 1) % 256 = 0 then 4 else 0) t := by
  rw [Po.run_one o]
  have hu' := h.until_eq hc
  have e1 : p.passAl 1 = p := by unfold Po.passAl; rw [if_pos h.al]
  have e2 : p.count 1 = ({ p with co := (p.co + 1) % 65536 } : Po).tick := by unfold Po.count; rw [if_pos (by omega)]
  have o2 := Po.Ok.count o 1
  show (p.pass 1).Tm _ _ _ _ _ _
  unfold Po.pass
  rw [e1]
  refine Po.Tm.passTr ?_ o2 1
  rw [e2]
  unfold Po.tick
  dsimp only
  rw [h.ti]
  split
  · rename_i e
    rw [e]
    exact ⟨h.ct, h.ag, by rw [← h.co], rfl, rfl, h.t4⟩
  · exact ⟨h.ct, h.ag, by rw [← h.co], rfl, h.al, h.t4⟩
/-- the alarm's last clock -/
theorem Po.Tm.ring {ct ag co ti : Int} {t : Bool} (h : p.Tm ct ag co ti 1 t) (o : p.Ok) (hc : 4 ≤ ct) (hu : 2 * drv ct - co % (2 * drv ct) ≠ 1) (zs : List Int) :
    (p.run zs 1).1.Tm ct ag ((co + 1) % 65536) ag 0 true := by
  rw [Po.run_one o]
  have hu' := h.until_eq hc
  have hal := h.al
  have e1 : p.passAl 1 = ({ p with al := 0 } : Po).ring := by unfold Po.passAl; rw [if_neg (by omega), if_pos (by omega)]
  have o1 : (p.passAl 1).Ok := o.passAl 1 (by decide) (by omega)
  have o2 := Po.Ok.count o1 1
  have e2 : (p.passAl 1).count 1 = { p.passAl 1 with co := ((p.passAl 1).co + 1) % 65536 } := Po.count_few _ 1 (by rw [Po.passAl_until]; omega)
  show (p.pass 1).Tm _ _ _ _ _ _
  unfold Po.pass
  refine Po.Tm.passTr ?_ o2 1
  rw [e2, e1]
  exact ⟨h.ct, h.ag, by rw [← h.co]; rfl, h.ag, rfl, (t4_facts p.rq o.rq.1 (by have := o.rq.2; omega)).2.1⟩
theorem run_okc (o : p.Ok) (zs : List Int) (hz : zs.length ≤ 256) (c : Int) : (p.run zs c).1.Ok ∧ (p.run zs c).2.length ≤ 256 := Po.run_ok c.toNat p zs c (Nat.le_refl _) o hz
/-- to the next tick, and it -/
theorem Po.Tm.toTick {ct ag co ti : Int} {t : Bool} (h : p.Tm ct ag co ti 0 t) (o : p.Ok) (hc : 4 ≤ ct) (zs : List Int) (hz : zs.length ≤ 256) (b0 : 0 ≤ co) (b1 : co ≤ 65535) (u : Int) (hu : u = 2 * drv ct - co % (2 * drv ct)) :
    (p.run zs u).1.Tm ct ag ((co + u) % 65536) ((ti + 1) % 256) (if (ti + 1) % 256 = 0 then 4 else 0) t := by
  have d0 := drv_pos ct
  have hm := Int.emod_lt_of_pos co (show 0 < 2 * drv ct by omega)
  have e : p.run zs u = (p.run zs (u - 1)).1.run (p.run zs (u - 1)).2 1 := by
    rw [← run_add (u - 1).toNat p zs (u - 1) 1 (Nat.le_refl _) o (by omega) (by decide)]
    congr 1
    omega
  rw [e]
  have g := Po.Tm.run_few (t := t) hc (u - 1).toNat p zs co 0 (u - 1) (Nat.le_refl _) o h (by omega) (Or.inl rfl) (by omega) b0 b1
  rw [if_pos rfl] at g
  have ok := run_okc o zs hz (u - 1)
  have r := g.tick ok.1 hc (by
    rcases drv_b ct with d | d | d | d <;> rw [d] at hu ⊢ <;> omega) (p.run zs (u - 1)).2
  have e1 : ((co + (u - 1)) % 65536 + 1) % 65536 = (co + u) % 65536 := by omega
  rw [e1] at r
  exact r
/-- n ticks -/
theorem Po.Tm.ticks {ct ag : Int} {t : Bool} (hc : 4 ≤ ct) : ∀ (n : Nat) (p : Po) (zs : List Int) (co ti : Int), p.Ok → zs.length ≤ 256 → p.Tm ct ag co ti 0 t → 0 ≤ co → co ≤ 65535 → 0 ≤ ti → ti + (n + 1) ≤ 256 → ∀ c : Int, c = (n + 1) * (2 * drv ct) - co % (2 * drv ct) →
    (p.run zs c).1.Tm ct ag ((co + c) % 65536) ((ti + (n + 1)) % 256) (if ti + (n + 1) = 256 then 4 else 0) t ∧ 0 ≤ c := by
  intro n
  induction n with
  | zero =>
    intro p zs co ti o hz h b0 b1 t0 t1 c hcc
    have d0 := drv_pos ct
    have hm := Int.emod_lt_of_pos co (show 0 < 2 * drv ct by omega)
    have hcc' : c = 2 * drv ct - co % (2 * drv ct) := by rw [hcc]; simp
    have r := h.toTick o hc zs hz b0 b1 c hcc'
    refine ⟨?_, by omega⟩
    have e1 : ((ti + 1) % 256 = 0) ↔ (ti + ((0 : Nat) + 1 : Int) = 256) := by omega
    simp only [e1] at r
    exact r
  | succ n ih =>
    intro p zs co ti o hz h b0 b1 t0 t1 c hcc
    have d0 := drv_pos ct
    have hm := Int.emod_lt_of_pos co (show 0 < 2 * drv ct by omega)
    have g := h.toTick o hc zs hz b0 b1 (2 * drv ct - co % (2 * drv ct)) rfl
    generalize hu : 2 * drv ct - co % (2 * drv ct) = u at g
    rw [if_neg (by omega)] at g
    have ok := run_okc o zs hz u
    have hd : (co + u) % 65536 % (2 * drv ct) = 0 := by
      rcases drv_b ct with d | d | d | d <;> rw [d] at hu ⊢ <;> omega
    have e3 : (ti + 1) % 256 = ti + 1 := by omega
    rw [e3] at g
    have r := ih (p.run zs u).1 (p.run zs u).2 ((co + u) % 65536) (ti + 1) ok.1 ok.2 g (by omega) (by omega) (by omega) (by omega) ((n + 1) * (2 * drv ct)) (by rw [hd]; omega)
    obtain ⟨r, rc⟩ := r
    rw [← run_add u.toNat p zs u _ (Nat.le_refl _) o (by omega) rc] at r
    have hc2 : u + (n + 1) * (2 * drv ct) = c := by
      rw [hcc, ← hu]
      have : ((n + 1 : Nat) : Int) = (n : Int) + 1 := by omega
      rw [this, Int.add_mul ((n : Int) + 1) 1]
      omega
    rw [hc2] at r
    refine ⟨?_, by omega⟩
    have e1 : ((co + u) % 65536 + (n + 1) * (2 * drv ct)) % 65536 = (co + c) % 65536 := by omega
    have e2 : (ti + 1 + (n + 1) : Int) = ti + (((n + 1 : Nat) : Int) + 1) := by omega
    rw [e1, e2] at r
    exact r
end Go.Proofs.YteomldlmdpphaaaDoor
