/- PortsTimed, plainly. -/
import Derived.Test.YteomldlmdpphaaaDoorKtm
namespace Go.Proofs.YteomldlmdpphaaaDoor
open Go.RowKit
set_option linter.unusedVariables false
variable {p : Po}
theorem eq0_of_ne {x : Int} {t : Bool} (h : (x != 0) = t) : (x == 0) = !t := by rw [← h]; simp [bne]
theorem drive_off (p : Po) (h : p.ct < 4) : p.drive = false := by
  unfold Po.drive
  rw [decide_eq_true h]
  rfl
/-- how the timer is set up -/
theorem setup_tm (q : Po) (o : q.Ok) (k a : Int) (k0 : 0 ≤ k) (k1 : k < 4) : ((((((q.wr 6 0).wr 3 0).wr 4 255).wr 5 a).wr 6 (4 + k)).take 2).Tm (4 + k) a 0 255 0 false := by
  have o1 := o.wr 6 0 (by decide) (by decide)
  have c1 : (q.wr 6 0).ct = 0 := by
    show (q.driveThen { q with ct := 0 % 8 }).ct = 0
    unfold Po.driveThen Po.tick
    split
    · split <;> rfl
    · rfl
  generalize q.wr 6 0 = q1 at *
  have e2 : q1.wr 3 0 = { q1 with co := 0 } := by
    show q1.driveThen { q1 with co := 0 } = _
    unfold Po.driveThen
    rw [drive_off q1 (by omega)]
    rfl
  rw [e2]
  have e5 : (((({ q1 with co := 0 } : Po).wr 4 255).wr 5 a).wr 6 (4 + k)) = { q1 with co := 0, ti := 255, al := 0, ag := a, ct := (4 + k) % 8 } := by
    show ({ q1 with co := 0, ti := 255, al := 0, ag := a } : Po).driveThen { q1 with co := 0, ti := 255, al := 0, ag := a, ct := (4 + k) % 8 } = _
    unfold Po.driveThen
    rw [drive_off _ (by show q1.ct < 4; omega)]
    rfl
  rw [e5]
  exact ⟨by show (4 + k) % 8 = 4 + k; omega, rfl, rfl, rfl, rfl, (t4_facts q1.rq o1.rq.1 (by have := o1.rq.2; omega)).2.2⟩
theorem first_tm {ct a : Int} (h : p.Tm ct a 0 255 0 false) (o : p.Ok) (hc : 4 ≤ ct) (zs : List Int) (hz : zs.length ≤ 256) : (p.run zs (2 * drv ct + 3)).1.Tm ct a (2 * drv ct + 3) 0 1 false := by
  have d0 := drv_pos ct
  have g := h.toTick o hc zs hz (by decide) (by decide) (2 * drv ct) (by rw [Int.zero_emod]; omega)
  have ok := run_okc o zs hz (2 * drv ct)
  rw [run_add (2 * drv ct).toNat p zs (2 * drv ct) 3 (Nat.le_refl _) o (by omega) (by decide)]
  have r := Po.Tm.run_few hc 3 _ (p.run zs (2 * drv ct)).2 _ _ 3 (by decide) ok.1 g (by decide) (by simp) (by rcases drv_b ct with d | d | d | d <;> rw [d] <;> omega) (by omega) (by omega)
  have e1 : (((0 : Int) + 2 * drv ct) % 65536 + 3) % 65536 = 2 * drv ct + 3 := by rcases drv_b ct with d | d | d | d <;> rw [d] <;> decide
  rw [e1] at r
  exact r
theorem period_tm {ct a co : Int} (h : p.Tm ct a co a 0 false) (o : p.Ok) (hc : 4 ≤ ct) (zs : List Int) (hz : zs.length ≤ 256) (b0 : 0 ≤ co) (b1 : co ≤ 65535) (a0 : 0 ≤ a) (a1 : a ≤ 255) (hm : co % (2 * drv ct) = 4) (c : Int) (hcc : c = (256 - a) * (2 * drv ct)) :
    (p.run zs (c - 1)).1.Tm ct a ((co + c - 1) % 65536) 0 1 false := by
  obtain ⟨n, hn⟩ : ∃ n : Nat, (n : Int) + 1 = 256 - a := ⟨(255 - a).toNat, by omega⟩
  have g := Po.Tm.ticks hc n p zs co a o hz h b0 b1 a0 (by omega) (c - 4) (by rw [hm, hcc, hn])
  obtain ⟨g, gc⟩ := g
  rw [if_pos (by omega)] at g
  have ok := run_okc o zs hz (c - 4)
  have e : p.run zs (c - 1) = (p.run zs (c - 4)).1.run (p.run zs (c - 4)).2 3 := by
    rw [← run_add (c - 4).toNat p zs (c - 4) 3 (Nat.le_refl _) o gc (by decide)]
    congr 1
    omega
  rw [e]
  have hd : (co + (c - 4)) % 65536 % (2 * drv ct) = 0 := by
    have hq : ∃ z, c = z * (2 * drv ct) := ⟨_, hcc⟩
    obtain ⟨z, hz⟩ := hq
    rcases drv_b ct with d | d | d | d <;> rw [d] at hz hm ⊢ <;> omega
  have r := Po.Tm.run_few hc 3 _ (p.run zs (c - 4)).2 _ _ 3 (by decide) ok.1 g (by decide) (by simp) (by rw [hd]; rcases drv_b ct with d | d | d | d <;> rw [d] <;> omega) (by omega) (by omega)
  have e1 : ((co + (c - 4)) % 65536 + 3) % 65536 = (co + c - 1) % 65536 := by omega
  have e2 : (a + ((n : Int) + 1)) % 256 = 0 := by omega
  rw [e1, e2] at r
  exact r
end Go.Proofs.YteomldlmdpphaaaDoor
