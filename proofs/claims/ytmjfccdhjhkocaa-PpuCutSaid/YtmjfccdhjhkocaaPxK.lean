/- The next line. -/
import Derived.Test.YtmjfccdhjhkocaaPxJ
import Derived.Deep.MidRow
import Derived.StillTailTactics
namespace Go.Proofs.Ytmjfccdhjhkocaa
open Go.RowKit
set_option linter.unusedVariables false
variable {b : Nat} {p : Pic}
theorem Fr.drew {x y : World} (h : Fr b x y) : Fr b x y.drew := ⟨h.os, h.output, h.size, h.block⟩
def Pic.cpy (p : Pic) (m : Nat) : Pic := { p with sh := fun k => if k < m then p.dr k else p.sh k }
theorem Pic.cellC (p : Pic) (m : Nat) (hm : m < 23040) (j : Nat) (hj : j < 54447) : (if j = 31407 + m then .int .u8 (p.dr m) else (p.cpy m).cell j) = (p.cpy (m + 1)).cell j := by
  by_cases h : j < 31407
  · rw [if_neg (by omega)]
    unfold Pic.cell Pic.cpy
    dsimp only
    repeat' split
    all_goals first | rfl | omega
  · rw [Pic.cell_sh _ (show 31407 ≤ j by omega), Pic.cell_sh _ (show 31407 ≤ j by omega)]
    unfold Pic.cpy
    dsimp only
    by_cases e : j = 31407 + m
    · rw [if_pos e, if_pos (show j - 31407 < m + 1 by omega), show j - 31407 = m by omega]
    · rw [if_neg e]
      by_cases h2 : j - 31407 < m
      · rw [if_pos h2, if_pos (show j - 31407 < m + 1 by omega)]
      · rw [if_neg h2, if_neg (show ¬ j - 31407 < m + 1 by omega)]
theorem PxAt.copyS : ∀ (n m : Nat) (w : World), m + n ≤ 23040 → PxAt w b (p.cpy m) → PxAt (w.setCells b (31407 + m) ((List.range' m n).map fun k => .int .u8 (p.dr k))) b (p.cpy (m + n)) := by
  intro n
  induction n with
  | zero => intro m w hm h; exact h
  | succ n ih =>
    intro m w hm h
    have := ih (m + 1) (w.setCell ⟨b, 31407 + m, none⟩ (.int .u8 (p.dr m))) (by omega) (h.set _ _ (fun j hj => Pic.cellC p m (by omega) j hj))
    rw [show m + 1 + n = m + (n + 1) by omega] at this
    exact this
theorem cpy0 (p : Pic) : p.cpy 0 = p := by unfold Pic.cpy; congr 1
def Pic.points (p : Pic) : List Value := (List.range' 0 23040).map fun k => .int .u8 (p.dr k)
theorem Pic.points_len (p : Pic) : p.points.length = 23040 := by unfold Pic.points; rw [List.length_map, List.length_range']
theorem Pic.points_one (p : Pic) : ∀ v ∈ p.points, v.oneCell' = true := by
  intro v hv
  unfold Pic.points at hv
  obtain ⟨k, _, rfl⟩ := List.mem_map.1 hv
  rfl
theorem PxAt.points {W : World} (h : PxAt W b p) : W.rangeAt b 8367 p.points := by
  intro j v hv
  have hj : j < 23040 := by have := (List.getElem?_eq_some_iff.1 hv).1; rw [p.points_len] at this; exact this
  rw [h.cell _ (by omega), Pic.cell_dr _ (by omega) (by omega), ← hv]
  unfold Pic.points
  rw [List.getElem?_map, List.getElem?_range' hj]
  simp
theorem PxAt.copyAll {W w' : World} (h : PxAt W b p) (e : w' = W.setCells b 31407 p.points) : PxAt w' b (p.cpy 23040) ∧ Fr b W w' := by
  rw [e]
  have := PxAt.copyS (p := p) 23040 0 W (by omega) (by rw [cpy0]; exact h)
  rw [Nat.add_zero, Nat.zero_add] at this
  exact ⟨this, fr_setCells (Fr.refl b W) _ _⟩
theorem PxAt.there {W : World} (h : PxAt W b p) (o n : Nat) (hn : o + n ≤ 54447) : W.there b o n := fun j hj => ⟨h.here _ (by omega), h.fz _⟩
def Pic.next (p : Pic) : Pic := if p.rg 4 = 153 then (p.setClk 0).setR 4 0 else if (p.rg 4 + 1) % 256 = 144 then ((((p.setClk 0).setR 4 ((p.rg 4 + 1) % 256)).cpy 23040)).forget else (p.setClk 0).setR 4 ((p.rg 4 + 1) % 256)
def Pic.nextA (p : Pic) : Int := if p.rg 4 = 153 then 0 else if (p.rg 4 + 1) % 256 = 144 then 1 else 0
set_option maxRecDepth 100000 in
set_option maxHeartbeats 1000000 in
theorem nextLine_any (W : World) (h : PxAt W b p) : Calls Try.prog 63 #[.pointer (some ⟨b, 0, none⟩)] W fun e w' => e = .returned (.int .i64 p.nextA) ∧ PxAt w' b p.next ∧ Fr b W w' := by
  have k4 : W.cell? ⟨b, 8356, none⟩ = some (.int .u8 (p.rg 4)) := h.reg 4 (by decide)
  have f4 := h.fz 8356
  have kc := h.clk
  have fc := h.fz 8364
  have HP : Hid (PxAt W b p) := h
  clear h
  unfold Pic.next Pic.nextA
  by_cases e1 : p.rg 4 = 153
  · rw [if_pos e1, if_pos e1]
    have b1 : (p.rg 4 == 153) = true := beq_iff_eq.2 e1
    clear e1
    go_enter Try.func63, Try.ntmps63
    go_wp2_with fail
    go_ret
    exact ⟨rfl, (HP.out.set 8364 _ (fun j _ => Pic.cellClk _ 0 j)).set 8356 _ (fun j _ => Pic.cellR _ 4 (by decide) 0 j), (Fr.refl b W).setCell.setCell⟩
  · rw [if_neg e1, if_neg e1]
    have b1 : (p.rg 4 == 153) = false := beq_eq_false_iff_ne.2 e1
    clear e1
    by_cases e2 : (p.rg 4 + 1) % 256 = 144
    · rw [if_pos e2, if_pos e2]
      have b2 : ((p.rg 4 + 1) % 256 == 144) = true := beq_iff_eq.2 e2
      clear e2
      go_enter Try.func63, Try.ntmps63
      go_wp2_with fail
      have h1 : PxAt (W.setCell ⟨b, 8364, none⟩ (.int .i64 0)) b (p.setClk 0) := HP.out.set 8364 _ (fun j _ => Pic.cellClk p 0 j)
      have F1 : Fr b W (W.setCell ⟨b, 8364, none⟩ (.int .i64 0)) := (Fr.refl b W).setCell
      generalize World.setCell W _ _ = w1 at h1 F1 ⊢
      have k5 : w1.cell? ⟨b, 8356, none⟩ = some (.int .u8 (p.rg 4)) := h1.reg 4 (by decide)
      have f5 := h1.fz 8356
      have H1 : Hid _ := And.intro h1 F1
      clear h1 F1 k4 f4 kc fc HP
      go_still_tail 9, (by kernel_rfl)
      have HW : Hid (∀ w', w' = (w1.setCell ⟨b, 8356, none⟩ (.int .u8 ((p.rg 4 + 1) % 256))).drew → PxAt w' b ((p.setClk 0).setR 4 ((p.rg 4 + 1) % 256)) ∧ Fr b W w') := fun w' e => by
        rw [e]
        exact ⟨(H1.out.1.set 8356 _ (fun j _ => Pic.cellR _ 4 (by decide) _ j)).up ((Up.refl _).drew), H1.out.2.setCell.drew⟩
      obtain ⟨q, hq⟩ : ∃ q, q = (p.setClk 0).setR 4 ((p.rg 4 + 1) % 256) := ⟨_, rfl⟩
      rw [← hq] at HW
      have HQ : Hid _ := hq
      clear hq
      obtain ⟨D, hD⟩ : ∃ D, D = q.points := ⟨_, rfl⟩
      have HI : Hid ((Try.prog.info? 72).map (·.size) = some D.length) := by show _ = _; rw [hD, Pic.points_len]; kernel_rfl
      have HR : Hid (∀ w', w' = (w1.setCell ⟨b, 8356, none⟩ (.int .u8 ((p.rg 4 + 1) % 256))).drew → w'.rangeAt b 8367 D) := fun w' e => by rw [hD]; exact (HW.out w' e).1.points
      have HT : Hid (∀ w', w' = (w1.setCell ⟨b, 8356, none⟩ (.int .u8 ((p.rg 4 + 1) % 256))).drew → w'.there b 31407 D.toArray.size) := fun w' e => by rw [List.size_toArray, hD, Pic.points_len]; exact (HW.out w' e).1.there _ _ (by omega)
      have HO : Hid (D.toArray.all (·.oneCell') = true) := all_oneCell_toArray (by rw [hD]; exact q.points_one)
      have HC : Hid (∀ w' w'', w' = (w1.setCell ⟨b, 8356, none⟩ (.int .u8 ((p.rg 4 + 1) % 256))).drew → w'' = w'.setCells b 31407 D → PxAt w'' b (q.cpy 23040) ∧ Fr b W w'') := fun w' w'' e e2 => by
        have h := HW.out w' e
        have := h.1.copyAll (w' := w'') (by rw [e2, hD])
        exact ⟨this.1, h.2.trans this.2⟩
      clear hD HW
      go_wp2_with (first
        | (refine wpList_load_mid rfl 72 _ rfl b 8367 rfl D _ (HR.out _ rfl) Try.underlying72 rfl HI.out ?_)
        | (refine wpList_store_mid rfl 72 _ _ rfl b 31407 D.toArray rfl rfl (HT.out _ rfl) (by exact HI.out) HO.out ?_; have h3 := HC.out _ _ rfl rfl; generalize World.setCells _ _ _ _ = w3 at h3 ⊢; have H3 : Hid _ := h3; clear h3))
      refine (forget_any _ H3.out.1).mono ?_
      rintro e w4 ⟨rfl, h4, F4⟩
      have H4 : Hid _ := And.intro h4 (H3.out.2.trans F4)
      clear h4 F4
      go_wp2_with fail
      go_ret
      exact ⟨rfl, by rw [← HQ.out]; exact H4.out⟩
    · rw [if_neg e2, if_neg e2]
      have b2 : ((p.rg 4 + 1) % 256 == 144) = false := beq_eq_false_iff_ne.2 e2
      clear e2
      go_enter Try.func63, Try.ntmps63
      go_wp2_with fail
      have h1 : PxAt (W.setCell ⟨b, 8364, none⟩ (.int .i64 0)) b (p.setClk 0) := HP.out.set 8364 _ (fun j _ => Pic.cellClk p 0 j)
      have F1 : Fr b W (W.setCell ⟨b, 8364, none⟩ (.int .i64 0)) := (Fr.refl b W).setCell
      generalize World.setCell W _ _ = w1 at h1 F1 ⊢
      have k5 : w1.cell? ⟨b, 8356, none⟩ = some (.int .u8 (p.rg 4)) := h1.reg 4 (by decide)
      have f5 := h1.fz 8356
      have H1 : Hid _ := And.intro h1 F1
      clear h1 F1 k4 f4 kc fc HP
      go_still_tail 9, (by kernel_rfl)
      go_wp2_with fail
      go_ret
      exact ⟨rfl, (H1.out.1.set 8356 _ (fun j _ => Pic.cellR _ 4 (by decide) _ j)).up ((Up.refl _).drew), H1.out.2.setCell.drew⟩
end Go.Proofs.Ytmjfccdhjhkocaa
