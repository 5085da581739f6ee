/- The picture switched off. -/
import Derived.Test.YtmjfccdhjhkocaaPxE
namespace Go.Proofs.Ytmjfccdhjhkocaa
open Go.RowKit
set_option linter.unusedVariables false
variable {b : Nat} {p : Pic}
theorem wpList_clear {P : Program} {w : World} {ops : Array Oper} {rest : List Oper} {o : Oper} {a : Act} {Q : Exit → Act → World → Prop} (hgd : o.guard = none) (s : Operand) (t : TypeId)
    (ho : o.op = .call { callee := .builtin .clear, args := #[s], argTypes := #[t] }) (e : TypeId) (z : Value) (ht : P.underlying t = some (.slice e)) (hv : ∀ w, (zeroValue e).run P w = .ok z w) (hz : z.cells = #[z]) (h1 : z.oneCell' = true)
    (g off n c : Nat) (hn : 0 < n) (hs : a.eval s = .slice (some ⟨g, off, none⟩) n c) (hc : ∀ j, j < n → (w.cell? ⟨g, off + j, none⟩).isSome = true) (hf : ∀ j, j < n → w.frozen? ⟨g, off + j, none⟩ = false)
    (h : ∀ w', Hid (w' = w.setCells g off (List.replicate n z)) → wpList P ops Q rest (a.put o.dst (.tuple #[])) w') : wpList P ops Q (o :: rest) a w := by
  refine wpList_plain hgd fun K hK => ?_
  have hrun := Lib.run_clear_slice (P := P) w t e o.type z ht hv hz h1 g off n c hn hc hf
  unfold Oper.wp
  simp [execOp, ho, resolve, invoke, builtin, hs, hrun, Result.andThen]
  exact hK _ _ (h _ (show _ = _ from rfl))
def Pic.clrS (p : Pic) (m : Nat) : Pic := { p with sh := fun k => if k < m then 0 else p.sh k }
def Pic.clrD (p : Pic) (m : Nat) : Pic := { p with dr := fun k => if k < m then 0 else p.dr k }
theorem Pic.cell_sh (p : Pic) {j : Nat} (h : 31407 ≤ j) : p.cell j = .int .u8 (p.sh (j - 31407)) := by
  unfold Pic.cell
  rw [if_neg (by omega), if_neg (by omega), if_neg (by omega), if_neg (by omega), if_neg (by omega), if_neg (by omega), if_neg (by omega)]
theorem Pic.cell_dr (p : Pic) {j : Nat} (h : 8367 ≤ j) (h2 : j < 31407) : p.cell j = .int .u8 (p.dr (j - 8367)) := by
  unfold Pic.cell
  rw [if_neg (by omega), if_neg (by omega), if_neg (by omega), if_neg (by omega), if_neg (by omega), if_neg (by omega), if_pos h2]
theorem Pic.cellS (p : Pic) (m : Nat) (hm : m < 23040) (j : Nat) (hj : j < 54447) : (if j = 31407 + m then .int .u8 0 else (p.clrS m).cell j) = (p.clrS (m + 1)).cell j := by
  by_cases h : j < 31407
  · rw [if_neg (by omega)]
    unfold Pic.cell Pic.clrS
    dsimp only
    repeat' split
    all_goals first | rfl | omega
  · rw [Pic.cell_sh _ (show 31407 ≤ j by omega), Pic.cell_sh _ (show 31407 ≤ j by omega)]
    unfold Pic.clrS
    dsimp only
    by_cases e : j = 31407 + m
    · rw [if_pos e, if_pos (show j - 31407 < m + 1 by omega)]
    · rw [if_neg e]
      by_cases h2 : j - 31407 < m
      · rw [if_pos h2, if_pos (show j - 31407 < m + 1 by omega)]
      · rw [if_neg h2, if_neg (show ¬ j - 31407 < m + 1 by omega)]
theorem Pic.cellD (p : Pic) (m : Nat) (hm : m < 23040) (j : Nat) (hj : j < 54447) : (if j = 8367 + m then .int .u8 0 else (p.clrD m).cell j) = (p.clrD (m + 1)).cell j := by
  by_cases h : j < 8367
  · rw [if_neg (by omega)]
    unfold Pic.cell Pic.clrD
    dsimp only
    repeat' split
    all_goals first | rfl | omega
  · by_cases h1 : j < 31407
    · rw [Pic.cell_dr _ (show 8367 ≤ j by omega) h1, Pic.cell_dr _ (show 8367 ≤ j by omega) h1]
      unfold Pic.clrD
      dsimp only
      by_cases e : j = 8367 + m
      · rw [if_pos e, if_pos (show j - 8367 < m + 1 by omega)]
      · rw [if_neg e]
        by_cases h2 : j - 8367 < m
        · rw [if_pos h2, if_pos (show j - 8367 < m + 1 by omega)]
        · rw [if_neg h2, if_neg (show ¬ j - 8367 < m + 1 by omega)]
    · rw [if_neg (by omega), Pic.cell_sh _ (show 31407 ≤ j by omega), Pic.cell_sh _ (show 31407 ≤ j by omega)]
      rfl
theorem PxAt.clearS : ∀ (n m : Nat) (w : World), m + n ≤ 23040 → PxAt w b (p.clrS m) → PxAt (w.setCells b (31407 + m) (List.replicate n (.int .u8 0))) b (p.clrS (m + n)) := by
  intro n
  induction n with
  | zero => intro m w hm h; exact h
  | succ n ih =>
    intro m w hm h
    have := ih (m + 1) (w.setCell ⟨b, 31407 + m, none⟩ (.int .u8 0)) (by omega) (h.set _ _ (fun j hj => Pic.cellS p m (by omega) j hj))
    rw [show m + 1 + n = m + (n + 1) by omega] at this
    exact this
theorem PxAt.clearD : ∀ (n m : Nat) (w : World), m + n ≤ 23040 → PxAt w b (p.clrD m) → PxAt (w.setCells b (8367 + m) (List.replicate n (.int .u8 0))) b (p.clrD (m + n)) := by
  intro n
  induction n with
  | zero => intro m w hm h; exact h
  | succ n ih =>
    intro m w hm h
    have := ih (m + 1) (w.setCell ⟨b, 8367 + m, none⟩ (.int .u8 0)) (by omega) (h.set _ _ (fun j hj => Pic.cellD p m (by omega) j hj))
    rw [show m + 1 + n = m + (n + 1) by omega] at this
    exact this
theorem fr_setCells {W w : World} (u : Fr b W w) : ∀ (vs : List Value) (o : Nat), Fr b W (w.setCells b o vs) := by
  intro vs
  induction vs generalizing w with
  | nil => intro o; exact u
  | cons x xs ih => intro o; exact ih (u.setCell (k := o) (v := x)) (o + 1)
theorem PxAt.here {W : World} (h : PxAt W b p) (k : Nat) (hk : k < 54447) : (W.cell? ⟨b, k, none⟩).isSome = true := by rw [h.cell k hk]; rfl
def Pic.setMet (p : Pic) (t : Bool) : Pic := { p with met := t }
def Pic.setRows (p : Pic) (x : Int) : Pic := { p with rows := x }
def Pic.setClk (p : Pic) (x : Int) : Pic := { p with clk := x }
theorem Pic.cellMet (p : Pic) (t : Bool) (j : Nat) : (if j = 8365 then .bool t else p.cell j) = (p.setMet t).cell j := by
  unfold Pic.cell Pic.setMet
  dsimp only
  by_cases e : j = 8365
  · subst e; rfl
  · rw [if_neg e]
    repeat' split
    all_goals first | rfl | omega
theorem Pic.cellRows (p : Pic) (x : Int) (j : Nat) : (if j = 8366 then .int .i64 x else p.cell j) = (p.setRows x).cell j := by
  unfold Pic.cell Pic.setRows
  dsimp only
  by_cases e : j = 8366
  · subst e; rfl
  · rw [if_neg e]
    repeat' split
    all_goals first | rfl | omega
theorem Pic.cellClk (p : Pic) (x : Int) (j : Nat) : (if j = 8364 then .int .i64 x else p.cell j) = (p.setClk x).cell j := by
  unfold Pic.cell Pic.setClk
  dsimp only
  by_cases e : j = 8364
  · subst e; rfl
  · rw [if_neg e]
    repeat' split
    all_goals first | rfl | omega
theorem PxAt.metC {W : World} (h : PxAt W b p) : W.cell? ⟨b, 8365, none⟩ = some (.bool p.met) := by rw [h.cell _ (by omega)]; rfl
theorem PxAt.rowsC {W : World} (h : PxAt W b p) : W.cell? ⟨b, 8366, none⟩ = some (.int .i64 p.rows) := by rw [h.cell _ (by omega)]; rfl
def Pic.forget (p : Pic) : Pic := ((p.clrD 23040).setMet false).setRows 0
theorem clrD0 (p : Pic) : p.clrD 0 = p := by unfold Pic.clrD; congr 1
theorem clrS0 (p : Pic) : p.clrS 0 = p := by unfold Pic.clrS; congr 1
theorem PxAt.clearAllD {W w' : World} (h : PxAt W b p) (e : w' = W.setCells b 8367 (List.replicate 23040 (.int .u8 0))) : PxAt w' b (p.clrD 23040) ∧ Fr b W w' := by
  rw [e]
  have := PxAt.clearD (p := p) 23040 0 W (by omega) (by rw [clrD0]; exact h)
  rw [Nat.add_zero, Nat.zero_add] at this
  exact ⟨this, fr_setCells (Fr.refl b W) _ _⟩
theorem PxAt.clearAllS {W w' : World} (h : PxAt W b p) (e : w' = W.setCells b 31407 (List.replicate 23040 (.int .u8 0))) : PxAt w' b (p.clrS 23040) ∧ Fr b W w' := by
  rw [e]
  have := PxAt.clearS (p := p) 23040 0 W (by omega) (by rw [clrS0]; exact h)
  rw [Nat.add_zero, Nat.zero_add] at this
  exact ⟨this, fr_setCells (Fr.refl b W) _ _⟩
set_option maxRecDepth 100000 in
theorem forget_any (W : World) (h : PxAt W b p) : Calls Try.prog 68 #[.pointer (some ⟨b, 0, none⟩)] W fun e w' => e = .returned (.tuple #[]) ∧ PxAt w' b p.forget ∧ Fr b W w' := by
  have HP : Hid (PxAt W b p) := h
  clear h
  go_enter Try.func68, Try.ntmps68
  go_wp2_with (refine wpList_clear rfl _ 23 rfl 5 (.int .u8 0) Try.underlying23 Try.zeroValue5 rfl rfl b 8367 23040 23040 (by decide) rfl (fun j hj => HP.out.here _ (by omega)) (fun j hj => HP.out.fz _) ?_; intro w1 e1; have h1 := HP.out.clearAllD e1.out; have H1 : Hid _ := h1; have km := h1.1.metC; have kr := h1.1.rowsC; have fm := h1.1.fz 8365; have fr := h1.1.fz 8366; clear e1 h1)
  go_end0
  exact ⟨rfl, (H1.out.1.set 8365 _ (fun j _ => Pic.cellMet _ false j)).set 8366 _ (fun j _ => Pic.cellRows _ 0 j), H1.out.2.setCell.setCell⟩
end Go.Proofs.Ytmjfccdhjhkocaa
