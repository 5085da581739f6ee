/- Acts and what instructions do, all of them, over the translation. -/
import Derived.Test.YtdkibohpdkdooaaGreatDoorCpW
import Derived.Test.YtdkibohpdkdooaaGreatDoorCpQz
namespace Go.Proofs.YtdkibohpdkdooaaGreatDoor
open Go.RowKit
set_option linter.unusedVariables false
/-- such as a processor is between cycles -/
structure St.Inv (s : St) : Prop where
  ok : s.Ok
  md : s.many ≤ s.done
  ask : oneBit s.asked
  live : s.phase = 0 ∨ s.row.act s.done ≠ 0
theorem fine_act (r : Row) (h : r.fine = true) (i : Int) (h0 : 0 ≤ i) (h1 : i ≤ 5) (hz : r.act i ≠ 0) : i ≤ 4 ∧ r.act i ≠ 2 ∧ r.act i ≠ 28 ∨ i = 3 ∧ r.act i ≠ 2 ∧ r.act i = 28 ∨ i = 4 ∧ r.act i ≠ 2 ∧ r.act i = 28 := by
  simp [Row.fine] at h
  have : i = 0 ∨ i = 1 ∨ i = 2 ∨ i = 3 ∨ i = 4 ∨ i = 5 := by omega
  rcases this with rfl | rfl | rfl | rfl | rfl | rfl <;> simp [Row.act] at hz ⊢ <;> omega
theorem fine_read (r : Row) (h : r.fine = true) (i : Int) (h0 : 0 ≤ i) (h1 : i ≤ 5) (h2 : 2 ≤ r.act i) (h3 : r.act i < 12) : i ≤ 2 := by
  simp [Row.fine] at h
  have : i = 0 ∨ i = 1 ∨ i = 2 ∨ i = 3 ∨ i = 4 ∨ i = 5 := by omega
  rcases this with rfl | rfl | rfl | rfl | rfl | rfl <;> simp [Row.act] at h2 h3 ⊢ <;> omega
theorem live_done (s : St) (v : s.Inv) (hp : s.phase ≠ 0) : s.done ≤ 4 ∧ s.row.act s.done ≠ 2 ∧ (2 ≤ s.row.act s.done → s.row.act s.done < 12 → s.done ≤ 2) := by
  have hz : s.row.act s.done ≠ 0 := by rcases v.live with h | h; exact absurd h hp; exact h
  have d0 := v.ok.done.1
  have d1 := v.ok.done.2
  have hh : s.row = dispRow ∨ s.row.fine = true := by
    unfold St.row
    split
    · exact Or.inl rfl
    split
    · exact Or.inr (secondP_fine _)
    · exact Or.inr (codeRow_fine _)
  rcases hh with hh | hh
  · rw [hh] at hz ⊢
    have : s.done = 0 ∨ s.done = 1 ∨ s.done = 2 ∨ s.done = 3 ∨ s.done = 4 ∨ s.done = 5 := by omega
    rcases this with e | e | e | e | e | e <;> rw [e] at hz ⊢ <;> revert hz <;> decide
  · have h1 := fine_act _ hh s.done d0 d1 hz
    exact ⟨by omega, by omega, fun a b => fine_read _ hh s.done d0 d1 a b⟩
theorem next_live (s : St) (v : s.Inv) (hs : s.state = 0) : (s.phase = 0 ∧ s.next = 2) ∨ (s.phase ≠ 0 ∧ s.next ≠ 2 ∧ s.done ≤ 4 ∧ (2 ≤ s.next → s.next < 12 → s.many ≤ 2)) := by
  unfold St.next
  rw [if_neg (by simp [hs])]
  by_cases hp : s.phase = 0
  · rw [if_pos hp]; exact Or.inl ⟨hp, rfl⟩
  · rw [if_neg hp]
    have := live_done s v hp
    exact Or.inr ⟨hp, this.2.1, this.1, fun a b => by have := this.2.2 a b; have := v.md; omega⟩
theorem act_any (d l : Int) (b : Nat) (s : St) (w : World) (h : Cp w b s) (v : s.Inv) (hs : s.state = 0) (hd : 0 ≤ d ∧ d ≤ 255) (hl : 0 ≤ l ∧ l ≤ 31) :
    Calls Tryz.prog 25 #[.pointer (some ⟨b, 0, none⟩), .int .u8 d, .int .u8 l] w fun e w' => e = .returned (.tuple #[]) ∧ Cp w' b (s.act d l) ∧ Fr b w w' := by
  unfold St.act
  rcases next_live s v hs with ⟨hp, hn⟩ | ⟨hp, hn, ho, hm⟩
  · rw [if_pos hn]
    exact act_first d l b s w h v.ok hd hl hn
  · rw [if_neg hn]
    by_cases h28 : s.next = 28
    · rw [if_pos h28]
      exact act_asked d l b s w h v.ok hd hl h28 ho
    · rw [if_neg h28]
      by_cases hr : 2 ≤ s.next ∧ s.next < 12
      · rw [if_pos hr]
        have hm2 := hm hr.1 hr.2
        have hm0 := v.ok.many.1
        have : s.many = 0 ∨ s.many = 1 ∨ s.many = 2 := by omega
        rcases this with e | e | e
        · have := act_read0 d l b s w h v.ok hd hl (by omega) hr.2 ho e
          rw [e]; exact this
        · have := act_read1 d l b s w h v.ok hd hl (by omega) hr.2 ho e
          rw [e]; exact this
        · have := act_read2 d l b s w h v.ok hd hl (by omega) hr.2 ho e
          rw [e]; exact this
      · rw [if_neg hr]
        exact act_other d l b s w h v.ok hd hl hn h28 hr ho
theorem act_ok (d l : Int) (s : St) (v : s.Inv) (hs : s.state = 0) (hd : 0 ≤ d ∧ d ≤ 255) : (s.act d l).Ok ∧ (s.act d l).many ≤ (s.act d l).done ∧ oneBit (s.act d l).asked ∧ (s.act d l).phase ≠ 0 ∧ (s.act d l).state = 0 := by
  have o := v.ok
  have hlb : 0 ≤ lowBit l ∧ lowBit l ≤ 31 := by
    have := lowBit_one l
    unfold oneBit at this
    omega
  unfold St.act
  rcases next_live s v hs with ⟨hp, hn⟩ | ⟨hp, hn, ho, hm⟩
  · rw [if_pos hn]
    exact ⟨{ o with phase := (show (0 : Int) ≤ 1 ∧ (1 : Int) ≤ 2 by decide), code := hd, done := (show (0 : Int) ≤ 0 ∧ (0 : Int) ≤ 5 by decide), rd := fun _ => (show (0 : Int) ≤ 0 ∧ (0 : Int) ≤ 255 by decide), many := (show (0 : Int) ≤ 0 ∧ (0 : Int) ≤ 3 by decide), asked := (show (0 : Int) ≤ 0 ∧ (0 : Int) ≤ 31 by decide) }, Int.le_refl _, Or.inl rfl, by show (1 : Int) ≠ 0; decide, hs⟩
  · rw [if_neg hn]
    have d0 := o.done.1
    have hd5 : 0 ≤ s.done + 1 ∧ s.done + 1 ≤ 5 := by omega
    split
    · exact ⟨{ o with done := hd5, asked := hlb }, by have := v.md; show s.many ≤ s.done + 1; omega, lowBit_one l, hp, hs⟩
    split
    · rename_i hr
      have hm2 := hm hr.1 hr.2
      have hm0 := o.many.1
      exact ⟨{ o with done := hd5, rd := upd_ok o.rd _ _ hd, many := (show 0 ≤ s.many + 1 ∧ s.many + 1 ≤ 3 by omega) }, by have := v.md; show s.many + 1 ≤ s.done + 1; omega, v.ask, hp, hs⟩
    · exact ⟨{ o with done := hd5 }, by have := v.md; show s.many ≤ s.done + 1; omega, v.ask, hp, hs⟩
/-- every one of them -/
theorem does_any (d : Nat) (hd : d ≤ 32) (b : Nat) (s : St) (w : World) (h : Cp w b s) (o : s.Ok) (hL : Lb b w) (ha : oneBit s.asked) :
    Calls Tryz.prog (doesF d) #[.pointer (some ⟨b, 0, none⟩)] w fun e w' => e = .returned (.tuple #[]) ∧ Cp w' b (doP d s) ∧ Fr b w w' := by
  rcases cases33 hd with rfl | rfl | rfl | rfl | rfl | rfl | rfl | rfl | rfl | rfl | rfl | rfl | rfl | rfl | rfl | rfl | rfl | rfl | rfl | rfl | rfl | rfl | rfl | rfl | rfl | rfl | rfl | rfl | rfl | rfl | rfl | rfl | rfl
  · exact nothing_does b s w h o
  · exact halt_does b s w h o
  · exact stop_does b s w h o
  · exact lock_does b s w h o
  · exact ei_does b s w h o
  · exact di_does b s w h o
  · exact jump_does b s w h o
  · exact jumpHL_does b s w h o
  · exact jumpNear_does b s w h o
  · exact call_does b s w h o
  · exact restart_does b s w h o
  · exact ret_does b s w h o
  · exact reti_does b s w h o
  · exact push_does b s w h o
  · exact pop_does b s w h o
  · exact move_does b s w h o
  · exact loadA_does b s w h o
  · exact hlUp_does b s w h o
  · exact hlDown_does b s w h o
  · exact loadAUp_does b s w h o
  · exact loadADown_does b s w h o
  · exact loadPair_does b s w h o
  · exact loadSP_does b s w h o
  · exact pairUp_does b s w h o
  · exact pairDown_does b s w h o
  · exact addPair_does b s w h o
  · exact addSP_does b s w h o
  · exact loadHL_does b s w h o
  · exact sum_does b s w h o
  · exact turn_does b s w h o hL
  · exact step_does b s w h o
  · exact alter_does b s w h o hL
  · exact enter_does b s w h o ha
end Go.Proofs.YtdkibohpdkdooaaGreatDoor
