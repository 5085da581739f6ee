import Derived.Test.YtlgfpddiebdmaaaGreatDoorCpX
import Derived.Test.YtlgfpddiebdmaaaGreatDoorCq
import Derived.Laws.CopyOwn
import Derived.Deep.OwnRows
import Derived.OwnWalk
import Derived.Laws.AppendOwn
import Derived.Maps.AppendAt
import Derived.Laws.BytesArg
import Derived.ArgAppend
import Derived.Deep.Onto
import Derived.Deep.MidRow
import Derived.StillTailTactics
import Derived.BigQuiet
/- A processor's state as bytes, and the way back, plainly. No condition. -/
namespace Go.Proofs.YtlgfpddiebdmaaaGreatDoor
open Go.RowKit
set_option linter.unusedVariables false
def bI (b : Bool) (n : Int) : Int := if b then n else 0
/-- the bytes of a state -/
def St.enc (s : St) (k : Nat) : Int :=
  if k = 0 then 203 else if k < 9 then s.r (k - 1) else if k = 9 then s.sp % 256 else if k = 10 then s.sp / 256 else if k = 11 then s.pc % 256 else if k = 12 then s.pc / 256
  else if k = 13 then bI s.ime 1 + bI s.due 2 + bI s.twice 4 else if k = 14 then s.state else if k = 15 then s.phase else if k = 16 then s.code else if k = 17 then s.done
  else if k < 21 then s.rd (k - 18) else s.asked
/-- F has no lower bits -/
theorem flg16 (a b c d : Bool) : flg a b c d % 16 = 0 := by cases a <;> cases b <;> cases c <;> cases d <;> decide
theorem m16 (f : Int) : f / 16 * 16 % 16 = 0 := by omega
theorem arF16 (op a b f : Int) : arF op a b f % 16 = 0 := by
  unfold arF
  repeat' split
  all_goals first | exact flg16 _ _ _ _ | exact m16 _
theorem stF16 (op a f : Int) : stF op a f % 16 = 0 := by
  unfold stF
  repeat' split
  all_goals first | exact flg16 _ _ _ _ | exact m16 _
theorem shF16 (op a f : Int) : shF op a f % 16 = 0 := by
  unfold shF
  repeat' split
  all_goals first | exact flg16 _ _ _ _ | exact m16 _
theorem tuF16 (op a f : Int) : tuF op a f % 16 = 0 := by
  unfold tuF
  repeat' split
  all_goals first | exact flg16 _ _ _ _ | exact m16 _ | (unfold daF; first | exact flg16 _ _ _ _ | (repeat' split; all_goals first | exact flg16 _ _ _ _ | exact m16 _))
theorem biF16 (n a f : Int) : biF n a f % 16 = 0 := by
  unfold biF
  repeat' split
  all_goals first | exact flg16 _ _ _ _ | exact m16 _
theorem altF16 (c v f : Int) (h : f % 16 = 0) : altF c v f % 16 = 0 := by
  unfold altF
  repeat' split
  · exact shF16 _ _ _
  · exact biF16 _ _ _
  · exact h
def F16 (s : St) : Prop := s.r 6 % 16 = 0
theorem upd_same (r : Nat → Int) (n : Nat) (v : Int) : upd r n v n = v := if_pos rfl
theorem upd_else (r : Nat → Int) (n k : Nat) (v : Int) (h : k ≠ n) : upd r n v k = r k := if_neg h
theorem f16_6 {s : St} {r : Nat → Int} {v : Int} (e : s.r = upd r 6 v) (h : v % 16 = 0) : F16 s := by unfold F16; rw [e, upd_same]; exact h
theorem f16_n {s : St} {r : Nat → Int} {n : Nat} {v : Int} (e : s.r = upd r n v) (hn : 6 ≠ n) (h : r 6 % 16 = 0) : F16 s := by unfold F16; rw [e, upd_else _ _ _ _ hn]; exact h
theorem F16.setPair {s : St} (h : F16 s) (p w : Int) (hp : 0 ≤ p ∧ p ≤ 3) : F16 (s.setPair p w) := by
  unfold St.setPair
  split
  · exact h
  · exact f16_n rfl (by omega) (by rw [upd_else _ _ _ _ (by omega)]; exact h)
theorem F16.setPushed {s : St} (h : F16 s) (p w : Int) (hp : 0 ≤ p ∧ p ≤ 3) : F16 (s.setPushed p w) := by
  unfold St.setPushed
  split
  · exact f16_6 rfl (m16 _)
  · exact h.setPair p w hp
theorem F16.setByte {s : St} (h : F16 s) (n w : Int) (hn : 0 ≤ n ∧ n ≤ 7) : F16 (s.setByte n w) := by
  unfold St.setByte
  split
  · exact h
  · exact f16_n rfl (by omega) h
theorem F16.six {s : St} {v : Int} (h : v % 16 = 0) : F16 (s.setReg 6 v) := f16_6 rfl h
theorem F16.seven {s : St} {v : Int} (h : F16 s) : F16 (s.setReg 7 v) := f16_n rfl (by omega) h
theorem F16.hlAdd {s : St} (h : F16 s) (d : Int) : F16 (s.hlAdd d) := h.setPair 2 _ (by decide)
theorem doP_f16 (d : Nat) (hd : d ≤ 32) (s : St) (o : s.Ok) (h : F16 s) : F16 (doP d s) := by
  have hp := o.p
  have hy := o.y
  rcases cases33 hd with rfl | rfl | rfl | rfl | rfl | rfl | rfl | rfl | rfl | rfl | rfl | rfl | rfl | rfl | rfl | rfl | rfl | rfl | rfl | rfl | rfl | rfl | rfl | rfl | rfl | rfl | rfl | rfl | rfl | rfl | rfl | rfl | rfl
  · exact h
  · exact h
  · exact h
  · exact h
  · show F16 s.ei
    unfold St.ei
    split
    · exact h
    · exact h
  · exact h
  · exact h
  · exact h
  · exact h
  · exact h
  · exact h
  · exact h
  · exact h
  · exact h
  · exact F16.setPushed (s := s.spUp) h _ _ hp
  · exact h.setByte _ _ hy
  · exact h.seven
  · exact h.hlAdd 1
  · exact h.hlAdd (-1)
  · exact h.seven.hlAdd 1
  · exact h.seven.hlAdd (-1)
  · exact h.setPair _ _ hp
  · exact h
  · exact h.setPair _ _ hp
  · exact h.setPair _ _ hp
  · exact F16.six (flg16 _ _ _ _)
  · exact f16_6 (s := doP _ _) rfl (flg16 _ _ _ _)
  · exact F16.six (flg16 _ _ _ _)
  · exact f16_6 (s := doP _ _) rfl (arF16 _ _ _ _)
  · exact f16_6 (s := doP _ _) rfl (tuF16 _ _ _)
  · exact F16.six (stF16 _ _ _)
  · exact F16.six (altF16 _ _ _ h)
  · exact h
/-- what is due, what is read twice, whether interrupts are let, what it does -/
structure Keep (s t : St) : Prop where
  due : t.due = s.due
  ime : t.ime = s.ime
  state : t.state = s.state
  twice : t.twice = s.twice
theorem Keep.refl (s : St) : Keep s s := ⟨rfl, rfl, rfl, rfl⟩
theorem Keep.trans {s t u : St} (h : Keep s t) (k : Keep t u) : Keep s u := ⟨k.due.trans h.due, k.ime.trans h.ime, k.state.trans h.state, k.twice.trans h.twice⟩
theorem keep_pair (s : St) (p w : Int) : Keep s (s.setPair p w) := by unfold St.setPair; split <;> exact ⟨rfl, rfl, rfl, rfl⟩
theorem keep_hl (s : St) (d : Int) : Keep s (s.hlAdd d) := keep_pair _ _ _
theorem keep_pushed (s : St) (p w : Int) : Keep s (s.setPushed p w) := by unfold St.setPushed; split; exact ⟨rfl, rfl, rfl, rfl⟩; exact keep_pair _ _ _
theorem keep_byte (s : St) (p w : Int) : Keep s (s.setByte p w) := by unfold St.setByte; split <;> exact ⟨rfl, rfl, rfl, rfl⟩
theorem keep_reg (s : St) (p : Nat) (w : Int) : Keep s (s.setReg p w) := ⟨rfl, rfl, rfl, rfl⟩
/-- an instruction makes something due only where nothing was let and it goes on -/
theorem doP_due (d : Nat) (hd : d ≤ 32) (s : St) (h : s.due = false) : (doP d s).due = true → (doP d s).ime = false ∧ (doP d s).state = s.state := by
  have K : ∀ t, Keep s t → t.due = true → t.ime = false ∧ t.state = s.state := fun t k e => by rw [k.due, h] at e; cases e
  rcases cases33 hd with rfl | rfl | rfl | rfl | rfl | rfl | rfl | rfl | rfl | rfl | rfl | rfl | rfl | rfl | rfl | rfl | rfl | rfl | rfl | rfl | rfl | rfl | rfl | rfl | rfl | rfl | rfl | rfl | rfl | rfl | rfl | rfl | rfl
  · exact K _ (Keep.refl s)
  · intro e; exact absurd (h.symm.trans e) (by decide)
  · intro e; exact absurd (h.symm.trans e) (by decide)
  · intro e; exact absurd (h.symm.trans e) (by decide)
  · show s.ei.due = true → s.ei.ime = false ∧ s.ei.state = s.state
    unfold St.ei
    split
    · intro e; exact absurd (h.symm.trans e) (by decide)
    · rename_i hi
      intro _
      exact ⟨by simpa using hi, rfl⟩
  · intro e; exact absurd (show false = true from e) (by decide)
  · intro e; exact absurd (h.symm.trans e) (by decide)
  · intro e; exact absurd (h.symm.trans e) (by decide)
  · intro e; exact absurd (h.symm.trans e) (by decide)
  · intro e; exact absurd (h.symm.trans e) (by decide)
  · intro e; exact absurd (h.symm.trans e) (by decide)
  · intro e; exact absurd (h.symm.trans e) (by decide)
  · intro e; exact absurd (h.symm.trans e) (by decide)
  · intro e; exact absurd (h.symm.trans e) (by decide)
  · exact K _ ((show Keep s s.spUp from ⟨rfl, rfl, rfl, rfl⟩).trans (keep_pushed s.spUp _ _))
  · exact K _ (keep_byte _ _ _)
  · exact K _ (keep_reg _ _ _)
  · exact K _ (keep_hl s 1)
  · exact K _ (keep_hl s (-1))
  · exact K _ ((keep_reg s 7 _).trans (keep_hl _ 1))
  · exact K _ ((keep_reg s 7 _).trans (keep_hl _ (-1)))
  · exact K _ (keep_pair _ _ _)
  · intro e; exact absurd (h.symm.trans e) (by decide)
  · exact K _ (keep_pair _ _ _)
  · exact K _ (keep_pair _ _ _)
  · exact K _ ((keep_pair s 2 _).trans (keep_reg _ 6 _))
  · intro e; exact absurd (h.symm.trans e) (by decide)
  · exact K _ ((keep_pair s 2 _).trans (keep_reg _ 6 _))
  · intro e; exact absurd (h.symm.trans e) (by decide)
  · intro e; exact absurd (h.symm.trans e) (by decide)
  · exact K _ ((keep_byte s _ _).trans (keep_reg _ 6 _))
  · exact K _ ((keep_byte s _ _).trans (keep_reg _ 6 _))
  · intro e; exact absurd (h.symm.trans e) (by decide)
/-- what of a processor is sound -/
structure Sn (s : St) : Prop where
  f16 : F16 s
  dt : s.due = true ∨ s.twice = true → s.due ≠ s.twice ∧ s.ime = false ∧ s.state = 0 ∧ s.phase ≠ 2
  d2 : s.phase = 2 → s.ime = true ∧ s.state = 0
  d1 : s.phase = 1 → s.state = 0
theorem Sn.look {s : St} (h : Sn s) (hp : s.phase = 0) (l : Int) : Sn (s.look l) := by
  unfold St.look
  split
  · exact h
  split
  · rename_i hi
    exact ⟨h.f16, fun e => (by have := (h.dt e).2.1; rw [hi] at this; cases this), fun _ => ⟨hi, rfl⟩, fun e => (by cases e)⟩
  · exact ⟨h.f16, fun e => (by obtain ⟨a, b, c, d⟩ := h.dt e; exact ⟨a, b, rfl, d⟩), fun e => (by rw [show s.phase = 2 from e] at hp; cases hp), fun e => rfl⟩
theorem Sn.act {s : St} (h : Sn s) (hs : s.state = 0) (d l : Int) : Sn (s.act d l) := by
  unfold St.act
  split
  · rename_i hn
    have hp : s.phase = 0 ∨ s.phase ≠ 0 := by omega
    exact ⟨h.f16, fun e => (by obtain ⟨a, b, c, _⟩ := h.dt e; exact ⟨a, b, c, by show (1 : Int) ≠ 2; decide⟩), fun e => (by cases e), fun _ => hs⟩
  split
  · exact ⟨h.f16, h.dt, h.d2, h.d1⟩
  split
  · exact ⟨h.f16, h.dt, h.d2, h.d1⟩
  · exact ⟨h.f16, h.dt, h.d2, h.d1⟩
theorem row_disp_d' (s : St) (h : s.phase = 2) : s.row.d = 32 := by unfold St.row; rw [if_pos h]; rfl
theorem Sn.end {v : St} (hf : F16 v) (hE : v.due = true → v.ime = false ∧ v.state = 0) (l : Int) : Sn ((v.twices l).look l) := by
  have tw : (v.twices l).twice = (v.state == 1 && l != 0 && !v.ime) := rfl
  have du : (v.twices l).due = v.due := rfl
  have im : (v.twices l).ime = v.ime := rfl
  have st : (v.twices l).state = v.state := rfl
  have ph : (v.twices l).phase = 0 := rfl
  have fr : F16 (v.twices l) := hf
  generalize v.twices l = t at *
  unfold St.look
  split
  · rename_i hc
    have ht : t.twice = false := by
      rw [tw]
      rcases hc with hc | hc
      · rw [hc]; simp
      · rw [st] at hc; rw [hc]; simp
    refine ⟨fr, fun e => ?_, fun e => (by rw [ph] at e; cases e), fun e => (by rw [ph] at e; cases e)⟩
    rcases e with e | e
    · have := hE (du ▸ e)
      exact ⟨by rw [e, ht]; decide, by rw [im]; exact this.1, by rw [st]; exact this.2, by rw [ph]; decide⟩
    · rw [ht] at e; cases e
  split
  · rename_i hi
    rw [im] at hi
    refine ⟨fr, fun e => ?_, fun _ => ⟨by rw [← im] at hi; exact hi, rfl⟩, fun e => (by cases e)⟩
    rcases e with e | e
    · have := (hE (du.symm.trans e)).1
      rw [hi] at this; cases this
    · have : t.twice = true := e
      rw [tw, hi] at this
      simp at this
  · rename_i hi
    rw [im] at hi
    refine ⟨fr, fun e => ?_, fun e => (by rw [show t.phase = 2 from e] at ph; cases ph), fun e => rfl⟩
    refine ⟨?_, by show t.ime = false; rw [im]; simpa using hi, rfl, by show t.phase ≠ 2; rw [ph]; decide⟩
    show t.due ≠ t.twice
    rcases e with e | e
    · have e' : t.due = true := e
      have := (hE (du.symm.trans e')).2
      rw [e', tw, this]
      simp
    · have e' : t.twice = true := e
      cases hq : t.due
      · rw [e']; decide
      · have := (hE (du.symm.trans hq)).2
        rw [tw, this] at e'
        simp at e'
theorem Sn.tick1 {s : St} (h : Sn s) (o : s.Ok) (hp0 : s.phase ≠ 0) (hs : s.state = 0) (l : Int) : Sn (s.tick1 l).1 := by
  unfold St.tick1
  by_cases ho : s.over s.row = true
  · rw [if_pos ho]
    show Sn (if s.phase = 2 then doP s.row.d s else s.finish s.row l)
    split
    · rename_i hp
      rw [row_disp_d' s hp]
      have hi := (h.d2 hp).1
      exact ⟨h.f16, fun e => (by have := (h.dt e).2.1; rw [hi] at this; cases this), fun e => (by cases e), fun e => (by cases e)⟩
    · rename_i hp
      unfold St.finish
      generalize hg : s.go ((s.behindFirst + s.row.further) % 65536) = g
      have gd : g.due = s.due := by rw [← hg]; rfl
      have gs : g.state = 0 := by rw [← hg]; exact hs
      have go : g.Ok := by rw [← hg]; exact o.go _ (by omega)
      have gf : F16 g := by rw [← hg]; exact h.f16
      have hD : F16 (g.does s.row) ∧ (s.due = false → (g.does s.row).due = true → (g.does s.row).ime = false ∧ (g.does s.row).state = 0) := by
        unfold St.does
        split
        · refine ⟨doP_f16 _ (row_d s) g go gf, fun e e2 => ?_⟩
          have := doP_due s.row.d (row_d s) g (gd.trans e) e2
          exact ⟨this.1, this.2.trans gs⟩
        · exact ⟨gf, fun e e2 => by rw [gd, e] at e2; cases e2⟩
      generalize g.does s.row = u at hD ⊢
      have hE : F16 (u.dues s.due) ∧ ((u.dues s.due).due = true → (u.dues s.due).ime = false ∧ (u.dues s.due).state = 0) := by
        unfold St.dues
        split
        · exact ⟨hD.1, fun e => by cases e⟩
        · rename_i hn
          refine ⟨hD.1, fun e => hD.2 ?_ e⟩
          cases hq : s.due
          · rfl
          · rw [hq, e] at hn
            exact absurd rfl hn
      generalize u.dues s.due = v at hE ⊢
      exact Sn.end hE.1 hE.2 l
  · rw [if_neg ho]
    exact h
theorem Sn.tick {s : St} (h : Sn s) (v : s.Inv) (d l : Int) : Sn (s.tick d l).1 := by
  unfold St.tick
  by_cases hs : s.state = 0
  · rw [if_neg (by simp [hs])]
    obtain ⟨h1, h2, h3, h4, h5⟩ := act_ok (d % 256) (l % 32) s v hs (by omega)
    exact (h.act hs _ _).tick1 h1 h4 h5 _
  · rw [if_pos hs]
    refine h.look ?_ _
    have hb := v.ok.phase
    have : s.phase = 0 ∨ s.phase = 1 ∨ s.phase = 2 := by omega
    rcases this with e | e | e
    · exact e
    · exact absurd (h.d1 e) hs
    · exact absurd (h.d2 e).2 hs
/-- no instruction asks which interrupt is taken -/
def Row.n28 (r : Row) : Bool := r.a0 != 28 && r.a1 != 28 && r.a2 != 28 && r.a3 != 28 && r.a4 != 28 && r.a5 != 28
theorem getD_n28 (l : List Row) (h : l.all Row.n28 = true) (k : Nat) : (l.getD k noRow).n28 = true := by
  rw [List.getD_eq_getElem?_getD]
  cases hk : l[k]? with
  | none => rfl
  | some r => exact List.all_eq_true.1 h r (List.mem_of_getElem? hk)
theorem codeRow_n28 (c : Int) : (codeRow c).n28 = true := by
  unfold codeRow
  split
  · unfold lowP
    repeat' split
    · exact getD_n28 _ (by decide) _
    · exact getD_n28 _ (by decide) _
    · exact getD_n28 _ (by decide) _
    · exact getD_n28 _ (by decide) _
    · unfold byteP; repeat' split
      all_goals decide
  split
  · unfold moveP; repeat' split
    all_goals decide
  split
  · unfold sumP; repeat' split
    all_goals decide
  · unfold highP
    repeat' split
    · exact getD_n28 _ (by decide) _
    · exact getD_n28 _ (by decide) _
    · exact getD_n28 _ (by decide) _
    · exact getD_n28 _ (by decide) _
    · unfold callP; repeat' split
      all_goals decide
theorem secondP_n28 (c : Int) : (secondP c).n28 = true := by unfold secondP; (repeat' split) <;> decide
theorem act_n28 (s : St) (h : s.phase ≠ 2) (i : Int) : s.row.act i ≠ 28 := by
  have hr : s.row.n28 = true := by
    unfold St.row
    rw [if_neg h]
    split
    · exact secondP_n28 _
    · exact codeRow_n28 _
  unfold Row.n28 at hr
  simp at hr
  unfold Row.act
  repeat' split
  all_goals omega
theorem disp28 (i : Int) (h : dispRow.act i = 28) : i = 3 := by
  unfold Row.act at h
  repeat' split at h
  all_goals first | omega | (simp [dispRow] at h)
/-- the cycles of an instruction, or a dispatch -/
inductive Wy (c : St) : St → Prop
  | start : Wy c c
  | step {s : St} {d l : Int} : Wy c s → s.over s.row = false → s.phase ≠ 0 → s.state = 0 → s.Inv → Wy c (s.act d l)
/-- they are done again -/
def fol (x : Nat → Int) : Nat → St → St
  | 0, c => c
  | n + 1, c => if c.done < x 17 ∧ c.over c.row = false then fol x n (c.act (x (18 + c.many.toNat)) (x 21 % 32)) else c
structure Ext (x : Nat → Int) (s : St) : Prop where
  rd : ∀ k : Nat, (k : Int) < s.many → x (18 + k) = s.rd k
  ask : s.phase = 2 → 4 ≤ s.done → lowBit (x 21 % 32) = s.asked
  dn : s.done ≤ x 17
theorem next_run' {s : St} (hs : s.state = 0) (hp : s.phase ≠ 0) : s.next = s.row.act s.done := by
  unfold St.next
  rw [if_neg (by simp [hs]), if_neg hp]
theorem act_done {s : St} (v : s.Inv) (hs : s.state = 0) (hp : s.phase ≠ 0) (d l : Int) : (s.act d l).done = s.done + 1 := by
  rcases next_live s v hs with ⟨h, _⟩ | ⟨_, hn, _⟩
  · exact absurd h hp
  unfold St.act
  rw [if_neg hn]
  repeat' split
  all_goals rfl
/-- one cycle, done again -/
theorem act_again {s : St} (v : s.Inv) (hs : s.state = 0) (hp : s.phase ≠ 0) {x : Nat → Int} {d l : Int} (e : Ext x (s.act d l)) : s.act (x (18 + s.many.toNat)) (x 21 % 32) = s.act d l ∧ Ext x s := by
  have hd := act_done v hs hp d l
  have hl : s.next = s.row.act s.done := next_run' hs hp
  rcases next_live s v hs with ⟨h, _⟩ | ⟨_, hn, hdn, hm⟩
  · exact absurd h hp
  have m0 := v.ok.many.1
  unfold St.act at e hd ⊢
  rw [if_neg hn] at e hd ⊢
  rw [if_neg hn]
  by_cases h28 : s.next = 28
  · rw [if_pos h28] at e hd ⊢
    rw [if_pos h28]
    have hp2 : s.phase = 2 := by
      by_cases h2 : s.phase = 2
      · exact h2
      · exact absurd (hl.symm.trans h28) (act_n28 s h2 s.done)
    have hr : s.row = dispRow := by unfold St.row; rw [if_pos hp2]
    have h3 : s.done = 3 := disp28 s.done (by rw [← hr, ← hl]; exact h28)
    have ea := e.ask hp2 (by show 4 ≤ s.done + 1; omega)
    refine ⟨?_, ⟨e.rd, fun _ h4 => by omega, by have := e.dn; have : s.done + 1 ≤ x 17 := this; omega⟩⟩
    have ea' : lowBit (x 21 % 32) = lowBit l := ea
    rw [ea']
  · rw [if_neg h28] at e hd ⊢
    rw [if_neg h28]
    have a3 : s.phase = 2 → 4 ≤ s.done → lowBit (x 21 % 32) = s.asked := fun a b => by
      have : s.next = 28 ∨ 4 ≤ s.done := Or.inr b
      split at e
      · exact e.ask a (by show 4 ≤ s.done + 1; omega)
      · exact e.ask a (by show 4 ≤ s.done + 1; omega)
    by_cases hr : 2 ≤ s.next ∧ s.next < 12
    · rw [if_pos hr] at e hd ⊢
      rw [if_pos hr]
      have hm2 := hm hr.1 hr.2
      have q := e.rd s.many.toNat (by show ((s.many.toNat : Nat) : Int) < s.many + 1; omega)
      have q' : x (18 + s.many.toNat) = d := q.trans (upd_same _ _ _)
      refine ⟨by rw [q'], ⟨fun k hk => ?_, a3, by have : s.done + 1 ≤ x 17 := e.dn; omega⟩⟩
      have := e.rd k (by show (k : Int) < s.many + 1; omega)
      exact this.trans (upd_else _ _ _ _ (by omega))
    · rw [if_neg hr] at e hd ⊢
      rw [if_neg hr]
      exact ⟨rfl, ⟨e.rd, a3, by have : s.done + 1 ≤ x 17 := e.dn; omega⟩⟩
theorem fol_wy {c s : St} (h : Wy c s) (hc : c.done = 0) (x : Nat → Int) (e : Ext x s) : ∀ n, fol x (s.done.toNat + n) c = fol x n s := by
  induction h with
  | start => intro n; rw [hc]; rw [show (0 : Int).toNat + n = n by omega]
  | step w ho hp hs v ih =>
    intro n
    rename_i s d l
    obtain ⟨ha, he⟩ := act_again v hs hp e
    have hd := act_done v hs hp d l
    have d0 := v.ok.done.1
    have dn := e.dn
    rw [hd] at dn
    rw [hd, show (s.done + 1).toNat + n = s.done.toNat + (n + 1) by omega, ih he (n + 1)]
    show (if s.done < x 17 ∧ s.over s.row = false then fol x n (s.act (x (18 + s.many.toNat)) (x 21 % 32)) else s) = _
    rw [if_pos ⟨by omega, ho⟩, ha]
theorem fol_stop {x : Nat → Int} {s : St} (h : s.done = x 17) : ∀ n, fol x n s = s
  | 0 => rfl
  | n + 1 => by
    show (if s.done < x 17 ∧ s.over s.row = false then _ else s) = s
    rw [if_neg (by omega)]
/-- a processor that has come so by cycles -/
structure Rep (s : St) : Prop where
  sn : Sn s
  way : (s.phase = 0 ∧ s.rest = s) ∨ (s.phase = 1 ∧ s.over s.row = false ∧ Wy (s.begun s.code) s) ∨ (s.phase = 2 ∧ s.over s.row = false ∧ Wy s.disp s)
theorem act_keeps {s : St} (hs : s.state = 0) (hp : s.phase ≠ 0) (v : s.Inv) (d l : Int) : (s.act d l).begun = s.begun ∧ (s.act d l).disp = s.disp ∧ (s.act d l).phase = s.phase ∧ (s.act d l).code = s.code := by
  rcases next_live s v hs with ⟨h, _⟩ | ⟨_, hn, _⟩
  · exact absurd h hp
  unfold St.act
  rw [if_neg hn]
  repeat' split
  all_goals exact ⟨rfl, rfl, rfl, rfl⟩
theorem rest_look {s : St} (h : s.rest = s) (hp : s.phase = 0) (l : Int) : (s.look l).phase = 0 ∧ (s.look l).rest = s.look l ∨ (s.look l).phase = 2 ∧ (s.look l).disp = s.look l := by
  unfold St.look
  split
  · exact Or.inl ⟨hp, h⟩
  split
  · exact Or.inr ⟨rfl, rfl⟩
  · refine Or.inl ⟨hp, ?_⟩
    have e := congrArg (fun t : St => { t with state := 0 }) h
    exact e
theorem Rep.ofLook {s : St} {l : Int} (sn : Sn (s.look l)) (h : s.rest = s) (hp : s.phase = 0) : Rep (s.look l) := by
  refine ⟨sn, ?_⟩
  rcases rest_look h hp l with ⟨h1, h2⟩ | ⟨h1, h2⟩
  · exact Or.inl ⟨h1, h2⟩
  · refine Or.inr (Or.inr ⟨h1, ?_, ?_⟩)
    · rw [← h2]
      rfl
    · rw [h2]
      exact Wy.start
theorem Rep.tick {s : St} (h : Rep s) (v : s.Inv) (d l : Int) : Rep (s.tick d l).1 := by
  have sn := h.sn.tick v d l
  have hb := v.ok.phase
  unfold St.tick at sn ⊢
  by_cases hs : s.state = 0
  · rw [if_neg (by simp [hs])] at sn ⊢
    obtain ⟨h1, h2, h3, h4, h5⟩ := act_ok (d % 256) (l % 32) s v hs (by omega)
    have hw : ((s.act (d % 256) (l % 32)).phase = 1 ∧ Wy ((s.act (d % 256) (l % 32)).begun (s.act (d % 256) (l % 32)).code) (s.act (d % 256) (l % 32))) ∨ ((s.act (d % 256) (l % 32)).phase = 2 ∧ Wy (s.act (d % 256) (l % 32)).disp (s.act (d % 256) (l % 32))) := by
      rcases h.way with ⟨hp, hr⟩ | ⟨hp, ho, hw⟩ | ⟨hp, ho, hw⟩
      · have hn : s.next = 2 := by unfold St.next; rw [if_neg (by simp [hs]), if_pos hp]
        have e : s.act (d % 256) (l % 32) = s.begun (d % 256) := by unfold St.act; rw [if_pos hn]
        rw [e]
        exact Or.inl ⟨rfl, Wy.start⟩
      · obtain ⟨k1, k2, k3, k4⟩ := act_keeps hs (by omega) v (d % 256) (l % 32)
        refine Or.inl ⟨k3.trans hp, ?_⟩
        rw [k1, k4]
        exact Wy.step hw ho (by omega) hs v
      · obtain ⟨k1, k2, k3, k4⟩ := act_keeps hs (by omega) v (d % 256) (l % 32)
        refine Or.inr ⟨k3.trans hp, ?_⟩
        rw [k2]
        exact Wy.step hw ho (by omega) hs v
    generalize s.act (d % 256) (l % 32) = t at *
    unfold St.tick1 at sn ⊢
    by_cases ho : t.over t.row = true
    · rw [if_pos ho] at sn ⊢
      show Rep (if t.phase = 2 then doP t.row.d t else t.finish t.row (l % 32))
      have sn' : Sn (if t.phase = 2 then doP t.row.d t else t.finish t.row (l % 32)) := sn
      clear sn
      split
      · rename_i hp
        rw [if_pos hp] at sn'
        refine ⟨sn', Or.inl ?_⟩
        rw [row_disp_d' t hp]
        exact ⟨rfl, rfl⟩
      · rename_i hp
        rw [if_neg hp] at sn'
        unfold St.finish at sn' ⊢
        exact Rep.ofLook sn' rfl rfl
    · rw [if_neg ho] at sn ⊢
      have ho' : t.over t.row = false := by simpa using ho
      refine ⟨sn, Or.inr ?_⟩
      rcases hw with ⟨a, b⟩ | ⟨a, b⟩
      · exact Or.inl ⟨a, ho', b⟩
      · exact Or.inr ⟨a, ho', b⟩
  · rw [if_pos hs] at sn ⊢
    have hp : s.phase = 0 := by
      have : s.phase = 0 ∨ s.phase = 1 ∨ s.phase = 2 := by omega
      rcases this with e | e | e
      · exact e
      · exact absurd (h.sn.d1 e) hs
      · exact absurd (h.sn.d2 e).2 hs
    rcases h.way with ⟨_, hr⟩ | ⟨e, _⟩ | ⟨e, _⟩
    · exact Rep.ofLook sn hr hp
    · rw [hp] at e; cases e
    · rw [hp] at e; cases e
end Go.Proofs.YtlgfpddiebdmaaaGreatDoor
/- Bytes in memory: blocks, lists, copies, rows of one's own. No condition. -/
namespace Go.Proofs.YtlgfpddiebdmaaaGreatDoor
open Go.RowKit
set_option linter.unusedVariables false
theorem Fr.cell {b : Nat} {w w' : World} (h : Fr b w w') {g k : Nat} (hg : g < w.heap.size) (hb : g ≠ b) : w'.cell? ⟨g, k, none⟩ = w.cell? ⟨g, k, none⟩ := by
  unfold World.cell?
  rw [show (w'.heap[(⟨g, k, none⟩ : Addr).block]?) = w.heap[(⟨g, k, none⟩ : Addr).block]? from h.block _ hg hb]
theorem still_of_quiet {P : Program} {ops : Array Oper} {w0 : World} {Q : Act → Prop} : ∀ (l : List Oper) (a : Act), wpQuiet P ops (fun w' => w' = w0) Q l a → wpStill P ops w0 Q l a
  | [], a, h => h
  | o :: rest, a, h => by
    unfold wpQuiet at h
    unfold wpStill
    split
    · rename_i hw
      rw [if_pos hw] at h
      obtain ⟨v, h1, h2⟩ := h
      have h3 := h1 w0 rfl
      have h4 := still_of_quiet rest _ h2
      unfold Oper.quietAt at h3
      unfold Oper.still
      generalize (execOp a.eval o).run P w0 = r at *
      cases r with
      | ok n w' =>
        cases n <;> simp only [Oper.quietUpon] at h3 <;> simp only [Oper.stillUpon]
        case value u =>
          obtain ⟨e1, e2⟩ := h3
          subst e2
          exact ⟨e1, h4⟩
        case skip =>
          obtain ⟨e1, e2⟩ := h3
          subst e2
          exact ⟨e1, h4⟩
        case enter f args =>
          exact ⟨h3.1, v, h3.2, h4⟩
      | _ => simp only [Oper.quietUpon] at h3
    · rename_i hw
      rw [if_neg hw] at h
      exact still_of_quiet rest _ h
theorem wp_still2 {P : Program} {id : Nat} {Q : Exit → Act → World → Prop} {a : Act} {w : World} {l : List Oper} (n : Nat) (hm : P.follows .mixedOrders = true) (hB : Region.lexTailB .any l.toArray n = true)
    (h : ∀ w1, w1 = w.drew → wpQuiet P l.toArray (fun w' => w' = w1) (fun a' => wpList P l.toArray Q (l.drop n) a' w1) (l.take n) a) : (Code.region id l.toArray true).wp P Q a w :=
  wp_region_still_tail n hm hB (still_of_quiet _ _ (h w.drew rfl))
/-- a block of n bytes -/
structure NmAt (w : World) (g n : Nat) (f : Nat → Int) : Prop where
  row : ∃ cs ty, w.heap[g]? = some (.cells cs ty (0, 0)) ∧ cs.size = n ∧ ∀ k, k < n → cs[k]? = some (.int .u8 (f k))
theorem NmAt.lt {w : World} {g n : Nat} {f : Nat → Int} (h : NmAt w g n f) : g < w.heap.size := by
  obtain ⟨cs, ty, h1, _⟩ := h.row
  exact (Array.getElem?_eq_some_iff.1 h1).1
theorem NmAt.cell {w : World} {g n : Nat} {f : Nat → Int} (h : NmAt w g n f) (k : Nat) (hk : k < n) : w.cell? ⟨g, k, none⟩ = some (.int .u8 (f k)) := by
  obtain ⟨cs, ty, h1, h2, h3⟩ := h.row
  rw [cell_of_row _ _ _ _ _ _ h1]
  exact h3 k hk
theorem NmAt.fz {w : World} {g n : Nat} {f : Nat → Int} (h : NmAt w g n f) (k : Nat) : w.frozen? ⟨g, k, none⟩ = false := by
  obtain ⟨cs, ty, h1, _⟩ := h.row
  simp [World.frozen?, h1]
theorem NmAt.of_block {w w' : World} {g n : Nat} {f : Nat → Int} (h : NmAt w g n f) (e : w'.heap[g]? = w.heap[g]?) : NmAt w' g n f := by
  obtain ⟨cs, ty, h1, h2⟩ := h.row
  exact ⟨cs, ty, e.trans h1, h2⟩
theorem NmAt.congr {w : World} {g n : Nat} {f f' : Nat → Int} (h : NmAt w g n f) (e : ∀ k, k < n → f k = f' k) : NmAt w g n f' := by
  obtain ⟨cs, ty, h1, h2, h3⟩ := h.row
  exact ⟨cs, ty, h1, h2, fun k hk => by rw [← e k hk]; exact h3 k hk⟩
theorem NmAt.set {w : World} {g n : Nat} {f : Nat → Int} (h : NmAt w g n f) (i : Nat) (hi : i < n) (x : Int) : NmAt (w.setCell ⟨g, i, none⟩ (.int .u8 x)) g n (fun k => if k = i then x else f k) := by
  obtain ⟨cs, ty, h1, h2, h3⟩ := h.row
  refine ⟨cs.setIfInBounds i (.int .u8 x), ty, heap_setCell_same w g i _ _ _ h1, by simp [h2], fun j hj => ?_⟩
  rw [Array.getElem?_setIfInBounds]
  by_cases e : j = i
  · subst e
    rw [if_pos rfl, if_pos (by omega), if_pos rfl]
  · rw [if_neg (fun e' => e e'.symm), if_neg e]
    exact h3 j hj
structure Byts (W : World) (aa : Option Addr) (ab ao len cap : Nat) (f : Nat → Int) : Prop where
  lc : len ≤ cap
  cm : cap ≤ maxLen
  ad : 0 < len → aa = some ⟨ab, ao, none⟩
  u8 : ∀ k, 0 ≤ f k ∧ f k ≤ 255
  cell : ∀ k, k < len → W.cell? ⟨ab, ao + k, none⟩ = some (.int .u8 (f k))
/-- all blocks of K as they were -/
structure FK (K : Nat → Prop) (w w' : World) : Prop where
  os : w'.os = w.os
  output : w'.output = w.output
  size : w.heap.size ≤ w'.heap.size
  block : ∀ b, b < w.heap.size → K b → w'.heap[b]? = w.heap[b]?
theorem FK.trans {K : Nat → Prop} {x y z : World} (h : FK K x y) (k : FK K y z) : FK K x z :=
  ⟨k.os.trans h.os, k.output.trans h.output, Nat.le_trans h.size k.size, fun b hb hk => (k.block b (Nat.lt_of_lt_of_le hb h.size) hk).trans (h.block b hb hk)⟩
theorem FK.ofUp {K : Nat → Prop} {x y : World} (h : Up x y) : FK K x y := ⟨h.os, h.output, h.size, fun b hb _ => h.block b hb⟩
theorem FK.ofFr {K : Nat → Prop} {x y : World} {c : Nat} (h : Fr c x y) (hc : ¬ K c) : FK K x y := ⟨h.os, h.output, h.size, fun b hb hk => h.block b hb (fun e => hc (e ▸ hk))⟩
theorem FK.mono {K K' : Nat → Prop} {x y : World} (h : FK K x y) (hk : ∀ b, b < x.heap.size → K' b → K b) : FK K' x y := ⟨h.os, h.output, h.size, fun b hb h' => h.block b hb (hk b hb h')⟩
theorem Byts.upT {W W' : World} {aa : Option Addr} {ab ao len cap : Nat} {f : Nat → Int} (h : Byts W aa ab ao len cap f) (u : Up W W') : Byts W' aa ab ao len cap f :=
  ⟨h.lc, h.cm, h.ad, h.u8, fun k hk => (u.cell (World.block_lt_of_cell? _ _ (h.cell k hk))).trans (h.cell k hk)⟩
theorem NmAt.frN {w w' : World} {g n c : Nat} {f : Nat → Int} (h : NmAt w g n f) (fr : Fr c w w') (hg : g ≠ c) : NmAt w' g n f := h.of_block (fr.block _ h.lt hg)
theorem heap_at {w : World} {b : Nat} {cs : Array Value} {ty : TypeId} (h : w.heap[b]? = some (.cells cs ty (0, 0))) : b < w.heap.size := (Array.getElem?_eq_some_iff.1 h).1
theorem own_slice3 {w : World} {base n size : Nat} {ty : TypeId} {v : Value} {xs : List Value} (h : w.ownsRow base ty size v n xs) : ∃ va vn vc, v = .slice va vn vc := by
  rcases h.2 with ⟨hv, _⟩ | ⟨g, cap, cur, hv, _⟩
  · exact ⟨_, _, _, hv⟩
  · exact ⟨_, _, _, hv⟩
theorem heap_cell {w : World} {q o : Nat} {cs : Array Value} {ty : TypeId} {v : Value} (h : w.heap[q]? = some (.cells cs ty (0, 0))) (ho : cs[o]? = some v) : w.cell? ⟨q, o, none⟩ = some v := by
  rw [cell_of_row _ _ _ _ _ _ h]
  exact ho
theorem heap_fz {w : World} {q o : Nat} {cs : Array Value} {ty : TypeId} (h : w.heap[q]? = some (.cells cs ty (0, 0))) : w.frozen? ⟨q, o, none⟩ = false := by simp [World.frozen?, h]
def cellsF (f : Nat → Int) (n : Nat) : List Value := (List.range' 0 n).map fun k => .int .u8 (f k)
theorem cellsF_len (f : Nat → Int) (n : Nat) : (cellsF f n).length = n := by unfold cellsF; rw [List.length_map, List.length_range']
theorem cellsF_at (f : Nat → Int) (n k : Nat) (h : k < n) : (cellsF f n)[k]? = some (.int .u8 (f k)) := by
  unfold cellsF
  rw [List.getElem?_map, List.getElem?_range' h]
  simp
section
variable {w : World} {ops : Array Oper} {rest : List Oper} {o : Oper} {a : Act} {Q : Exit → Act → World → Prop}
theorem wpList_copyG (hgd : o.guard = none) (d s : Operand) (ho : o.op = .call { callee := .builtin .copy, args := #[d, s], argTypes := #[28, 28] })
    (g off dLen dCap : Nat) (ad : Addr) (sLen sCap : Nat) (hd : a.eval d = .slice (some ⟨g, off, none⟩) dLen dCap) (hs : a.eval s = .slice (some ad) sLen sCap)
    (n m : Nat) (cur : Array Value) (t : TypeId) (hg : w.heap[g]? = some (.cells cur t (0, 0))) (hz : cur.size = n) (h : Nat → Int) (hm : m = Nat.min sLen dLen)
    (hsrc : ∀ k, k < m → w.cell? (ad.add k) = some (.int .u8 (h k))) (hfit : off + m ≤ n)
    (next : ∀ w' cs, w'.heap[g]? = some (.cells cs t (0, 0)) → cs.size = n → (∀ k, k < n → cs[k]? = if off ≤ k ∧ k < off + m then some (.int .u8 (h (k - off))) else cur[k]?) → Fr g w w' → wpList Tryz.prog ops Q rest (a.put o.dst (goInt m)) w') : wpList Tryz.prog ops Q (o :: rest) a w := by
  have hl := cellsF_len h m
  refine wpList_copy_own hgd d s 28 28 ho 5 Tryz.underlying28 (by kernel_rfl) g off dLen dCap ad sLen sCap hd hs cur t hg (cellsF h m) (hl.trans hm) (fun j v hj => ?_) (by rw [hl, hz]; exact hfit) (fun v hv => ?_) ?_
  · have hj2 : j < m := by
      have := (List.getElem?_eq_some_iff.1 hj).1
      rw [hl] at this
      exact this
    rw [cellsF_at h m j hj2] at hj
    rw [← hj]
    exact hsrc j hj2
  · unfold cellsF at hv
    obtain ⟨k, _, rfl⟩ := List.mem_map.1 hv
    rfl
  · rw [hl]
    refine next _ _ (setRow_heap w g cur _ t (0, 0) hg) ?_ (fun k hk => ?_) (Fr.refl g w).setRow
    · rw [List.size_toArray, List.length_append, List.length_append, List.length_take, List.length_drop, hl, Array.length_toList, hz]
      omega
    · rw [List.getElem?_toArray]
      have lt : (cur.toList.take off).length = off := by rw [List.length_take, Array.length_toList, hz]; omega
      by_cases h1 : k < off
      · rw [List.getElem?_append_left (by rw [lt]; exact h1), List.getElem?_take, if_pos h1, if_neg (by omega), Array.getElem?_toList]
      · rw [List.getElem?_append_right (by rw [lt]; omega), lt]
        by_cases h2 : k < off + m
        · rw [List.getElem?_append_left (by rw [hl]; omega), cellsF_at h m (k - off) (by omega), if_pos ⟨by omega, h2⟩]
        · rw [List.getElem?_append_right (by rw [hl]; omega), hl, List.getElem?_drop, if_neg (by omega), show off + m + (k - off - m) = k by omega, Array.getElem?_toList]
def putF (f h : Nat → Int) (off m : Nat) (k : Nat) : Int := if off ≤ k ∧ k < off + m then h (k - off) else f k
theorem wpList_copyN (hgd : o.guard = none) (d s : Operand) (ho : o.op = .call { callee := .builtin .copy, args := #[d, s], argTypes := #[28, 28] })
    (g off dLen dCap : Nat) (ad : Addr) (sLen sCap : Nat) (hd : a.eval d = .slice (some ⟨g, off, none⟩) dLen dCap) (hs : a.eval s = .slice (some ad) sLen sCap)
    (n m : Nat) (f h : Nat → Int) (hN : NmAt w g n f) (hm : m = Nat.min sLen dLen)
    (hsrc : ∀ k, k < m → w.cell? (ad.add k) = some (.int .u8 (h k))) (hfit : off + m ≤ n)
    (next : ∀ w', NmAt w' g n (putF f h off m) → Fr g w w' → wpList Tryz.prog ops Q rest (a.put o.dst (goInt m)) w') : wpList Tryz.prog ops Q (o :: rest) a w := by
  obtain ⟨cs, ty, h1, h2, h3⟩ := hN.row
  refine wpList_copyG hgd d s ho g off dLen dCap ad sLen sCap hd hs n m cs ty h1 h2 h hm hsrc hfit (fun w' cs' e1 e2 e3 f3 => next w' ⟨cs', ty, e1, e2, fun k hk => ?_⟩ f3)
  rw [e3 k hk]
  unfold putF
  by_cases e : off ≤ k ∧ k < off + m
  · rw [if_pos e, if_pos e]
  · rw [if_neg e, if_neg e, h3 k hk]
end
theorem made_nm (w : World) (n : Nat) : NmAt (w.alloc (.cells (madeCells #[.int .u8 0] n) 5)) w.heap.size n (fun _ => 0) := by
  refine ⟨_, _, heap_alloc_new w _, by simp [madeCells], fun k hk => ?_⟩
  simp [madeCells, hk, Nat.mod_one]
section
variable {w : World} {ops : Array Oper} {rest : List Oper} {o : Oper} {a : Act} {Q : Exit → Act → World → Prop}
theorem wpList_copyO (hgd : o.guard = none) (d s : Operand) (ho : o.op = .call { callee := .builtin .copy, args := #[d, s], argTypes := #[28, 28] })
    (g off dLen dCap : Nat) (sp : Option Addr) (sLen sCap : Nat) (hd : a.eval d = .slice (some ⟨g, off, none⟩) dLen dCap) (hs : a.eval s = .slice sp sLen sCap)
    (n m : Nat) (f h : Nat → Int) (hN : NmAt w g n f) (hm : m = Nat.min sLen dLen)
    (hsrc : 0 < m → ∃ ad, sp = some ad ∧ ∀ k, k < m → w.cell? (ad.add k) = some (.int .u8 (h k))) (hfit : off + m ≤ n)
    (next : ∀ w', NmAt w' g n (putF f h off m) → Fr g w w' → wpList Tryz.prog ops Q rest (a.put o.dst (goInt m)) w') : wpList Tryz.prog ops Q (o :: rest) a w := by
  by_cases h0 : m = 0
  · subst h0
    refine wpList_copy_nothing hgd d s 28 28 ho 5 Tryz.underlying28 (by kernel_rfl) _ sp dLen dCap sLen sCap hd hs hm.symm ?_
    exact next w (hN.congr (fun k _ => by unfold putF; rw [if_neg (by omega)])) (Fr.refl g w)
  · obtain ⟨ad, rfl, hc⟩ := hsrc (by omega)
    exact wpList_copyN hgd d s ho g off dLen dCap ad sLen sCap hd hs n m f h hN hm hc hfit next
end
/-- bytes as a string -/
def strN (n : Nat) (f : Nat → Int) : ByteArray := strOfNums ((List.range' 0 n).map f)
theorem NmAt.conv {w : World} {g n : Nat} {f : Nat → Int} (h : NmAt w g n f) (c : Nat) : (convert 28 9 (.slice (some ⟨g, 0, none⟩) n c)).run Tryz.prog w = .ok (.string (strN n f)) w := by
  refine run_convert_bytes_arg w 28 5 Tryz.underlying28 Tryz.underlying5 g 0 n c ((List.range' 0 n).map f) (by rw [List.length_map, List.length_range']) (fun i hi => ?_) 9 Tryz.underlying9
  rw [Nat.zero_add, h.cell i hi]
  congr 2
  unfold List.getD
  rw [List.getElem?_map, List.getElem?_range' hi]
  simp
/-- a row of bytes as a list of values -/
def rowL (F : Nat → Int) (n : Nat) : List Value := (List.range n).map fun k => .int .u8 (F k)
theorem rowL_len (F : Nat → Int) (n : Nat) : (rowL F n).length = n := by unfold rowL; simp
theorem rowL_succ (F : Nat → Int) (n : Nat) : rowL F (n + 1) = rowL F n ++ [.int .u8 (F n)] := by
  unfold rowL
  rw [List.range_succ, List.map_append]
  rfl
theorem rowL_four (F : Nat → Int) (n : Nat) : rowL F (n + 4) = rowL F n ++ [.int .u8 (F n), .int .u8 (F (n + 1)), .int .u8 (F (n + 2)), .int .u8 (F (n + 3))] := by
  rw [show n + 4 = n + 1 + 1 + 1 + 1 by omega, rowL_succ, rowL_succ, rowL_succ, rowL_succ]
  simp [List.append_assoc]
theorem rowL_at (F : Nat → Int) (n k : Nat) (h : k < n) : (rowL F n)[k]? = some (.int .u8 (F k)) := by
  unfold rowL
  rw [List.getElem?_map, List.getElem?_range h]
  rfl
theorem rowL_one (F : Nat → Int) (n : Nat) : ∀ v ∈ rowL F n, v.oneCell' = true := by
  intro v hv
  unfold rowL at hv
  obtain ⟨k, _, rfl⟩ := List.mem_map.1 hv
  rfl
theorem rowL_congr {F H : Nat → Int} (n : Nat) (h : ∀ k, k < n → F k = H k) : rowL F n = rowL H n := by
  unfold rowL
  apply List.map_congr_left
  intro k hk
  rw [h k (List.mem_range.1 hk)]
/-- a row of one's own is a slice of bytes -/
theorem own_byts {w : World} {base n : Nat} {v : Value} {F : Nat → Int} (h : w.ownsRow base 5 1 v n (rowL F n)) (hF : ∀ k, 0 ≤ F k ∧ F k ≤ 255) : ∃ oa ob oc, v = .slice oa n oc ∧ Byts w oa ob 0 n oc F ∧ (0 < n → base ≤ ob ∧ oa = some ⟨ob, 0, none⟩ ∧ v.ownBlock = some ob) := by
  rcases h.2 with ⟨hv, hn⟩ | ⟨g, cap, cur, hv, hb, hg, hc, hm, hs, ht⟩
  · subst hn
    exact ⟨none, 0, 0, hv, ⟨Nat.le_refl _, Nat.zero_le _, fun h => absurd h (by decide), hF, fun k hk => absurd hk (by omega)⟩, fun h => absurd h (by decide)⟩
  · refine ⟨some ⟨g, 0, none⟩, g, cap, hv, ⟨hc, hm, fun _ => rfl, hF, fun k hk => ?_⟩, fun _ => ⟨hb, rfl, by rw [hv]; rfl⟩⟩
    have := h.cells (g := g) (by rw [hv]; rfl) k _ (rowL_at F n k hk)
    rw [Addr.add_lit] at this
    exact this
/-- a row of one's own behind some world -/
structure Ow (W : World) (F : Nat → Int) (n : Nat) (v : Value) (w : World) : Prop where
  own : w.ownsRow W.heap.size 5 1 v n (rowL F n)
  up : Up W w
theorem Ow.app {W w w' : World} {F : Nat → Int} {n m : Nat} {v v' : Value} {o : Obj} (h : Ow W F n v w) (hg : (w.alloc o).grownBy w' v.ownBlock) (ho : w'.ownsRow W.heap.size 5 1 v' m (rowL F m)) : Ow W F m v' w' := by
  have u : Up w (w.alloc o) := (Up.refl w).alloc o
  refine ⟨ho, ⟨hg.os.trans h.up.os, hg.output.trans h.up.output, Nat.le_trans h.up.size (Nat.le_trans u.size hg.size), fun k hk => ?_⟩⟩
  have hk2 := Nat.lt_of_lt_of_le hk h.up.size
  refine (hg.block k (Nat.lt_of_lt_of_le hk2 u.size) (fun e => ?_)).trans ((u.block k hk2).trans (h.up.block k hk))
  have := (h.own.lt k e.symm).1
  omega
theorem Ow.alloc {W w : World} {F : Nat → Int} {n : Nat} {v : Value} (h : Ow W F n v w) (o : Obj) : Ow W F n v (w.alloc o) := ⟨h.own.alloc o, h.up.alloc o⟩
theorem ownsRow_up {w w' : World} {base n : Nat} {ty : TypeId} {size : Nat} {v : Value} {xs : List Value} (h : w.ownsRow base ty size v n xs) (u : Up w w') : w'.ownsRow base ty size v n xs :=
  ⟨h.1, h.2.imp id fun ⟨g, cap, cur, h1, h2, h3, h4⟩ => ⟨g, cap, cur, h1, h2, (u.block g (Array.getElem?_eq_some_iff.1 h3).1).trans h3, h4⟩⟩
theorem Ow.moreU {W w w' : World} {F : Nat → Int} {n : Nat} {v : Value} (h : Ow W F n v w) (u : Up w w') : Ow W F n v w' := ⟨ownsRow_up h.own u, h.up.trans u⟩
/-- cells put into a row, one behind the other -/
def putL (cs : Array Value) : Nat → List Value → Array Value
  | _, [] => cs
  | o, v :: r => putL (cs.setIfInBounds o v) (o + 1) r
theorem putL_size : ∀ (vs : List Value) (o : Nat) (cs : Array Value), (putL cs o vs).size = cs.size
  | [], _, _ => rfl
  | v :: r, o, cs => by
    show (putL (cs.setIfInBounds o v) (o + 1) r).size = _
    rw [putL_size r]
    simp
theorem putL_at : ∀ (vs : List Value) (o : Nat) (cs : Array Value) (k : Nat), o + vs.length ≤ cs.size → (putL cs o vs)[k]? = if o ≤ k ∧ k < o + vs.length then vs[k - o]? else cs[k]?
  | [], o, cs, k, h => by
    rw [if_neg (by simp)]
    rfl
  | v :: r, o, cs, k, h => by
    simp only [List.length_cons] at h
    show (putL (cs.setIfInBounds o v) (o + 1) r)[k]? = _
    rw [putL_at r (o + 1) _ k (by simp; omega), Array.getElem?_setIfInBounds]
    simp only [List.length_cons]
    by_cases e : k = o
    · subst e
      rw [if_neg (by omega), if_pos rfl, if_pos (by omega), if_pos (by omega), Nat.sub_self]
      rfl
    · by_cases e2 : o ≤ k ∧ k < o + (r.length + 1)
      · rw [if_pos (by omega), if_pos e2]
        obtain ⟨j, hj⟩ : ∃ j, k - o = j + 1 := ⟨k - o - 1, by omega⟩
        rw [hj, show k - (o + 1) = j by omega]
        rfl
      · rw [if_neg (by omega), if_neg (fun e' => e e'.symm), if_neg e2]
theorem heap_setCells_same (b : Nat) (ty : TypeId) : ∀ (vs : List Value) (o : Nat) (cs : Array Value) (w : World), w.heap[b]? = some (.cells cs ty (0, 0)) → (w.setCells b o vs).heap[b]? = some (.cells (putL cs o vs) ty (0, 0))
  | [], _, _, _, h => h
  | v :: r, o, cs, w, h => by
    show ((w.setCell ⟨b, o, none⟩ v).setCells b (o + 1) r).heap[b]? = some (.cells (putL (cs.setIfInBounds o v) (o + 1) r) ty (0, 0))
    exact heap_setCells_same b ty r (o + 1) _ _ (heap_setCell_same w b o _ _ v h)
theorem fr_setCells (b : Nat) : ∀ (vs : List Value) (o : Nat) (w : World), Fr b w (w.setCells b o vs)
  | [], _, w => Fr.refl b w
  | v :: r, o, w => ((Fr.refl b w).setCell).trans (fr_setCells b r (o + 1) _)
theorem putL_full {cs : Array Value} {l : List Value} (h : l.length = cs.size) : putL cs 0 l = l.toArray := by
  refine Array.ext_getElem? fun k => ?_
  rw [putL_at _ _ _ _ (by omega), Nat.zero_add, Nat.sub_zero]
  by_cases hk : k < l.length
  · rw [if_pos ⟨Nat.zero_le _, hk⟩, List.getElem?_toArray]
  · rw [if_neg (fun h => hk h.2), Array.getElem?_eq_none (by omega), Array.getElem?_eq_none (by simpa using hk)]
theorem setCells_full {w : World} {b : Nat} {cs : Array Value} {ty : TypeId} {l : List Value} (h : w.heap[b]? = some (.cells cs ty (0, 0))) (hl : l.length = cs.size) : (w.setCells b 0 l).heap[b]? = some (.cells l.toArray ty (0, 0)) := by
  rw [heap_setCells_same b ty l 0 cs w h, putL_full hl]
theorem there_heap {w : World} {b o m : Nat} {cs : Array Value} {ty : TypeId} (h : w.heap[b]? = some (.cells cs ty (0, 0))) (hm : o + m ≤ cs.size) : w.there b o m := fun k hk => ⟨by rw [heap_cell h (Array.getElem?_eq_getElem (by omega))]; rfl, heap_fz h⟩
end Go.Proofs.YtlgfpddiebdmaaaGreatDoor
/- State, over the translation. No condition. -/
namespace Go.Proofs.YtlgfpddiebdmaaaGreatDoor
open Go.RowKit
set_option linter.unusedVariables false
set_option maxRecDepth 100000 in
theorem bitIf_any (is : Bool) (bit : Int) (w : World) (h : 0 ≤ bit ∧ bit ≤ 255) :
    Calls Tryz.prog 34 #[.bool is, .int .u8 bit] w fun e w' => e = .returned (.int .u8 (bI is bit)) ∧ w' = w := by
  cases is
  · go_enter Tryz.func34, Tryz.ntmps34
    go_wp2
    go_ret
    exact ⟨rfl, rfl⟩
  · go_enter Tryz.func34, Tryz.ntmps34
    go_wp2
    go_ret
    exact ⟨rfl, rfl⟩
set_option maxRecDepth 100000 in
set_option maxHeartbeats 600000 in
theorem putWord_any (g n o c : Nat) (f : Nat → Int) (x : Int) (w : World) (h : NmAt w g n f) (ho : o + 2 ≤ n) (hx : 0 ≤ x ∧ x ≤ 65535) (hc : 2 ≤ c) (hc2 : c ≤ 100):
    Calls Tryz.prog 33 #[.slice (some ⟨g, o, none⟩) c c, .int .u16 x] w fun e w' => e = .returned (.tuple #[]) ∧ NmAt w' g n (fun k => if k = o + 1 then x / 256 else if k = o then x % 256 else f k) ∧ Fr g w w' := by
  have k0 := h.cell o (by omega)
  have k1 := h.cell (o + 1) (by omega)
  have z0 := h.fz o
  have z1 := h.fz (o + 1)
  obtain ⟨hx0, hx1⟩ := hx
  have HN : Hid (NmAt w g n f) := h
  clear h
  go_enter Tryz.func33, Tryz.ntmps33
  go_wp2
  (first | refine bodyPost_end (results_none rfl _ _ _) rfl ?_ | refine bodyPost_ret (results_none rfl _ _ _) rfl ?_)
  exact ⟨rfl, ((HN.out.set o (by omega) _).set (o + 1) (by omega) _), (Fr.refl g w).setCell.setCell⟩
set_option maxRecDepth 100000 in
set_option maxHeartbeats 600000 in
theorem state_any (b : Nat) (s : St) (w : World) (h : Cp w b s) (o : s.Ok) :
    Calls Tryz.prog 18 #[.pointer (some ⟨b, 0, none⟩)] w fun e w' => e = .returned (.slice (some ⟨w.heap.size, 0, none⟩) 22 22) ∧ NmAt w' w.heap.size 22 s.enc ∧ Up w w' := by
  have HM : Hid (NmAt (w.alloc (.cells (madeCells #[.int .u8 0] 22) 5)) w.heap.size 22 (fun _ => 0)) := made_nm w 22
  have HU : Hid (Up w (w.alloc (.cells (madeCells #[.int .u8 0] 22) 5))) := (Up.refl w).alloc _
  have HC : Hid (Cp w b s) := h
  have HO : Hid s.Ok := o
  have HB : Hid (b < w.heap.size) := h.lt
  clear h o
  go_enter Tryz.func18, Tryz.ntmps18
  go_wp2_with (first | (at_make; refine wpList_make_row _ rfl _ _ 28 rfl 5 Tryz.t5 (.int .u8 0) Tryz.underlying28 (by kernel_rfl) (by kernel_rfl) (by kernel_rfl) rfl .i64 .i64 22 rfl rfl (by decide) (by omega) ?_; generalize World.alloc w _ = w1 at HM HU ⊢; generalize hg : w.heap.size = g at HM HB ⊢; have hg' : Hid (w.heap.size = g) := hg; clear hg; have k0 := HM.out.cell 0 (by omega); have z0 := HM.out.fz 0) | fail)
  have H1 : Hid (NmAt (w1.setCell ⟨g, 0, none⟩ (.int .u8 203)) g 22 (fun k => if k = 0 then 203 else 0) ∧ Up w (w1.setCell ⟨g, 0, none⟩ (.int .u8 203))) := ⟨HM.out.set 0 (by omega) 203, HU.out.setCell (Nat.le_of_eq hg'.out) _⟩
  generalize World.setCell w1 _ _ = w2 at H1 ⊢
  clear HM HU k0 z0
  clear w1
  refine wp_still2 7 (by kernel_rfl) (by decide +kernel) ?_
  intro w3 hw3
  have H3 : Hid (NmAt w3 g 22 (fun k => if k = 0 then 203 else 0) ∧ Up w w3) := by rw [hw3]; exact ⟨H1.out.1.of_block rfl, H1.out.2.trans (Up.refl _).drew⟩
  clear hw3 H1
  simp only [List.take_succ_cons, List.take_zero, List.drop_succ_cons, List.drop_zero]
  repeat (go_big_quiet_step (fail))
  refine wpQuiet_nil ?_
  go_wp2_with (refine wpList_copyN rfl (.tmp 8) (.tmp 13) rfl g 1 21 21 ⟨b, 0, none⟩ 8 8 rfl rfl 22 8 (fun k => if k = 0 then 203 else 0) s.r H3.out.1 rfl (fun k hk => by rw [Addr.add_lit, Nat.zero_add]; exact (HC.out.up H3.out.2).reg k hk) (by decide) ?_; intro w5 n5 F5; have H5 : Hid (NmAt w5 g 22 (putF (fun k => if k = 0 then 203 else 0) s.r 1 8) ∧ Up w w5) := ⟨n5, Fr.up H3.out.2 (Nat.le_of_eq hg'.out) F5⟩; clear n5 F5)
  clear H3
  try simp only [Act.put, goInt, List.setIfInBounds_toArray, List.set_cons_zero, List.set_cons_succ]
  have kSP := (HC.out.up H5.out.2).cell 8
  refine wp_still2 7 (by kernel_rfl) (by decide +kernel) ?_
  intro w6 hw6
  have H6 : Hid (NmAt w6 g 22 (putF (fun k => if k = 0 then 203 else 0) s.r 1 8) ∧ Up w w6) := by rw [hw6]; exact ⟨H5.out.1.of_block rfl, H5.out.2.trans (Up.refl _).drew⟩
  clear hw6 H5 kSP
  have kSP : w6.cell? ⟨b, 8, none⟩ = some (.int .u16 s.sp) := (HC.out.up H6.out.2).cell 8
  simp only [List.take_succ_cons, List.take_zero, List.drop_succ_cons, List.drop_zero]
  repeat (go_big_quiet_step (fail))
  refine wpQuiet_nil ?_
  have HP1 : Hid _ := putWord_any g 22 9 13 _ s.sp w6 H6.out.1 (by omega) HO.out.sp (by omega) (by omega)
  go_wp2_with fail
  refine Calls.mono HP1.out ?_
  rintro e w7 ⟨rfl, n7, F7⟩
  have H7 : Hid (NmAt w7 g 22 (fun k => if k = 9 + 1 then s.sp / 256 else if k = 9 then s.sp % 256 else putF (fun k => if k = 0 then 203 else 0) s.r 1 8 k) ∧ Up w w7) := ⟨n7, Fr.up H6.out.2 (Nat.le_of_eq hg'.out) F7⟩
  clear n7 F7 HP1 H6 kSP
  go_wp2_with fail
  refine wp_still2 7 (by kernel_rfl) (by decide +kernel) ?_
  intro w8 hw8
  have H8 : Hid (NmAt w8 g 22 (fun k => if k = 9 + 1 then s.sp / 256 else if k = 9 then s.sp % 256 else putF (fun k => if k = 0 then 203 else 0) s.r 1 8 k) ∧ Up w w8) := by rw [hw8]; exact ⟨H7.out.1.of_block rfl, H7.out.2.trans (Up.refl _).drew⟩
  clear hw8 H7
  have kPC : w8.cell? ⟨b, 9, none⟩ = some (.int .u16 s.pc) := (HC.out.up H8.out.2).cell 9
  simp only [List.take_succ_cons, List.take_zero, List.drop_succ_cons, List.drop_zero]
  repeat (go_big_quiet_step (fail))
  refine wpQuiet_nil ?_
  have HP2 : Hid _ := putWord_any g 22 11 11 _ s.pc w8 H8.out.1 (by omega) HO.out.pc (by omega) (by omega)
  go_wp2_with fail
  refine Calls.mono HP2.out ?_
  rintro e w9 ⟨rfl, n9, F9⟩
  have H9 : Hid (NmAt w9 g 22 (fun k => if k = 11 + 1 then s.pc / 256 else if k = 11 then s.pc % 256 else if k = 9 + 1 then s.sp / 256 else if k = 9 then s.sp % 256 else putF (fun k => if k = 0 then 203 else 0) s.r 1 8 k) ∧ Up w w9) := ⟨n9, Fr.up H8.out.2 (Nat.le_of_eq hg'.out) F9⟩
  clear n9 F9 HP2 H8 kPC
  go_wp2_with fail
  obtain ⟨G, hG⟩ : ∃ G : Nat → Int, G = fun k => if k = 11 + 1 then s.pc / 256 else if k = 11 then s.pc % 256 else if k = 9 + 1 then s.sp / 256 else if k = 9 then s.sp % 256 else putF (fun k => if k = 0 then 203 else 0) s.r 1 8 k := ⟨_, rfl⟩
  rw [← hG] at H9
  have HG : Hid (G = fun k => if k = 11 + 1 then s.pc / 256 else if k = 11 then s.pc % 256 else if k = 9 + 1 then s.sp / 256 else if k = 9 then s.sp % 256 else putF (fun k => if k = 0 then 203 else 0) s.r 1 8 k) := hG
  clear hG
  refine wp_still2 20 (by kernel_rfl) (by decide +kernel) ?_
  intro w10 hw10
  have H10 : Hid (NmAt w10 g 22 G ∧ Up w w10) := by rw [hw10]; exact ⟨H9.out.1.of_block rfl, H9.out.2.trans (Up.refl _).drew⟩
  clear hw10 H9
  have HCx : Hid (Cp w10 b s) := HC.out.up H10.out.2
  have c10 : w10.cell? ⟨b, 10, none⟩ = some (.bool s.ime) := HCx.out.cell 10
  have c11 : w10.cell? ⟨b, 11, none⟩ = some (.int .i64 s.state) := HCx.out.cell 11
  have c12 : w10.cell? ⟨b, 12, none⟩ = some (.bool s.due) := HCx.out.cell 12
  have c13 : w10.cell? ⟨b, 13, none⟩ = some (.bool s.twice) := HCx.out.cell 13
  have HB1 : Hid (∀ W, Calls Tryz.prog 34 #[.bool s.ime, .int .u8 1] W fun e w' => e = .returned (.int .u8 (bI s.ime 1)) ∧ w' = W) := fun W => bitIf_any _ _ _ (by decide)
  have HB2 : Hid (∀ W, Calls Tryz.prog 34 #[.bool s.due, .int .u8 2] W fun e w' => e = .returned (.int .u8 (bI s.due 2)) ∧ w' = W) := fun W => bitIf_any _ _ _ (by decide)
  have HB4 : Hid (∀ W, Calls Tryz.prog 34 #[.bool s.twice, .int .u8 4] W fun e w' => e = .returned (.int .u8 (bI s.twice 4)) ∧ w' = W) := fun W => bitIf_any _ _ _ (by decide)
  simp only [List.take_succ_cons, List.take_zero, List.drop_succ_cons, List.drop_zero]
  repeat (go_big_quiet_step (fail))
  go_big_quiet_want
  go_big_quiet_op
  refine ⟨_, HB1.out _, ?_⟩
  go_big_quiet_on
  repeat (go_big_quiet_step (fail))
  go_big_quiet_want
  go_big_quiet_op
  refine ⟨_, HB2.out _, ?_⟩
  go_big_quiet_on
  repeat (go_big_quiet_step (fail))
  go_big_quiet_want
  go_big_quiet_op
  refine ⟨_, HB4.out _, ?_⟩
  go_big_quiet_on
  repeat (go_big_quiet_step (fail))
  refine wpQuiet_nil ?_
  have hor : bits .or .u8 (bits .or .u8 (bI s.ime 1) (bI s.due 2)) (bI s.twice 4) = bI s.ime 1 + bI s.due 2 + bI s.twice 4 := by cases s.ime <;> cases s.due <;> cases s.twice <;> decide
  have z13 := H10.out.1.fz 13
  have k13 := H10.out.1.cell 13 (by decide)
  have z14 := H10.out.1.fz 14
  have k14 := H10.out.1.cell 14 (by decide)
  have z15 := H10.out.1.fz 15
  have k15 := H10.out.1.cell 15 (by decide)
  have z16 := H10.out.1.fz 16
  have k16 := H10.out.1.cell 16 (by decide)
  have z17 := H10.out.1.fz 17
  have k17 := H10.out.1.cell 17 (by decide)
  have x14 : w10.cell? ⟨b, 14, none⟩ = some (.int .u8 s.phase) := HCx.out.cell 14
  have x15 : w10.cell? ⟨b, 15, none⟩ = some (.int .u8 s.code) := HCx.out.cell 15
  have x16 : w10.cell? ⟨b, 16, none⟩ = some (.int .u8 s.done) := HCx.out.cell 16
  have hbg : b ≠ g := by have := HB.out; omega
  have hst : s.state % 256 = s.state := by have := HO.out.state; omega
  have hph : s.phase % 256 = s.phase := by have := HO.out.phase; omega
  go_wp2_with fail
  have H11 : Hid (NmAt (((((w10.setCell ⟨g, 13, none⟩ (.int .u8 (bI s.ime 1 + bI s.due 2 + bI s.twice 4))).setCell ⟨g, 14, none⟩ (.int .u8 s.state)).setCell ⟨g, 15, none⟩ (.int .u8 s.phase)).setCell ⟨g, 16, none⟩ (.int .u8 s.code)).setCell ⟨g, 17, none⟩ (.int .u8 s.done)) g 22 (fun k => if k = 17 then s.done else if k = 16 then s.code else if k = 15 then s.phase else if k = 14 then s.state else if k = 13 then bI s.ime 1 + bI s.due 2 + bI s.twice 4 else G k) ∧ Up w (((((w10.setCell ⟨g, 13, none⟩ (.int .u8 (bI s.ime 1 + bI s.due 2 + bI s.twice 4))).setCell ⟨g, 14, none⟩ (.int .u8 s.state)).setCell ⟨g, 15, none⟩ (.int .u8 s.phase)).setCell ⟨g, 16, none⟩ (.int .u8 s.code)).setCell ⟨g, 17, none⟩ (.int .u8 s.done))) := ⟨((((H10.out.1.set 13 (by decide) _).set 14 (by decide) _).set 15 (by decide) _).set 16 (by decide) _).set 17 (by decide) _, ((((H10.out.2.setCell (Nat.le_of_eq hg'.out) _).setCell (Nat.le_of_eq hg'.out) _).setCell (Nat.le_of_eq hg'.out) _).setCell (Nat.le_of_eq hg'.out) _).setCell (Nat.le_of_eq hg'.out) _⟩
  generalize World.setCell (World.setCell (World.setCell _ _ _) _ _) _ _ = w11 at H11 ⊢
  clear H10 HCx c10 c11 c12 c13 HB1 HB2 HB4 hor z13 z14 z15 z16 z17 k13 k14 k15 k16 k17 x14 x15 x16 hst hph
  clear w10
  refine wp_still2 7 (by kernel_rfl) (by decide +kernel) ?_
  intro w12 hw12
  have H12 : Hid (NmAt w12 g 22 (fun k => if k = 17 then s.done else if k = 16 then s.code else if k = 15 then s.phase else if k = 14 then s.state else if k = 13 then bI s.ime 1 + bI s.due 2 + bI s.twice 4 else G k) ∧ Up w w12) := by rw [hw12]; exact ⟨H11.out.1.of_block rfl, H11.out.2.trans (Up.refl _).drew⟩
  clear hw12 H11
  simp only [List.take_succ_cons, List.take_zero, List.drop_succ_cons, List.drop_zero]
  repeat (go_big_quiet_step (fail))
  refine wpQuiet_nil ?_
  go_wp2_with (refine wpList_copyN rfl (.tmp 81) (.tmp 86) rfl g 18 4 4 ⟨b, 17, none⟩ 3 3 rfl rfl 22 3 (fun k => if k = 17 then s.done else if k = 16 then s.code else if k = 15 then s.phase else if k = 14 then s.state else if k = 13 then bI s.ime 1 + bI s.due 2 + bI s.twice 4 else G k) s.rd H12.out.1 rfl (fun k hk => by rw [Addr.add_lit]; exact (HC.out.up H12.out.2).rdc k hk) (by decide) ?_; intro w13 n13 F13; have H13 : Hid (NmAt w13 g 22 (putF (fun k => if k = 17 then s.done else if k = 16 then s.code else if k = 15 then s.phase else if k = 14 then s.state else if k = 13 then bI s.ime 1 + bI s.due 2 + bI s.twice 4 else G k) s.rd 18 3) ∧ Up w w13) := ⟨n13, Fr.up H12.out.2 (Nat.le_of_eq hg'.out) F13⟩; clear n13 F13; have z21 := H13.out.1.fz 21; have k21 := H13.out.1.cell 21 (by decide); have x21 : w13.cell? ⟨b, 21, none⟩ = some (.int .u8 s.asked) := (HC.out.up H13.out.2).cell 21)
  clear H12
  try simp only [Act.put, goInt, List.setIfInBounds_toArray, List.set_cons_zero, List.set_cons_succ]
  try go_wp2_with fail
  go_ret
  have e := hg'.out
  subst e
  refine ⟨rfl, (H13.out.1.set 21 (by decide) s.asked).congr (fun k hk => ?_), H13.out.2.setCell (Nat.le_refl _) _⟩
  rw [HG.out]
  unfold St.enc putF
  have : k = 0 ∨ k = 1 ∨ k = 2 ∨ k = 3 ∨ k = 4 ∨ k = 5 ∨ k = 6 ∨ k = 7 ∨ k = 8 ∨ k = 9 ∨ k = 10 ∨ k = 11 ∨ k = 12 ∨ k = 13 ∨ k = 14 ∨ k = 15 ∨ k = 16 ∨ k = 17 ∨ k = 18 ∨ k = 19 ∨ k = 20 ∨ k = 21 := by omega
  rcases this with rfl | rfl | rfl | rfl | rfl | rfl | rfl | rfl | rfl | rfl | rfl | rfl | rfl | rfl | rfl | rfl | rfl | rfl | rfl | rfl | rfl | rfl <;> first | rfl | (simp; done)
end Go.Proofs.YtlgfpddiebdmaaaGreatDoor
/- What a state's bytes begin with, over the translation. No condition. -/
namespace Go.Proofs.YtlgfpddiebdmaaaGreatDoor
open Go.RowKit
set_option linter.unusedVariables false
set_option linter.unusedSimpArgs false
/-- the processor as it was when what goes on began -/
structure Bgn (x : Nat → Int) (c : St) : Prop where
  r : ∀ k, k < 8 → c.r k = x (k + 1)
  sp : c.sp = wordP (x 10) (x 9)
  pc : c.pc = wordP (x 12) (x 11)
  ime : c.ime = (x 13 % 2 == 1)
  due : c.due = (x 13 / 2 % 2 == 1)
  twice : c.twice = (x 13 / 4 % 2 == 1)
  state : c.state = x 14
  phase : c.phase = if x 15 = 2 then 2 else 0
  code : c.code = 0
  done : c.done = 0
  rd : c.rd = zf
  many : c.many = 0
  asked : c.asked = 0
theorem bit1 : ∀ x : Int, 0 ≤ x → x ≤ 255 → (bits .and .u8 x 1 != 0) = (x % 2 == 1) := byteAll (by decide +kernel)
theorem bit2 : ∀ x : Int, 0 ≤ x → x ≤ 255 → (bits .and .u8 x 2 != 0) = (x / 2 % 2 == 1) := byteAll (by decide +kernel)
theorem bit4 : ∀ x : Int, 0 ≤ x → x ≤ 255 → (bits .and .u8 x 4 != 0) = (x / 4 % 2 == 1) := byteAll (by decide +kernel)
def z22 : Array Value := #[.int .u8 0, .int .u8 0, .int .u8 0, .int .u8 0, .int .u8 0, .int .u8 0, .int .u8 0, .int .u8 0, .int .u16 0, .int .u16 0, .bool false, .int .i64 0, .bool false, .bool false, .int .u8 0, .int .u8 0, .int .u8 0, .int .u8 0, .int .u8 0, .int .u8 0, .int .u8 0, .int .u8 0]
/-- the literal, made -/
structure Md (w : World) (rb gb : Nat) (x : Nat → Int) (w' : World) : Prop where
  up : Up w w'
  r : w'.heap[rb]? = some (.cells z22 70 (0, 0))
  g : w'.heap[gb]? = some (.cells #[.int .u8 0, .int .u8 0, .int .u8 0, .int .u8 0, .int .u8 0, .int .u8 0, .int .u8 0, .int .u8 0, .int .u16 (wordP (x 10) (x 9)), .int .u16 (wordP (x 12) (x 11)), .bool (x 13 % 2 == 1), .int .i64 (x 14), .bool (x 13 / 2 % 2 == 1), .bool (x 13 / 4 % 2 == 1), .int .u8 0, .int .u8 0, .int .u8 0, .int .u8 0, .int .u8 0, .int .u8 0, .int .u8 0, .int .u8 0] 70 (0, 0))
  lo : w.heap.size ≤ gb
  ne : rb < gb
/-- .. with its bytes -/
structure Mc (w : World) (rb gb : Nat) (x : Nat → Int) (w' : World) : Prop where
  up : Up w w'
  r : w'.heap[rb]? = some (.cells z22 70 (0, 0))
  g : w'.heap[gb]? = some (.cells #[.int .u8 (x 1), .int .u8 (x 2), .int .u8 (x 3), .int .u8 (x 4), .int .u8 (x 5), .int .u8 (x 6), .int .u8 (x 7), .int .u8 (x 8), .int .u16 (wordP (x 10) (x 9)), .int .u16 (wordP (x 12) (x 11)), .bool (x 13 % 2 == 1), .int .i64 (x 14), .bool (x 13 / 2 % 2 == 1), .bool (x 13 / 4 % 2 == 1), .int .u8 0, .int .u8 0, .int .u8 0, .int .u8 0, .int .u8 0, .int .u8 0, .int .u8 0, .int .u8 0] 70 (0, 0))
  lo : w.heap.size ≤ gb
  ne : rb < gb
theorem Mc.of {w w1 w' : World} {rb gb : Nat} {x : Nat → Int} {cs : Array Value} (h : Md w rb gb x w1) (e1 : w'.heap[gb]? = some (.cells cs 70 (0, 0))) (e2 : cs.size = 22)
    (e3 : ∀ k, k < 22 → cs[k]? = if 0 ≤ k ∧ k < 0 + 8 then some (.int .u8 (x (k - 0 + 1))) else (#[.int .u8 0, .int .u8 0, .int .u8 0, .int .u8 0, .int .u8 0, .int .u8 0, .int .u8 0, .int .u8 0, .int .u16 (wordP (x 10) (x 9)), .int .u16 (wordP (x 12) (x 11)), .bool (x 13 % 2 == 1), .int .i64 (x 14), .bool (x 13 / 2 % 2 == 1), .bool (x 13 / 4 % 2 == 1), .int .u8 0, .int .u8 0, .int .u8 0, .int .u8 0, .int .u8 0, .int .u8 0, .int .u8 0, .int .u8 0] : Array Value)[k]?) (f : Fr gb w1 w') : Mc w rb gb x w' := by
  refine ⟨Fr.up h.up h.lo f, (f.block rb (heap_at h.r) (by have := h.ne; omega)).trans h.r, e1.trans ?_, h.lo, h.ne⟩
  congr 2
  refine Array.ext_getElem? fun k => ?_
  by_cases hk : k < 22
  · rw [e3 k hk]
    have : k = 0 ∨ k = 1 ∨ k = 2 ∨ k = 3 ∨ k = 4 ∨ k = 5 ∨ k = 6 ∨ k = 7 ∨ k = 8 ∨ k = 9 ∨ k = 10 ∨ k = 11 ∨ k = 12 ∨ k = 13 ∨ k = 14 ∨ k = 15 ∨ k = 16 ∨ k = 17 ∨ k = 18 ∨ k = 19 ∨ k = 20 ∨ k = 21 := by omega
    rcases this with rfl | rfl | rfl | rfl | rfl | rfl | rfl | rfl | rfl | rfl | rfl | rfl | rfl | rfl | rfl | rfl | rfl | rfl | rfl | rfl | rfl | rfl <;> rfl
  · rw [Array.getElem?_eq_none (by omega), Array.getElem?_eq_none (by show 22 ≤ k; omega)]
theorem Mc.fz {w w' : World} {rb gb : Nat} {x : Nat → Int} (h : Mc w rb gb x w') (k : Nat) : w'.frozen? ⟨gb, k, none⟩ = false := heap_fz h.g
theorem Mc.c14 {w w' : World} {rb gb : Nat} {x : Nat → Int} (h : Mc w rb gb x w') : w'.cell? ⟨gb, 14, none⟩ = some (.int .u8 0) := heap_cell h.g rfl
theorem Mc.set14 {w w' : World} {rb gb : Nat} {x : Nat → Int} (h : Mc w rb gb x w') : (w'.setCell ⟨gb, 14, none⟩ (.int .u8 2)).heap[gb]? = some (.cells #[.int .u8 (x 1), .int .u8 (x 2), .int .u8 (x 3), .int .u8 (x 4), .int .u8 (x 5), .int .u8 (x 6), .int .u8 (x 7), .int .u8 (x 8), .int .u16 (wordP (x 10) (x 9)), .int .u16 (wordP (x 12) (x 11)), .bool (x 13 % 2 == 1), .int .i64 (x 14), .bool (x 13 / 2 % 2 == 1), .bool (x 13 / 4 % 2 == 1), .int .u8 2, .int .u8 0, .int .u8 0, .int .u8 0, .int .u8 0, .int .u8 0, .int .u8 0, .int .u8 0] 70 (0, 0)) ∧ (w'.setCell ⟨gb, 14, none⟩ (.int .u8 2)).heap[rb]? = some (.cells z22 70 (0, 0)) ∧ Up w (w'.setCell ⟨gb, 14, none⟩ (.int .u8 2)) :=
  ⟨heap_setCell_same w' gb 14 _ _ _ h.g, ((Fr.refl gb w').setCell.block rb (heap_at h.r) (by have := h.ne; omega)).trans h.r, h.up.setCell h.lo _⟩
theorem bgn_cells {x : Nat → Int} {c : St} (h : Bgn x c) (p : Int) (hp : p = c.phase) : cpCells c = #[.int .u8 (x 1), .int .u8 (x 2), .int .u8 (x 3), .int .u8 (x 4), .int .u8 (x 5), .int .u8 (x 6), .int .u8 (x 7), .int .u8 (x 8), .int .u16 (wordP (x 10) (x 9)), .int .u16 (wordP (x 12) (x 11)), .bool (x 13 % 2 == 1), .int .i64 (x 14), .bool (x 13 / 2 % 2 == 1), .bool (x 13 / 4 % 2 == 1), .int .u8 p, .int .u8 0, .int .u8 0, .int .u8 0, .int .u8 0, .int .u8 0, .int .u8 0, .int .u8 0] := by
  unfold cpCells
  rw [h.r 0 (by omega), h.r 1 (by omega), h.r 2 (by omega), h.r 3 (by omega), h.r 4 (by omega), h.r 5 (by omega), h.r 6 (by omega), h.r 7 (by omega), h.sp, h.pc, h.ime, h.due, h.twice, h.state, h.code, h.done, h.rd, h.many, h.asked, hp]
  rfl
theorem range_full {w : World} {b : Nat} {l : List Value} {ty : TypeId} (h : w.heap[b]? = some (.cells l.toArray ty (0, 0))) : w.rangeAt b 0 l := fun k v hk => by
  rw [cell_of_row _ _ _ _ _ _ h, Nat.zero_add, List.getElem?_toArray]
  exact hk
set_option maxRecDepth 100000 in
set_option maxHeartbeats 1000000 in
theorem wordAt_any (ab o n c : Nat) (l h : Int) (w : World) (hl : w.cell? ⟨ab, o, none⟩ = some (.int .u8 l)) (hh : w.cell? ⟨ab, o + 1, none⟩ = some (.int .u8 h)) (bl : 0 ≤ l ∧ l ≤ 255) (bh : 0 ≤ h ∧ h ≤ 255) (hn : 2 ≤ n) (hn2 : n ≤ 100) (hc : n ≤ c) (hc2 : c ≤ maxLen) :
    Calls Tryz.prog 58 #[.slice (some ⟨ab, o, none⟩) n c] w fun e w' => e = .returned (.int .u16 (wordP h l)) ∧ Up w w' := by
  have HW : Hid (∀ w, Calls Tryz.prog 115 #[.int .u8 h, .int .u8 l] w fun e w' => e = .returned (.int .u16 (wordP h l)) ∧ ∃ n, w' = w.drewN n) := fun w => wordOf_any h l w bh.1 bh.2 bl.1 bl.2
  have l2 : c ≤ 9223372036854775807 := by unfold maxLen at hc2; omega
  have hnI : (1 : Int) < (n : Int) := by omega
  have hnJ : (0 : Int) < (n : Int) := by omega
  have hnK : 0 < n := by omega
  have hnL : 1 < n := by omega
  have HS : Hid (∀ w', Up w w' → w'.cell? ⟨ab, o, none⟩ = some (.int .u8 l) ∧ w'.cell? ⟨ab, o + 1, none⟩ = some (.int .u8 h)) := fun w' u => by
    rw [u.cell (World.block_lt_of_cell? _ _ hl), u.cell (World.block_lt_of_cell? _ _ hl)]
    exact ⟨hl, hh⟩
  clear hc2 hl hh
  go_enter Tryz.func58, Tryz.ntmps58
  go_wp2_with fail
  refine wp_region_held_drew (S := fun w' => w'.cell? ⟨ab, o, none⟩ = some (.int .u8 l) ∧ w'.cell? ⟨ab, o + 1, none⟩ = some (.int .u8 h)) (by kernel_rfl) (HS.out _ (Up.refl w).drew) (fun hHeld => ?_)
  have HU : Hid (Up w w.drew) := (Up.refl w).drew
  generalize World.drew w = w1 at HU hHeld ⊢
  refine wpAnyH_take (i := 0) (v := ?_) (by simp only [List.getElem?_toArray, List.getElem?_cons_zero]; rfl) (by kernel_rfl) (by kernel_rfl) (by kernel_rfl) (by intro _ _ _ h; exact h) (Or.inl ⟨by rfl, ?_⟩) (by assumption) ?_
  rotate_left
  · (intro w hSw; (try dsimp only at hSw); obtain ⟨hSa, hSb⟩ := hSw; go_simp <;> with_reducible rfl)
  try simp only [Act.put, List.setIfInBounds_toArray, List.set_cons_zero, List.set_cons_succ]
  refine wpAnyH_take (i := 1) (v := ?_) (by simp only [List.getElem?_toArray, List.getElem?_cons_succ, List.getElem?_cons_zero]; rfl) (by kernel_rfl) (by kernel_rfl) (by kernel_rfl) (by intro _ _ _ h; exact h) (Or.inl ⟨by rfl, ?_⟩) (by assumption) ?_
  rotate_left
  · (intro w hSw; (try dsimp only at hSw); obtain ⟨hSa, hSb⟩ := hSw; go_simp <;> with_reducible rfl)
  try simp only [Act.put, List.setIfInBounds_toArray, List.set_cons_zero, List.set_cons_succ]
  refine wpAnyH_take (i := 2) (v := ?_) (by simp only [List.getElem?_toArray, List.getElem?_cons_succ, List.getElem?_cons_zero]; rfl) (by kernel_rfl) (by kernel_rfl) (by kernel_rfl) (by intro _ _ _ h; exact h) (Or.inl ⟨by rfl, ?_⟩) (by assumption) ?_
  rotate_left
  · (intro w hSw; (try dsimp only at hSw); obtain ⟨hSa, hSb⟩ := hSw; go_simp <;> with_reducible rfl)
  try simp only [Act.put, List.setIfInBounds_toArray, List.set_cons_zero, List.set_cons_succ]
  refine wpAnyH_take (i := 3) (v := ?_) (by simp only [List.getElem?_toArray, List.getElem?_cons_succ, List.getElem?_cons_zero]; rfl) (by kernel_rfl) (by kernel_rfl) (by kernel_rfl) (by intro _ _ _ h; exact h) (Or.inl ⟨by rfl, ?_⟩) (by assumption) ?_
  rotate_left
  · (intro w hSw; (try dsimp only at hSw); obtain ⟨hSa, hSb⟩ := hSw; go_simp <;> with_reducible rfl)
  try simp only [Act.put, List.setIfInBounds_toArray, List.set_cons_zero, List.set_cons_succ]
  refine wpAnyH_take (i := 4) (v := ?_) (by simp only [List.getElem?_toArray, List.getElem?_cons_succ, List.getElem?_cons_zero]; rfl) (by kernel_rfl) (by kernel_rfl) (by kernel_rfl) (by intro _ _ _ h; exact h) (Or.inl ⟨by rfl, ?_⟩) (by assumption) ?_
  rotate_left
  · (intro w hSw; (try dsimp only at hSw); obtain ⟨hSa, hSb⟩ := hSw; go_simp <;> with_reducible rfl)
  try simp only [Act.put, List.setIfInBounds_toArray, List.set_cons_zero, List.set_cons_succ]
  refine wpAnyH_take (i := 5) (v := ?_) (by simp only [List.getElem?_toArray, List.getElem?_cons_succ, List.getElem?_cons_zero]; rfl) (by kernel_rfl) (by kernel_rfl) (by kernel_rfl) (by intro _ _ _ h; exact h) (Or.inl ⟨by rfl, ?_⟩) (by assumption) ?_
  rotate_left
  · (intro w hSw; (try dsimp only at hSw); obtain ⟨hSa, hSb⟩ := hSw; go_simp <;> with_reducible rfl)
  try simp only [Act.put, List.setIfInBounds_toArray, List.set_cons_zero, List.set_cons_succ]
  refine wpAnyH_ready (rs := [6]) (by kernel_rfl) (by simp) ?_
  refine AllReadyH.cons (by simp only [List.getElem?_toArray, List.getElem?_cons_succ, List.getElem?_cons_zero]; rfl) (fun KK hK => ?_) AllReadyH.nil
  go_simp
  refine Calls.mono (HW.out _) ?_
  rintro e w2 ⟨rfl, n2, rfl⟩
  have HU2 : Hid (Up w (w1.drewN n2)) := HU.out.trans (Up.drewN _ _)
  refine hK.out _ _ (HS.out _ HU2.out) (fun hHeld => ?_)
  clear hK KK
  try simp only [Act.put, List.setIfInBounds_toArray, List.set_cons_zero, List.set_cons_succ]
  refine wpAnyH_take (i := 7) (v := ?_) (by simp only [List.getElem?_toArray, List.getElem?_cons_succ, List.getElem?_cons_zero]; rfl) (by kernel_rfl) (by kernel_rfl) (by kernel_rfl) (by intro _ _ _ h; exact h) (Or.inl ⟨by rfl, ?_⟩) (by assumption) ?_
  rotate_left
  · (intro w hSw; (try dsimp only at hSw); obtain ⟨hSa, hSb⟩ := hSw; go_simp <;> with_reducible rfl)
  try simp only [Act.put, List.setIfInBounds_toArray, List.set_cons_zero, List.set_cons_succ]
  refine wpAnyH_done (by kernel_rfl) ?_ _
  go_wp2_with fail
  go_ret
  exact ⟨rfl, HU2.out⟩
set_option maxRecDepth 100000 in
set_option maxHeartbeats 1000000 in
theorem began_any (aa : Option Addr) (ab ao cap : Nat) (x : Nat → Int) (c : St) (w : World) (D : Byts w aa ab ao 22 cap x) (hb : Bgn x c) :
    Calls Tryz.prog 35 #[.slice aa 22 cap] w fun e w' => e = .returned (.agg (cpCells c)) ∧ Up w w' := by
  obtain rfl := D.ad (by omega)
  have l1 := D.lc
  have l2 : cap ≤ 9223372036854775807 := by have := D.cm; unfold maxLen at this; omega
  have HM : Hid (cap ≤ maxLen) := D.cm
  have HD : Hid (∀ w', Up w w' → Byts w' (some ⟨ab, ao, none⟩) ab ao 22 cap x) := fun w' u => D.upT u
  have HB : Hid (Bgn x c) := hb
  have HX : Hid (∀ k, 0 ≤ x k ∧ x k ≤ 255) := D.u8
  have HWa : Hid (∀ w', Up w w' → Calls Tryz.prog 58 #[.slice (some ⟨ab, ao + 9, none⟩) 13 (cap - 9)] w' fun e w'' => e = .returned (.int .u16 (wordP (x 10) (x 9))) ∧ Up w' w'') := fun w' u => wordAt_any ab (ao + 9) 13 (cap - 9) (x 9) (x 10) w' ((HD.out w' u).cell 9 (by omega)) ((HD.out w' u).cell 10 (by omega)) (HX.out 9) (HX.out 10) (by omega) (by omega) (by omega) (by have := HM.out; omega)
  have HWb : Hid (∀ w', Up w w' → Calls Tryz.prog 58 #[.slice (some ⟨ab, ao + 11, none⟩) 11 (cap - 11)] w' fun e w'' => e = .returned (.int .u16 (wordP (x 12) (x 11))) ∧ Up w' w'') := fun w' u => wordAt_any ab (ao + 11) 11 (cap - 11) (x 11) (x 12) w' ((HD.out w' u).cell 11 (by omega)) ((HD.out w' u).cell 12 (by omega)) (HX.out 11) (HX.out 12) (by omega) (by omega) (by omega) (by have := HM.out; omega)
  have n9 : ¬ cap = 9 := by omega
  have n1 : ¬ cap = 1 := by omega
  have n11 : ¬ cap = 11 := by omega
  have k13 : ∀ o, (w.alloc o).cell? ⟨ab, ao + 13, none⟩ = some (.int .u8 (x 13)) := fun o => (HD.out _ ((Up.refl w).alloc o)).cell 13 (by omega)
  have x13 := HX.out 13
  have x14 := HX.out 14
  have b1 := bit1 (x 13) x13.1 x13.2
  have b2 := bit2 (x 13) x13.1 x13.2
  have b4 := bit4 (x 13) x13.1 x13.2
  have w14 : IntKind.i64.wrap (x 14) = x 14 := wi _ x14.1 (by omega)
  have H1 : Hid (Up w (w.alloc (Obj.cells z22 70)) ∧ (w.alloc (Obj.cells z22 70)).heap[w.heap.size]? = some (.cells z22 70 (0, 0))) := ⟨(Up.refl w).alloc _, heap_alloc_new w _⟩
  clear D hb x13 x14
  go_enter Tryz.func35, Tryz.ntmps35
  go_wp2_with fail
  have e22 : z22 = #[.int .u8 0, .int .u8 0, .int .u8 0, .int .u8 0, .int .u8 0, .int .u8 0, .int .u8 0, .int .u8 0, .int .u16 0, .int .u16 0, .bool false, .int .i64 0, .bool false, .bool false, .int .u8 0, .int .u8 0, .int .u8 0, .int .u8 0, .int .u8 0, .int .u8 0, .int .u8 0, .int .u8 0] := rfl
  rw [e22] at H1
  generalize World.alloc w _ = w1 at H1 ⊢
  generalize hrb : w.heap.size = rb at H1 ⊢
  have HRB : Hid (w.heap.size = rb) := hrb
  clear hrb
  clear k13 e22
  have HS : Hid (∀ w', Up w w' → w'.cell? ⟨ab, ao + 14, none⟩ = some (.int .u8 (x 14))) := fun w' u => (HD.out w' u).cell 14 (by omega)
  refine wp_region_held_drew (S := fun w' => w'.cell? ⟨ab, ao + 14, none⟩ = some (.int .u8 (x 14))) (by kernel_rfl) (HS.out _ H1.out.1.drew) (fun hHeld => ?_)
  have H2 : Hid (Up w w1.drew ∧ w1.drew.heap[rb]? = some (.cells z22 70 (0, 0))) := ⟨H1.out.1.drew, H1.out.2⟩
  generalize World.drew w1 = w2 at H2 hHeld ⊢
  clear H1
  refine wpAnyH_take (i := 0) (v := ?_) (by simp only [List.getElem?_toArray, List.getElem?_cons_zero]; rfl) (by kernel_rfl) (by kernel_rfl) (by kernel_rfl) (by intro _ _ _ h; exact h) (Or.inl ⟨by rfl, ?_⟩) (by assumption) ?_
  rotate_left
  · (intro w hSw; (try dsimp only at hSw); go_simp <;> with_reducible rfl)
  try simp only [Act.put, List.setIfInBounds_toArray, List.set_cons_zero, List.set_cons_succ]
  refine wpAnyH_take (i := 1) (v := ?_) (by simp only [List.getElem?_toArray, List.getElem?_cons_succ, List.getElem?_cons_zero]; rfl) (by kernel_rfl) (by kernel_rfl) (by kernel_rfl) (by intro _ _ _ h; exact h) (Or.inl ⟨by rfl, ?_⟩) (by assumption) ?_
  rotate_left
  · (intro w hSw; (try dsimp only at hSw); go_simp <;> with_reducible rfl)
  try simp only [Act.put, List.setIfInBounds_toArray, List.set_cons_zero, List.set_cons_succ]
  refine wpAnyH_take (i := 3) (v := ?_) (by simp only [List.getElem?_toArray, List.getElem?_cons_succ, List.getElem?_cons_zero]; rfl) (by kernel_rfl) (by kernel_rfl) (by kernel_rfl) (by intro _ _ _ h; exact h) (Or.inl ⟨by rfl, ?_⟩) (by assumption) ?_
  rotate_left
  · (intro w hSw; (try dsimp only at hSw); go_simp <;> with_reducible rfl)
  try simp only [Act.put, List.setIfInBounds_toArray, List.set_cons_zero, List.set_cons_succ]
  refine wpAnyH_take (i := 4) (v := ?_) (by simp only [List.getElem?_toArray, List.getElem?_cons_succ, List.getElem?_cons_zero]; rfl) (by kernel_rfl) (by kernel_rfl) (by kernel_rfl) (by intro _ _ _ h; exact h) (Or.inl ⟨by rfl, ?_⟩) (by assumption) ?_
  rotate_left
  · (intro w hSw; (try dsimp only at hSw); go_simp <;> with_reducible rfl)
  try simp only [Act.put, List.setIfInBounds_toArray, List.set_cons_zero, List.set_cons_succ]
  refine wpAnyH_take (i := 6) (v := ?_) (by simp only [List.getElem?_toArray, List.getElem?_cons_succ, List.getElem?_cons_zero]; rfl) (by kernel_rfl) (by kernel_rfl) (by kernel_rfl) (by intro _ _ _ h; exact h) (Or.inl ⟨by rfl, ?_⟩) (by assumption) ?_
  rotate_left
  · (intro w hSw; (try dsimp only at hSw); go_simp <;> with_reducible rfl)
  try simp only [Act.put, List.setIfInBounds_toArray, List.set_cons_zero, List.set_cons_succ]
  refine wpAnyH_take (i := 7) (v := ?_) (by simp only [List.getElem?_toArray, List.getElem?_cons_succ, List.getElem?_cons_zero]; rfl) (by kernel_rfl) (by kernel_rfl) (by kernel_rfl) (by intro _ _ _ h; exact h) (Or.inl ⟨by rfl, ?_⟩) (by assumption) ?_
  rotate_left
  · (intro w hSw; (try dsimp only at hSw); go_simp <;> with_reducible rfl)
  try simp only [Act.put, List.setIfInBounds_toArray, List.set_cons_zero, List.set_cons_succ]
  refine wpAnyH_take (i := 8) (v := ?_) (by simp only [List.getElem?_toArray, List.getElem?_cons_succ, List.getElem?_cons_zero]; rfl) (by kernel_rfl) (by kernel_rfl) (by kernel_rfl) (by intro _ _ _ h; exact h) (Or.inl ⟨by rfl, ?_⟩) (by assumption) ?_
  rotate_left
  · (intro w hSw; (try dsimp only at hSw); go_simp <;> with_reducible rfl)
  try simp only [Act.put, List.setIfInBounds_toArray, List.set_cons_zero, List.set_cons_succ]
  refine wpAnyH_take (i := 9) (v := ?_) (by simp only [List.getElem?_toArray, List.getElem?_cons_succ, List.getElem?_cons_zero]; rfl) (by kernel_rfl) (by kernel_rfl) (by kernel_rfl) (by intro _ _ _ h; exact h) (Or.inl ⟨by rfl, ?_⟩) (by assumption) ?_
  rotate_left
  · (intro w hSw; (try dsimp only at hSw); go_simp <;> with_reducible rfl)
  try simp only [Act.put, List.setIfInBounds_toArray, List.set_cons_zero, List.set_cons_succ]
  refine wpAnyH_take (i := 10) (v := ?_) (by simp only [List.getElem?_toArray, List.getElem?_cons_succ, List.getElem?_cons_zero]; rfl) (by kernel_rfl) (by kernel_rfl) (by kernel_rfl) (by intro _ _ _ h; exact h) (Or.inl ⟨by rfl, ?_⟩) (by assumption) ?_
  rotate_left
  · (intro w hSw; (try dsimp only at hSw); go_simp <;> with_reducible rfl)
  try simp only [Act.put, List.setIfInBounds_toArray, List.set_cons_zero, List.set_cons_succ]
  refine wpAnyH_take (i := 11) (v := ?_) (by simp only [List.getElem?_toArray, List.getElem?_cons_succ, List.getElem?_cons_zero]; rfl) (by kernel_rfl) (by kernel_rfl) (by kernel_rfl) (by intro _ _ _ h; exact h) (Or.inl ⟨by rfl, ?_⟩) (by assumption) ?_
  rotate_left
  · (intro w hSw; (try dsimp only at hSw); go_simp <;> with_reducible rfl)
  try simp only [Act.put, List.setIfInBounds_toArray, List.set_cons_zero, List.set_cons_succ]
  refine wpAnyH_take (i := 12) (v := ?_) (by simp only [List.getElem?_toArray, List.getElem?_cons_succ, List.getElem?_cons_zero]; rfl) (by kernel_rfl) (by kernel_rfl) (by kernel_rfl) (by intro _ _ _ h; exact h) (Or.inl ⟨by rfl, ?_⟩) (by assumption) ?_
  rotate_left
  · (intro w hSw; (try dsimp only at hSw); go_simp <;> with_reducible rfl)
  try simp only [Act.put, List.setIfInBounds_toArray, List.set_cons_zero, List.set_cons_succ]
  refine wpAnyH_take (i := 14) (v := ?_) (by simp only [List.getElem?_toArray, List.getElem?_cons_succ, List.getElem?_cons_zero]; rfl) (by kernel_rfl) (by kernel_rfl) (by kernel_rfl) (by intro _ _ _ h; exact h) (Or.inl ⟨by rfl, ?_⟩) (by assumption) ?_
  rotate_left
  · (intro w hSw; (try dsimp only at hSw); go_simp <;> with_reducible rfl)
  try simp only [Act.put, List.setIfInBounds_toArray, List.set_cons_zero, List.set_cons_succ]
  refine wpAnyH_take (i := 15) (v := ?_) (by simp only [List.getElem?_toArray, List.getElem?_cons_succ, List.getElem?_cons_zero]; rfl) (by kernel_rfl) (by kernel_rfl) (by kernel_rfl) (by intro _ _ _ h; exact h) (Or.inl ⟨by rfl, ?_⟩) (by assumption) ?_
  rotate_left
  · (intro w hSw; (try dsimp only at hSw); go_simp <;> with_reducible rfl)
  try simp only [Act.put, List.setIfInBounds_toArray, List.set_cons_zero, List.set_cons_succ]
  refine wpAnyH_take (i := 16) (v := ?_) (by simp only [List.getElem?_toArray, List.getElem?_cons_succ, List.getElem?_cons_zero]; rfl) (by kernel_rfl) (by kernel_rfl) (by kernel_rfl) (by intro _ _ _ h; exact h) (Or.inl ⟨by rfl, ?_⟩) (by assumption) ?_
  rotate_left
  · (intro w hSw; (try dsimp only at hSw); go_simp <;> with_reducible rfl)
  try simp only [Act.put, List.setIfInBounds_toArray, List.set_cons_zero, List.set_cons_succ]
  refine wpAnyH_take (i := 17) (v := ?_) (by simp only [List.getElem?_toArray, List.getElem?_cons_succ, List.getElem?_cons_zero]; rfl) (by kernel_rfl) (by kernel_rfl) (by kernel_rfl) (by intro _ _ _ h; exact h) (Or.inl ⟨by rfl, ?_⟩) (by assumption) ?_
  rotate_left
  · (intro w hSw; (try dsimp only at hSw); go_simp <;> with_reducible rfl)
  try simp only [Act.put, List.setIfInBounds_toArray, List.set_cons_zero, List.set_cons_succ]
  refine wpAnyH_take (i := 18) (v := ?_) (by simp only [List.getElem?_toArray, List.getElem?_cons_succ, List.getElem?_cons_zero]; rfl) (by kernel_rfl) (by kernel_rfl) (by kernel_rfl) (by intro _ _ _ h; exact h) (Or.inl ⟨by rfl, ?_⟩) (by assumption) ?_
  rotate_left
  · (intro w hSw; (try dsimp only at hSw); go_simp <;> with_reducible rfl)
  try simp only [Act.put, List.setIfInBounds_toArray, List.set_cons_zero, List.set_cons_succ]
  refine wpAnyH_take (i := 19) (v := ?_) (by simp only [List.getElem?_toArray, List.getElem?_cons_succ, List.getElem?_cons_zero]; rfl) (by kernel_rfl) (by kernel_rfl) (by kernel_rfl) (by intro _ _ _ h; exact h) (Or.inl ⟨by rfl, ?_⟩) (by assumption) ?_
  rotate_left
  · (intro w hSw; (try dsimp only at hSw); go_simp <;> with_reducible rfl)
  try simp only [Act.put, List.setIfInBounds_toArray, List.set_cons_zero, List.set_cons_succ]
  refine wpAnyH_ready (rs := [2, 21]) (by kernel_rfl) (by simp) ?_
  refine AllReadyH.cons (by simp only [List.getElem?_toArray, List.getElem?_cons_succ, List.getElem?_cons_zero]; rfl) (fun KK hK => ?_) (AllReadyH.cons (by simp only [List.getElem?_toArray, List.getElem?_cons_succ, List.getElem?_cons_zero]; rfl) (fun KK hK => ?_) AllReadyH.nil)
  · go_simp
    refine Calls.mono (HWa.out _ H2.out.1) ?_
    rintro e w3 ⟨rfl, u3⟩
    have H3 : Hid (Up w w3 ∧ w3.heap[rb]? = some (.cells z22 70 (0, 0))) := ⟨H2.out.1.trans u3, (u3.block rb (heap_at H2.out.2)).trans H2.out.2⟩
    clear u3
    refine hK.out _ _ (HS.out _ H3.out.1) (fun _ => ?_)
    clear hK KK
    try simp only [Act.put, List.setIfInBounds_toArray, List.set_cons_zero, List.set_cons_succ]
    refine wpAnyH_ready (rs := [5, 21]) (by kernel_rfl) (by simp) ?_
    refine AllReadyH.cons (by simp only [List.getElem?_toArray, List.getElem?_cons_succ, List.getElem?_cons_zero]; rfl) (fun KK hK => ?_) (AllReadyH.cons (by simp only [List.getElem?_toArray, List.getElem?_cons_succ, List.getElem?_cons_zero]; rfl) (fun KK hK => ?_) AllReadyH.nil)
    · go_simp
      refine Calls.mono (HWb.out _ H3.out.1) ?_
      rintro e w4 ⟨rfl, u4⟩
      have H4 : Hid (Up w w4 ∧ w4.heap[rb]? = some (.cells z22 70 (0, 0))) := ⟨H3.out.1.trans u4, (u4.block rb (heap_at H3.out.2)).trans H3.out.2⟩
      clear u4
      refine hK.out _ _ (HS.out _ H4.out.1) (fun _ => ?_)
      clear hK KK
      try simp only [Act.put, List.setIfInBounds_toArray, List.set_cons_zero, List.set_cons_succ]
      refine wpAnyH_take (i := 13) (v := ?_) (by simp only [List.getElem?_toArray, List.getElem?_cons_succ, List.getElem?_cons_zero]; rfl) (by kernel_rfl) (by kernel_rfl) (by kernel_rfl) (by intro _ _ _ h; exact h) (Or.inl ⟨by rfl, ?_⟩) (by assumption) ?_
      rotate_left
      · (intro w hSw; (try dsimp only at hSw); go_simp <;> with_reducible rfl)
      try simp only [Act.put, List.setIfInBounds_toArray, List.set_cons_zero, List.set_cons_succ]
      refine wpAnyH_take (i := 20) (v := ?_) (by simp only [List.getElem?_toArray, List.getElem?_cons_succ, List.getElem?_cons_zero]; rfl) (by kernel_rfl) (by kernel_rfl) (by kernel_rfl) (by intro _ _ _ h; exact h) (Or.inl ⟨by rfl, ?_⟩) (by assumption) ?_
      rotate_left
      · (intro w hSw; (try dsimp only at hSw); go_simp <;> with_reducible rfl)
      try simp only [Act.put, List.setIfInBounds_toArray, List.set_cons_zero, List.set_cons_succ]
      refine wpAnyH_ready (rs := [21]) (by kernel_rfl) (by simp) ?_
      refine AllReadyH.cons (by simp only [List.getElem?_toArray, List.getElem?_cons_succ, List.getElem?_cons_zero]; rfl) (fun KK hK => ?_) AllReadyH.nil
      · go_simp
        have H5 : Hid (Up w (w4.alloc (.cells z22 70)) ∧ (w4.alloc (.cells z22 70)).heap[rb]? = some (.cells z22 70 (0, 0))) := ⟨H4.out.1.alloc _, (((Up.refl w4).alloc _).block rb (heap_at H4.out.2)).trans H4.out.2⟩
        have G5 : Hid ((w4.alloc (.cells z22 70)).heap[w4.heap.size]? = some (.cells z22 70 (0, 0)) ∧ w.heap.size ≤ w4.heap.size ∧ rb < w4.heap.size) := ⟨heap_alloc_new w4 _, H4.out.1.size, heap_at H4.out.2⟩
        have e22 : z22 = #[.int .u8 0, .int .u8 0, .int .u8 0, .int .u8 0, .int .u8 0, .int .u8 0, .int .u8 0, .int .u8 0, .int .u16 0, .int .u16 0, .bool false, .int .i64 0, .bool false, .bool false, .int .u8 0, .int .u8 0, .int .u8 0, .int .u8 0, .int .u8 0, .int .u8 0, .int .u8 0, .int .u8 0] := rfl
        rw [e22] at H5 G5
        generalize World.alloc w4 _ = w5 at H5 G5 ⊢
        generalize w4.heap.size = gb at G5 ⊢
        clear e22
        refine hK.out _ _ (HS.out _ H5.out.1) (fun _ => ?_)
        clear hK KK
        try simp only [Act.put, List.setIfInBounds_toArray, List.set_cons_zero, List.set_cons_succ]
        refine wpAnyH_ready (rs := [22]) (by kernel_rfl) (by simp) ?_
        refine AllReadyH.cons (by simp only [List.getElem?_toArray, List.getElem?_cons_succ, List.getElem?_cons_zero]; rfl) (fun KK hK => ?_) AllReadyH.nil
        refine wp_store_mid 70 _ _ rfl gb 0 #[.int .u8 0, .int .u8 0, .int .u8 0, .int .u8 0, .int .u8 0, .int .u8 0, .int .u8 0, .int .u8 0, .int .u16 (wordP (x 10) (x 9)), .int .u16 (wordP (x 12) (x 11)), .bool (x 13 % 2 == 1), .int .i64 (x 14), .bool (x 13 / 2 % 2 == 1), .bool (x 13 / 4 % 2 == 1), .int .u8 0, .int .u8 0, .int .u8 0, .int .u8 0, .int .u8 0, .int .u8 0, .int .u8 0, .int .u8 0] rfl rfl (there_heap G5.out.1 (by show 0 + 22 ≤ 22; decide)) (by kernel_rfl) (by simp [Value.oneCell']) ?_
        have M5 : Hid (Md w rb gb x (w5.setCells gb 0 (#[.int .u8 0, .int .u8 0, .int .u8 0, .int .u8 0, .int .u8 0, .int .u8 0, .int .u8 0, .int .u8 0, .int .u16 (wordP (x 10) (x 9)), .int .u16 (wordP (x 12) (x 11)), .bool (x 13 % 2 == 1), .int .i64 (x 14), .bool (x 13 / 2 % 2 == 1), .bool (x 13 / 4 % 2 == 1), .int .u8 0, .int .u8 0, .int .u8 0, .int .u8 0, .int .u8 0, .int .u8 0, .int .u8 0, .int .u8 0]).toList)) := ⟨Fr.up H5.out.1 G5.out.2.1 (fr_setCells gb _ 0 _), ((fr_setCells gb _ 0 _).block rb (heap_at H5.out.2) (by have := G5.out.2.2; omega)).trans H5.out.2, setCells_full G5.out.1 rfl, G5.out.2.1, G5.out.2.2⟩
        dsimp only at M5 ⊢
        generalize World.setCells w5 gb 0 _ = wz at M5 ⊢
        refine hK.out _ _ (HS.out _ M5.out.up) (fun _ => ?_)
        clear hK KK
        try simp only [Act.put, List.setIfInBounds_toArray, List.set_cons_zero, List.set_cons_succ]
        refine wpAnyH_done (by kernel_rfl) ?_ _
        go_wp2_with fail
        refine wp_still2 5 (by kernel_rfl) (by decide +kernel) ?_
        intro wy hwy
        have MY : Hid (Md w rb gb x wy) := by rw [hwy]; exact ⟨M5.out.up.drew, M5.out.r, M5.out.g, M5.out.lo, M5.out.ne⟩
        clear hwy M5
        simp only [List.take_succ_cons, List.take_zero, List.drop_succ_cons, List.drop_zero]
        repeat (go_big_quiet_step (fail))
        refine wpQuiet_nil ?_
        by_cases h15 : x 15 = 2
        · have hq : (x 15 == 2) = true := by rw [h15]; rfl
          go_wp2_with (first | (refine wpList_copyG rfl (.tmp 31) (.tmp 33) rfl gb 0 8 8 ⟨ab, ao + 1, none⟩ 21 (cap - 1) rfl rfl 22 8 #[.int .u8 0, .int .u8 0, .int .u8 0, .int .u8 0, .int .u8 0, .int .u8 0, .int .u8 0, .int .u8 0, .int .u16 (wordP (x 10) (x 9)), .int .u16 (wordP (x 12) (x 11)), .bool (x 13 % 2 == 1), .int .i64 (x 14), .bool (x 13 / 2 % 2 == 1), .bool (x 13 / 4 % 2 == 1), .int .u8 0, .int .u8 0, .int .u8 0, .int .u8 0, .int .u8 0, .int .u8 0, .int .u8 0, .int .u8 0] 70 MY.out.g rfl (fun k => x (k + 1)) rfl (fun k hk => by rw [Addr.add_lit, show ao + 1 + k = ao + (k + 1) by omega]; exact (HD.out _ MY.out.up).cell (k + 1) (by omega)) (by decide) ?_; intro wv cs e1 e2 e3 f3; have MV : Hid (Mc w rb gb x wv) := Mc.of MY.out e1 e2 e3 f3; clear e1 e2 e3 f3 MY; have v15 := (HD.out _ MV.out.up).cell 15 (by omega); have vz := MV.out.fz 14; have v14 := MV.out.c14; have HZ : Hid _ := MV.out.set14) | (refine wpList_load_mid rfl 70 _ rfl gb 0 rfl [.int .u8 (x 1), .int .u8 (x 2), .int .u8 (x 3), .int .u8 (x 4), .int .u8 (x 5), .int .u8 (x 6), .int .u8 (x 7), .int .u8 (x 8), .int .u16 (wordP (x 10) (x 9)), .int .u16 (wordP (x 12) (x 11)), .bool (x 13 % 2 == 1), .int .i64 (x 14), .bool (x 13 / 2 % 2 == 1), .bool (x 13 / 4 % 2 == 1), .int .u8 2, .int .u8 0, .int .u8 0, .int .u8 0, .int .u8 0, .int .u8 0, .int .u8 0, .int .u8 0] _ (range_full HZ.out.1) Tryz.underlying70 rfl (by kernel_rfl) ?_) | (refine wpList_store_rowTo rfl 70 _ _ rfl rfl rb ([.int .u8 (x 1), .int .u8 (x 2), .int .u8 (x 3), .int .u8 (x 4), .int .u8 (x 5), .int .u8 (x 6), .int .u8 (x 7), .int .u8 (x 8), .int .u16 (wordP (x 10) (x 9)), .int .u16 (wordP (x 12) (x 11)), .bool (x 13 % 2 == 1), .int .i64 (x 14), .bool (x 13 / 2 % 2 == 1), .bool (x 13 / 4 % 2 == 1), .int .u8 2, .int .u8 0, .int .u8 0, .int .u8 0, .int .u8 0, .int .u8 0, .int .u8 0, .int .u8 0]).toArray rfl rfl 70 z22 HZ.out.2.1 (by kernel_rfl) rfl (by simp [Value.oneCell']) ?_))
          refine bodyPost_ret (v := .agg _) (results_row Tryz.results35 _ _ _ 70 _ (0, 0) _ rfl (setRow_heap _ _ _ _ _ _ HZ.out.2.1) Tryz.underlying70 rfl (by kernel_rfl)) rfl ?_
          exact ⟨by rw [bgn_cells HB.out 2 (by rw [HB.out.phase, if_pos h15])], HZ.out.2.2.setRow (Nat.le_of_eq HRB.out) _⟩
        · have hq : (x 15 == 2) = false := beq_eq_false_iff_ne.2 h15
          go_wp2_with (first | (refine wpList_copyG rfl (.tmp 31) (.tmp 33) rfl gb 0 8 8 ⟨ab, ao + 1, none⟩ 21 (cap - 1) rfl rfl 22 8 #[.int .u8 0, .int .u8 0, .int .u8 0, .int .u8 0, .int .u8 0, .int .u8 0, .int .u8 0, .int .u8 0, .int .u16 (wordP (x 10) (x 9)), .int .u16 (wordP (x 12) (x 11)), .bool (x 13 % 2 == 1), .int .i64 (x 14), .bool (x 13 / 2 % 2 == 1), .bool (x 13 / 4 % 2 == 1), .int .u8 0, .int .u8 0, .int .u8 0, .int .u8 0, .int .u8 0, .int .u8 0, .int .u8 0, .int .u8 0] 70 MY.out.g rfl (fun k => x (k + 1)) rfl (fun k hk => by rw [Addr.add_lit, show ao + 1 + k = ao + (k + 1) by omega]; exact (HD.out _ MY.out.up).cell (k + 1) (by omega)) (by decide) ?_; intro wv cs e1 e2 e3 f3; have MV : Hid (Mc w rb gb x wv) := Mc.of MY.out e1 e2 e3 f3; clear e1 e2 e3 f3 MY; have v15 := (HD.out _ MV.out.up).cell 15 (by omega); have vz := MV.out.fz 14; have v14 := MV.out.c14; have HZ : Hid _ := And.intro MV.out.g (And.intro MV.out.r MV.out.up)) | (refine wpList_load_mid rfl 70 _ rfl gb 0 rfl [.int .u8 (x 1), .int .u8 (x 2), .int .u8 (x 3), .int .u8 (x 4), .int .u8 (x 5), .int .u8 (x 6), .int .u8 (x 7), .int .u8 (x 8), .int .u16 (wordP (x 10) (x 9)), .int .u16 (wordP (x 12) (x 11)), .bool (x 13 % 2 == 1), .int .i64 (x 14), .bool (x 13 / 2 % 2 == 1), .bool (x 13 / 4 % 2 == 1), .int .u8 0, .int .u8 0, .int .u8 0, .int .u8 0, .int .u8 0, .int .u8 0, .int .u8 0, .int .u8 0] _ (range_full HZ.out.1) Tryz.underlying70 rfl (by kernel_rfl) ?_) | (refine wpList_store_rowTo rfl 70 _ _ rfl rfl rb ([.int .u8 (x 1), .int .u8 (x 2), .int .u8 (x 3), .int .u8 (x 4), .int .u8 (x 5), .int .u8 (x 6), .int .u8 (x 7), .int .u8 (x 8), .int .u16 (wordP (x 10) (x 9)), .int .u16 (wordP (x 12) (x 11)), .bool (x 13 % 2 == 1), .int .i64 (x 14), .bool (x 13 / 2 % 2 == 1), .bool (x 13 / 4 % 2 == 1), .int .u8 0, .int .u8 0, .int .u8 0, .int .u8 0, .int .u8 0, .int .u8 0, .int .u8 0, .int .u8 0]).toArray rfl rfl 70 z22 HZ.out.2.1 (by kernel_rfl) rfl (by simp [Value.oneCell']) ?_))
          refine bodyPost_ret (v := .agg _) (results_row Tryz.results35 _ _ _ 70 _ (0, 0) _ rfl (setRow_heap _ _ _ _ _ _ HZ.out.2.1) Tryz.underlying70 rfl (by kernel_rfl)) rfl ?_
          exact ⟨by rw [bgn_cells HB.out 0 (by rw [HB.out.phase, if_neg h15])], HZ.out.2.2.setRow (Nat.le_of_eq HRB.out) _⟩
    · go_simp
      have H4 : Hid (Up w (w3.alloc (.cells z22 70)) ∧ (w3.alloc (.cells z22 70)).heap[rb]? = some (.cells z22 70 (0, 0))) := ⟨H3.out.1.alloc _, (((Up.refl w3).alloc _).block rb (heap_at H3.out.2)).trans H3.out.2⟩
      have G4 : Hid ((w3.alloc (.cells z22 70)).heap[w3.heap.size]? = some (.cells z22 70 (0, 0)) ∧ w.heap.size ≤ w3.heap.size ∧ rb < w3.heap.size) := ⟨heap_alloc_new w3 _, H3.out.1.size, heap_at H3.out.2⟩
      have e22 : z22 = #[.int .u8 0, .int .u8 0, .int .u8 0, .int .u8 0, .int .u8 0, .int .u8 0, .int .u8 0, .int .u8 0, .int .u16 0, .int .u16 0, .bool false, .int .i64 0, .bool false, .bool false, .int .u8 0, .int .u8 0, .int .u8 0, .int .u8 0, .int .u8 0, .int .u8 0, .int .u8 0, .int .u8 0] := rfl
      rw [e22] at H4 G4
      generalize World.alloc w3 _ = w4 at H4 G4 ⊢
      generalize w3.heap.size = gb at G4 ⊢
      clear e22
      refine hK.out _ _ (HS.out _ H4.out.1) (fun _ => ?_)
      clear hK KK
      try simp only [Act.put, List.setIfInBounds_toArray, List.set_cons_zero, List.set_cons_succ]
      refine wpAnyH_ready (rs := [5]) (by kernel_rfl) (by simp) ?_
      refine AllReadyH.cons (by simp only [List.getElem?_toArray, List.getElem?_cons_succ, List.getElem?_cons_zero]; rfl) (fun KK hK => ?_) AllReadyH.nil
      · go_simp
        refine Calls.mono (HWb.out _ H4.out.1) ?_
        rintro e w5 ⟨rfl, u5⟩
        have H5 : Hid (Up w w5 ∧ w5.heap[rb]? = some (.cells z22 70 (0, 0))) := ⟨H4.out.1.trans u5, (u5.block rb (heap_at H4.out.2)).trans H4.out.2⟩
        have G5 : Hid (w5.heap[gb]? = some (.cells z22 70 (0, 0)) ∧ w.heap.size ≤ gb ∧ rb < gb) := ⟨(u5.block gb (heap_at G4.out.1)).trans G4.out.1, G4.out.2⟩
        clear u5
        refine hK.out _ _ (HS.out _ H5.out.1) (fun _ => ?_)
        clear hK KK
        try simp only [Act.put, List.setIfInBounds_toArray, List.set_cons_zero, List.set_cons_succ]
        refine wpAnyH_take (i := 13) (v := ?_) (by simp only [List.getElem?_toArray, List.getElem?_cons_succ, List.getElem?_cons_zero]; rfl) (by kernel_rfl) (by kernel_rfl) (by kernel_rfl) (by intro _ _ _ h; exact h) (Or.inl ⟨by rfl, ?_⟩) (by assumption) ?_
        rotate_left
        · (intro w hSw; (try dsimp only at hSw); go_simp <;> with_reducible rfl)
        try simp only [Act.put, List.setIfInBounds_toArray, List.set_cons_zero, List.set_cons_succ]
        refine wpAnyH_take (i := 20) (v := ?_) (by simp only [List.getElem?_toArray, List.getElem?_cons_succ, List.getElem?_cons_zero]; rfl) (by kernel_rfl) (by kernel_rfl) (by kernel_rfl) (by intro _ _ _ h; exact h) (Or.inl ⟨by rfl, ?_⟩) (by assumption) ?_
        rotate_left
        · (intro w hSw; (try dsimp only at hSw); go_simp <;> with_reducible rfl)
        try simp only [Act.put, List.setIfInBounds_toArray, List.set_cons_zero, List.set_cons_succ]
        refine wpAnyH_ready (rs := [22]) (by kernel_rfl) (by simp) ?_
        refine AllReadyH.cons (by simp only [List.getElem?_toArray, List.getElem?_cons_succ, List.getElem?_cons_zero]; rfl) (fun KK hK => ?_) AllReadyH.nil
        refine wp_store_mid 70 _ _ rfl gb 0 #[.int .u8 0, .int .u8 0, .int .u8 0, .int .u8 0, .int .u8 0, .int .u8 0, .int .u8 0, .int .u8 0, .int .u16 (wordP (x 10) (x 9)), .int .u16 (wordP (x 12) (x 11)), .bool (x 13 % 2 == 1), .int .i64 (x 14), .bool (x 13 / 2 % 2 == 1), .bool (x 13 / 4 % 2 == 1), .int .u8 0, .int .u8 0, .int .u8 0, .int .u8 0, .int .u8 0, .int .u8 0, .int .u8 0, .int .u8 0] rfl rfl (there_heap G5.out.1 (by show 0 + 22 ≤ 22; decide)) (by kernel_rfl) (by simp [Value.oneCell']) ?_
        have M5 : Hid (Md w rb gb x (w5.setCells gb 0 (#[.int .u8 0, .int .u8 0, .int .u8 0, .int .u8 0, .int .u8 0, .int .u8 0, .int .u8 0, .int .u8 0, .int .u16 (wordP (x 10) (x 9)), .int .u16 (wordP (x 12) (x 11)), .bool (x 13 % 2 == 1), .int .i64 (x 14), .bool (x 13 / 2 % 2 == 1), .bool (x 13 / 4 % 2 == 1), .int .u8 0, .int .u8 0, .int .u8 0, .int .u8 0, .int .u8 0, .int .u8 0, .int .u8 0, .int .u8 0]).toList)) := ⟨Fr.up H5.out.1 G5.out.2.1 (fr_setCells gb _ 0 _), ((fr_setCells gb _ 0 _).block rb (heap_at H5.out.2) (by have := G5.out.2.2; omega)).trans H5.out.2, setCells_full G5.out.1 rfl, G5.out.2.1, G5.out.2.2⟩
        dsimp only at M5 ⊢
        generalize World.setCells w5 gb 0 _ = wz at M5 ⊢
        refine hK.out _ _ (HS.out _ M5.out.up) (fun _ => ?_)
        clear hK KK
        try simp only [Act.put, List.setIfInBounds_toArray, List.set_cons_zero, List.set_cons_succ]
        refine wpAnyH_done (by kernel_rfl) ?_ _
        go_wp2_with fail
        refine wp_still2 5 (by kernel_rfl) (by decide +kernel) ?_
        intro wy hwy
        have MY : Hid (Md w rb gb x wy) := by rw [hwy]; exact ⟨M5.out.up.drew, M5.out.r, M5.out.g, M5.out.lo, M5.out.ne⟩
        clear hwy M5
        simp only [List.take_succ_cons, List.take_zero, List.drop_succ_cons, List.drop_zero]
        repeat (go_big_quiet_step (fail))
        refine wpQuiet_nil ?_
        by_cases h15 : x 15 = 2
        · have hq : (x 15 == 2) = true := by rw [h15]; rfl
          go_wp2_with (first | (refine wpList_copyG rfl (.tmp 31) (.tmp 33) rfl gb 0 8 8 ⟨ab, ao + 1, none⟩ 21 (cap - 1) rfl rfl 22 8 #[.int .u8 0, .int .u8 0, .int .u8 0, .int .u8 0, .int .u8 0, .int .u8 0, .int .u8 0, .int .u8 0, .int .u16 (wordP (x 10) (x 9)), .int .u16 (wordP (x 12) (x 11)), .bool (x 13 % 2 == 1), .int .i64 (x 14), .bool (x 13 / 2 % 2 == 1), .bool (x 13 / 4 % 2 == 1), .int .u8 0, .int .u8 0, .int .u8 0, .int .u8 0, .int .u8 0, .int .u8 0, .int .u8 0, .int .u8 0] 70 MY.out.g rfl (fun k => x (k + 1)) rfl (fun k hk => by rw [Addr.add_lit, show ao + 1 + k = ao + (k + 1) by omega]; exact (HD.out _ MY.out.up).cell (k + 1) (by omega)) (by decide) ?_; intro wv cs e1 e2 e3 f3; have MV : Hid (Mc w rb gb x wv) := Mc.of MY.out e1 e2 e3 f3; clear e1 e2 e3 f3 MY; have v15 := (HD.out _ MV.out.up).cell 15 (by omega); have vz := MV.out.fz 14; have v14 := MV.out.c14; have HZ : Hid _ := MV.out.set14) | (refine wpList_load_mid rfl 70 _ rfl gb 0 rfl [.int .u8 (x 1), .int .u8 (x 2), .int .u8 (x 3), .int .u8 (x 4), .int .u8 (x 5), .int .u8 (x 6), .int .u8 (x 7), .int .u8 (x 8), .int .u16 (wordP (x 10) (x 9)), .int .u16 (wordP (x 12) (x 11)), .bool (x 13 % 2 == 1), .int .i64 (x 14), .bool (x 13 / 2 % 2 == 1), .bool (x 13 / 4 % 2 == 1), .int .u8 2, .int .u8 0, .int .u8 0, .int .u8 0, .int .u8 0, .int .u8 0, .int .u8 0, .int .u8 0] _ (range_full HZ.out.1) Tryz.underlying70 rfl (by kernel_rfl) ?_) | (refine wpList_store_rowTo rfl 70 _ _ rfl rfl rb ([.int .u8 (x 1), .int .u8 (x 2), .int .u8 (x 3), .int .u8 (x 4), .int .u8 (x 5), .int .u8 (x 6), .int .u8 (x 7), .int .u8 (x 8), .int .u16 (wordP (x 10) (x 9)), .int .u16 (wordP (x 12) (x 11)), .bool (x 13 % 2 == 1), .int .i64 (x 14), .bool (x 13 / 2 % 2 == 1), .bool (x 13 / 4 % 2 == 1), .int .u8 2, .int .u8 0, .int .u8 0, .int .u8 0, .int .u8 0, .int .u8 0, .int .u8 0, .int .u8 0]).toArray rfl rfl 70 z22 HZ.out.2.1 (by kernel_rfl) rfl (by simp [Value.oneCell']) ?_))
          refine bodyPost_ret (v := .agg _) (results_row Tryz.results35 _ _ _ 70 _ (0, 0) _ rfl (setRow_heap _ _ _ _ _ _ HZ.out.2.1) Tryz.underlying70 rfl (by kernel_rfl)) rfl ?_
          exact ⟨by rw [bgn_cells HB.out 2 (by rw [HB.out.phase, if_pos h15])], HZ.out.2.2.setRow (Nat.le_of_eq HRB.out) _⟩
        · have hq : (x 15 == 2) = false := beq_eq_false_iff_ne.2 h15
          go_wp2_with (first | (refine wpList_copyG rfl (.tmp 31) (.tmp 33) rfl gb 0 8 8 ⟨ab, ao + 1, none⟩ 21 (cap - 1) rfl rfl 22 8 #[.int .u8 0, .int .u8 0, .int .u8 0, .int .u8 0, .int .u8 0, .int .u8 0, .int .u8 0, .int .u8 0, .int .u16 (wordP (x 10) (x 9)), .int .u16 (wordP (x 12) (x 11)), .bool (x 13 % 2 == 1), .int .i64 (x 14), .bool (x 13 / 2 % 2 == 1), .bool (x 13 / 4 % 2 == 1), .int .u8 0, .int .u8 0, .int .u8 0, .int .u8 0, .int .u8 0, .int .u8 0, .int .u8 0, .int .u8 0] 70 MY.out.g rfl (fun k => x (k + 1)) rfl (fun k hk => by rw [Addr.add_lit, show ao + 1 + k = ao + (k + 1) by omega]; exact (HD.out _ MY.out.up).cell (k + 1) (by omega)) (by decide) ?_; intro wv cs e1 e2 e3 f3; have MV : Hid (Mc w rb gb x wv) := Mc.of MY.out e1 e2 e3 f3; clear e1 e2 e3 f3 MY; have v15 := (HD.out _ MV.out.up).cell 15 (by omega); have vz := MV.out.fz 14; have v14 := MV.out.c14; have HZ : Hid _ := And.intro MV.out.g (And.intro MV.out.r MV.out.up)) | (refine wpList_load_mid rfl 70 _ rfl gb 0 rfl [.int .u8 (x 1), .int .u8 (x 2), .int .u8 (x 3), .int .u8 (x 4), .int .u8 (x 5), .int .u8 (x 6), .int .u8 (x 7), .int .u8 (x 8), .int .u16 (wordP (x 10) (x 9)), .int .u16 (wordP (x 12) (x 11)), .bool (x 13 % 2 == 1), .int .i64 (x 14), .bool (x 13 / 2 % 2 == 1), .bool (x 13 / 4 % 2 == 1), .int .u8 0, .int .u8 0, .int .u8 0, .int .u8 0, .int .u8 0, .int .u8 0, .int .u8 0, .int .u8 0] _ (range_full HZ.out.1) Tryz.underlying70 rfl (by kernel_rfl) ?_) | (refine wpList_store_rowTo rfl 70 _ _ rfl rfl rb ([.int .u8 (x 1), .int .u8 (x 2), .int .u8 (x 3), .int .u8 (x 4), .int .u8 (x 5), .int .u8 (x 6), .int .u8 (x 7), .int .u8 (x 8), .int .u16 (wordP (x 10) (x 9)), .int .u16 (wordP (x 12) (x 11)), .bool (x 13 % 2 == 1), .int .i64 (x 14), .bool (x 13 / 2 % 2 == 1), .bool (x 13 / 4 % 2 == 1), .int .u8 0, .int .u8 0, .int .u8 0, .int .u8 0, .int .u8 0, .int .u8 0, .int .u8 0, .int .u8 0]).toArray rfl rfl 70 z22 HZ.out.2.1 (by kernel_rfl) rfl (by simp [Value.oneCell']) ?_))
          refine bodyPost_ret (v := .agg _) (results_row Tryz.results35 _ _ _ 70 _ (0, 0) _ rfl (setRow_heap _ _ _ _ _ _ HZ.out.2.1) Tryz.underlying70 rfl (by kernel_rfl)) rfl ?_
          exact ⟨by rw [bgn_cells HB.out 0 (by rw [HB.out.phase, if_neg h15])], HZ.out.2.2.setRow (Nat.le_of_eq HRB.out) _⟩
  · go_simp
    have H3 : Hid (Up w (w2.alloc (.cells z22 70)) ∧ (w2.alloc (.cells z22 70)).heap[rb]? = some (.cells z22 70 (0, 0))) := ⟨H2.out.1.alloc _, (((Up.refl w2).alloc _).block rb (heap_at H2.out.2)).trans H2.out.2⟩
    have G3 : Hid ((w2.alloc (.cells z22 70)).heap[w2.heap.size]? = some (.cells z22 70 (0, 0)) ∧ w.heap.size ≤ w2.heap.size ∧ rb < w2.heap.size) := ⟨heap_alloc_new w2 _, H2.out.1.size, heap_at H2.out.2⟩
    have e22 : z22 = #[.int .u8 0, .int .u8 0, .int .u8 0, .int .u8 0, .int .u8 0, .int .u8 0, .int .u8 0, .int .u8 0, .int .u16 0, .int .u16 0, .bool false, .int .i64 0, .bool false, .bool false, .int .u8 0, .int .u8 0, .int .u8 0, .int .u8 0, .int .u8 0, .int .u8 0, .int .u8 0, .int .u8 0] := rfl
    rw [e22] at H3 G3
    generalize World.alloc w2 _ = w3 at H3 G3 ⊢
    generalize w2.heap.size = gb at G3 ⊢
    clear e22
    refine hK.out _ _ (HS.out _ H3.out.1) (fun _ => ?_)
    clear hK KK
    try simp only [Act.put, List.setIfInBounds_toArray, List.set_cons_zero, List.set_cons_succ]
    refine wpAnyH_ready (rs := [2]) (by kernel_rfl) (by simp) ?_
    refine AllReadyH.cons (by simp only [List.getElem?_toArray, List.getElem?_cons_succ, List.getElem?_cons_zero]; rfl) (fun KK hK => ?_) AllReadyH.nil
    · go_simp
      refine Calls.mono (HWa.out _ H3.out.1) ?_
      rintro e w4 ⟨rfl, u4⟩
      have H4 : Hid (Up w w4 ∧ w4.heap[rb]? = some (.cells z22 70 (0, 0))) := ⟨H3.out.1.trans u4, (u4.block rb (heap_at H3.out.2)).trans H3.out.2⟩
      have G4 : Hid (w4.heap[gb]? = some (.cells z22 70 (0, 0)) ∧ w.heap.size ≤ gb ∧ rb < gb) := ⟨(u4.block gb (heap_at G3.out.1)).trans G3.out.1, G3.out.2⟩
      clear u4
      refine hK.out _ _ (HS.out _ H4.out.1) (fun _ => ?_)
      clear hK KK
      try simp only [Act.put, List.setIfInBounds_toArray, List.set_cons_zero, List.set_cons_succ]
      refine wpAnyH_ready (rs := [5]) (by kernel_rfl) (by simp) ?_
      refine AllReadyH.cons (by simp only [List.getElem?_toArray, List.getElem?_cons_succ, List.getElem?_cons_zero]; rfl) (fun KK hK => ?_) AllReadyH.nil
      · go_simp
        refine Calls.mono (HWb.out _ H4.out.1) ?_
        rintro e w5 ⟨rfl, u5⟩
        have H5 : Hid (Up w w5 ∧ w5.heap[rb]? = some (.cells z22 70 (0, 0))) := ⟨H4.out.1.trans u5, (u5.block rb (heap_at H4.out.2)).trans H4.out.2⟩
        have G5 : Hid (w5.heap[gb]? = some (.cells z22 70 (0, 0)) ∧ w.heap.size ≤ gb ∧ rb < gb) := ⟨(u5.block gb (heap_at G4.out.1)).trans G4.out.1, G4.out.2⟩
        clear u5
        refine hK.out _ _ (HS.out _ H5.out.1) (fun _ => ?_)
        clear hK KK
        try simp only [Act.put, List.setIfInBounds_toArray, List.set_cons_zero, List.set_cons_succ]
        refine wpAnyH_take (i := 13) (v := ?_) (by simp only [List.getElem?_toArray, List.getElem?_cons_succ, List.getElem?_cons_zero]; rfl) (by kernel_rfl) (by kernel_rfl) (by kernel_rfl) (by intro _ _ _ h; exact h) (Or.inl ⟨by rfl, ?_⟩) (by assumption) ?_
        rotate_left
        · (intro w hSw; (try dsimp only at hSw); go_simp <;> with_reducible rfl)
        try simp only [Act.put, List.setIfInBounds_toArray, List.set_cons_zero, List.set_cons_succ]
        refine wpAnyH_take (i := 20) (v := ?_) (by simp only [List.getElem?_toArray, List.getElem?_cons_succ, List.getElem?_cons_zero]; rfl) (by kernel_rfl) (by kernel_rfl) (by kernel_rfl) (by intro _ _ _ h; exact h) (Or.inl ⟨by rfl, ?_⟩) (by assumption) ?_
        rotate_left
        · (intro w hSw; (try dsimp only at hSw); go_simp <;> with_reducible rfl)
        try simp only [Act.put, List.setIfInBounds_toArray, List.set_cons_zero, List.set_cons_succ]
        refine wpAnyH_ready (rs := [22]) (by kernel_rfl) (by simp) ?_
        refine AllReadyH.cons (by simp only [List.getElem?_toArray, List.getElem?_cons_succ, List.getElem?_cons_zero]; rfl) (fun KK hK => ?_) AllReadyH.nil
        refine wp_store_mid 70 _ _ rfl gb 0 #[.int .u8 0, .int .u8 0, .int .u8 0, .int .u8 0, .int .u8 0, .int .u8 0, .int .u8 0, .int .u8 0, .int .u16 (wordP (x 10) (x 9)), .int .u16 (wordP (x 12) (x 11)), .bool (x 13 % 2 == 1), .int .i64 (x 14), .bool (x 13 / 2 % 2 == 1), .bool (x 13 / 4 % 2 == 1), .int .u8 0, .int .u8 0, .int .u8 0, .int .u8 0, .int .u8 0, .int .u8 0, .int .u8 0, .int .u8 0] rfl rfl (there_heap G5.out.1 (by show 0 + 22 ≤ 22; decide)) (by kernel_rfl) (by simp [Value.oneCell']) ?_
        have M5 : Hid (Md w rb gb x (w5.setCells gb 0 (#[.int .u8 0, .int .u8 0, .int .u8 0, .int .u8 0, .int .u8 0, .int .u8 0, .int .u8 0, .int .u8 0, .int .u16 (wordP (x 10) (x 9)), .int .u16 (wordP (x 12) (x 11)), .bool (x 13 % 2 == 1), .int .i64 (x 14), .bool (x 13 / 2 % 2 == 1), .bool (x 13 / 4 % 2 == 1), .int .u8 0, .int .u8 0, .int .u8 0, .int .u8 0, .int .u8 0, .int .u8 0, .int .u8 0, .int .u8 0]).toList)) := ⟨Fr.up H5.out.1 G5.out.2.1 (fr_setCells gb _ 0 _), ((fr_setCells gb _ 0 _).block rb (heap_at H5.out.2) (by have := G5.out.2.2; omega)).trans H5.out.2, setCells_full G5.out.1 rfl, G5.out.2.1, G5.out.2.2⟩
        dsimp only at M5 ⊢
        generalize World.setCells w5 gb 0 _ = wz at M5 ⊢
        refine hK.out _ _ (HS.out _ M5.out.up) (fun _ => ?_)
        clear hK KK
        try simp only [Act.put, List.setIfInBounds_toArray, List.set_cons_zero, List.set_cons_succ]
        refine wpAnyH_done (by kernel_rfl) ?_ _
        go_wp2_with fail
        refine wp_still2 5 (by kernel_rfl) (by decide +kernel) ?_
        intro wy hwy
        have MY : Hid (Md w rb gb x wy) := by rw [hwy]; exact ⟨M5.out.up.drew, M5.out.r, M5.out.g, M5.out.lo, M5.out.ne⟩
        clear hwy M5
        simp only [List.take_succ_cons, List.take_zero, List.drop_succ_cons, List.drop_zero]
        repeat (go_big_quiet_step (fail))
        refine wpQuiet_nil ?_
        by_cases h15 : x 15 = 2
        · have hq : (x 15 == 2) = true := by rw [h15]; rfl
          go_wp2_with (first | (refine wpList_copyG rfl (.tmp 31) (.tmp 33) rfl gb 0 8 8 ⟨ab, ao + 1, none⟩ 21 (cap - 1) rfl rfl 22 8 #[.int .u8 0, .int .u8 0, .int .u8 0, .int .u8 0, .int .u8 0, .int .u8 0, .int .u8 0, .int .u8 0, .int .u16 (wordP (x 10) (x 9)), .int .u16 (wordP (x 12) (x 11)), .bool (x 13 % 2 == 1), .int .i64 (x 14), .bool (x 13 / 2 % 2 == 1), .bool (x 13 / 4 % 2 == 1), .int .u8 0, .int .u8 0, .int .u8 0, .int .u8 0, .int .u8 0, .int .u8 0, .int .u8 0, .int .u8 0] 70 MY.out.g rfl (fun k => x (k + 1)) rfl (fun k hk => by rw [Addr.add_lit, show ao + 1 + k = ao + (k + 1) by omega]; exact (HD.out _ MY.out.up).cell (k + 1) (by omega)) (by decide) ?_; intro wv cs e1 e2 e3 f3; have MV : Hid (Mc w rb gb x wv) := Mc.of MY.out e1 e2 e3 f3; clear e1 e2 e3 f3 MY; have v15 := (HD.out _ MV.out.up).cell 15 (by omega); have vz := MV.out.fz 14; have v14 := MV.out.c14; have HZ : Hid _ := MV.out.set14) | (refine wpList_load_mid rfl 70 _ rfl gb 0 rfl [.int .u8 (x 1), .int .u8 (x 2), .int .u8 (x 3), .int .u8 (x 4), .int .u8 (x 5), .int .u8 (x 6), .int .u8 (x 7), .int .u8 (x 8), .int .u16 (wordP (x 10) (x 9)), .int .u16 (wordP (x 12) (x 11)), .bool (x 13 % 2 == 1), .int .i64 (x 14), .bool (x 13 / 2 % 2 == 1), .bool (x 13 / 4 % 2 == 1), .int .u8 2, .int .u8 0, .int .u8 0, .int .u8 0, .int .u8 0, .int .u8 0, .int .u8 0, .int .u8 0] _ (range_full HZ.out.1) Tryz.underlying70 rfl (by kernel_rfl) ?_) | (refine wpList_store_rowTo rfl 70 _ _ rfl rfl rb ([.int .u8 (x 1), .int .u8 (x 2), .int .u8 (x 3), .int .u8 (x 4), .int .u8 (x 5), .int .u8 (x 6), .int .u8 (x 7), .int .u8 (x 8), .int .u16 (wordP (x 10) (x 9)), .int .u16 (wordP (x 12) (x 11)), .bool (x 13 % 2 == 1), .int .i64 (x 14), .bool (x 13 / 2 % 2 == 1), .bool (x 13 / 4 % 2 == 1), .int .u8 2, .int .u8 0, .int .u8 0, .int .u8 0, .int .u8 0, .int .u8 0, .int .u8 0, .int .u8 0]).toArray rfl rfl 70 z22 HZ.out.2.1 (by kernel_rfl) rfl (by simp [Value.oneCell']) ?_))
          refine bodyPost_ret (v := .agg _) (results_row Tryz.results35 _ _ _ 70 _ (0, 0) _ rfl (setRow_heap _ _ _ _ _ _ HZ.out.2.1) Tryz.underlying70 rfl (by kernel_rfl)) rfl ?_
          exact ⟨by rw [bgn_cells HB.out 2 (by rw [HB.out.phase, if_pos h15])], HZ.out.2.2.setRow (Nat.le_of_eq HRB.out) _⟩
        · have hq : (x 15 == 2) = false := beq_eq_false_iff_ne.2 h15
          go_wp2_with (first | (refine wpList_copyG rfl (.tmp 31) (.tmp 33) rfl gb 0 8 8 ⟨ab, ao + 1, none⟩ 21 (cap - 1) rfl rfl 22 8 #[.int .u8 0, .int .u8 0, .int .u8 0, .int .u8 0, .int .u8 0, .int .u8 0, .int .u8 0, .int .u8 0, .int .u16 (wordP (x 10) (x 9)), .int .u16 (wordP (x 12) (x 11)), .bool (x 13 % 2 == 1), .int .i64 (x 14), .bool (x 13 / 2 % 2 == 1), .bool (x 13 / 4 % 2 == 1), .int .u8 0, .int .u8 0, .int .u8 0, .int .u8 0, .int .u8 0, .int .u8 0, .int .u8 0, .int .u8 0] 70 MY.out.g rfl (fun k => x (k + 1)) rfl (fun k hk => by rw [Addr.add_lit, show ao + 1 + k = ao + (k + 1) by omega]; exact (HD.out _ MY.out.up).cell (k + 1) (by omega)) (by decide) ?_; intro wv cs e1 e2 e3 f3; have MV : Hid (Mc w rb gb x wv) := Mc.of MY.out e1 e2 e3 f3; clear e1 e2 e3 f3 MY; have v15 := (HD.out _ MV.out.up).cell 15 (by omega); have vz := MV.out.fz 14; have v14 := MV.out.c14; have HZ : Hid _ := And.intro MV.out.g (And.intro MV.out.r MV.out.up)) | (refine wpList_load_mid rfl 70 _ rfl gb 0 rfl [.int .u8 (x 1), .int .u8 (x 2), .int .u8 (x 3), .int .u8 (x 4), .int .u8 (x 5), .int .u8 (x 6), .int .u8 (x 7), .int .u8 (x 8), .int .u16 (wordP (x 10) (x 9)), .int .u16 (wordP (x 12) (x 11)), .bool (x 13 % 2 == 1), .int .i64 (x 14), .bool (x 13 / 2 % 2 == 1), .bool (x 13 / 4 % 2 == 1), .int .u8 0, .int .u8 0, .int .u8 0, .int .u8 0, .int .u8 0, .int .u8 0, .int .u8 0, .int .u8 0] _ (range_full HZ.out.1) Tryz.underlying70 rfl (by kernel_rfl) ?_) | (refine wpList_store_rowTo rfl 70 _ _ rfl rfl rb ([.int .u8 (x 1), .int .u8 (x 2), .int .u8 (x 3), .int .u8 (x 4), .int .u8 (x 5), .int .u8 (x 6), .int .u8 (x 7), .int .u8 (x 8), .int .u16 (wordP (x 10) (x 9)), .int .u16 (wordP (x 12) (x 11)), .bool (x 13 % 2 == 1), .int .i64 (x 14), .bool (x 13 / 2 % 2 == 1), .bool (x 13 / 4 % 2 == 1), .int .u8 0, .int .u8 0, .int .u8 0, .int .u8 0, .int .u8 0, .int .u8 0, .int .u8 0, .int .u8 0]).toArray rfl rfl 70 z22 HZ.out.2.1 (by kernel_rfl) rfl (by simp [Value.oneCell']) ?_))
          refine bodyPost_ret (v := .agg _) (results_row Tryz.results35 _ _ _ 70 _ (0, 0) _ rfl (setRow_heap _ _ _ _ _ _ HZ.out.2.1) Tryz.underlying70 rfl (by kernel_rfl)) rfl ?_
          exact ⟨by rw [bgn_cells HB.out 0 (by rw [HB.out.phase, if_neg h15])], HZ.out.2.2.setRow (Nat.le_of_eq HRB.out) _⟩
end Go.Proofs.YtlgfpddiebdmaaaGreatDoor
