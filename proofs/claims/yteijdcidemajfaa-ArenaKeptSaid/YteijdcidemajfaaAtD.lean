/- Arena: an act, plainly. -/
import Derived.Test.YteijdcidemajfaaAtC
namespace Go.Proofs.Yteijdcidemajfaa
open Go.RowKit
set_option linter.unusedVariables false
variable {K K' O : Nat → Prop} {w w' W : World} {pb : Nat} {P P' : Pl} {lv bv : Value} {ll bl hl : List Loan} {C : Cx}
/-- a loan, but for where its bytes lie -/
def Loan.key (l : Loan) : Nat × Nat × Nat × (Nat → Int) := (l.buf, l.cls, l.size, l.f)
def keys (ls : List Loan) : List (Nat × Nat × Nat × (Nat → Int)) := ls.map Loan.key
/-- .. and but for its number -/
abbrev NB := Nat × Nat × (Nat → Int)
def Loan.nb (l : Loan) : NB := (l.cls, l.size, l.f)
def nbs (ls : List Loan) : List NB := ls.map Loan.nb
theorem keys_len {a b : List Loan} (h : keys a = keys b) : a.length = b.length := by
  have := congrArg List.length h
  unfold keys at this
  simpa using this
theorem keys_at {a b : List Loan} (h : keys a = keys b) {k : Nat} {l : Loan} (hk : a[k]? = some l) : ∃ m, b[k]? = some m ∧ m.key = l.key := by
  have := congrArg (fun x => x[k]?) h
  unfold keys at this
  simp only [List.getElem?_map, hk, Option.map_some] at this
  cases hb : b[k]? with
  | none => rw [hb] at this; cases this
  | some m =>
    rw [hb] at this
    injection this with this
    exact ⟨m, rfl, this.symm⟩
theorem keys_sizes {a b : List Loan} (h : keys a = keys b) : sizes a = sizes b := by
  have : (keys a).map (fun x => x.2.2.1) = (keys b).map (fun x => x.2.2.1) := by rw [h]
  unfold keys at this
  rw [List.map_map, List.map_map] at this
  unfold sizes
  exact congrArg List.sum this
theorem keys_leases {a b : List Loan} (h : keys a = keys b) : leaseCells a = leaseCells b := by
  induction a generalizing b with
  | nil => cases b with
    | nil => rfl
    | cons y t => cases h
  | cons x r ih =>
    cases b with
    | nil => cases h
    | cons y t =>
      unfold keys at h
      simp only [List.map_cons, List.cons.injEq] at h
      obtain ⟨h1, h2⟩ := h
      show x.lease ++ leaseCells r = y.lease ++ leaseCells t
      rw [ih (b := t) h2]
      injection h1 with e1 h1
      injection h1 with e2 h1
      injection h1 with e3 h1
      unfold Loan.lease
      rw [e1, e2, e3]
theorem keys_snoc {a b : List Loan} (h : keys a = keys b) {x y : Loan} (e : x.key = y.key) : keys (a ++ [x]) = keys (b ++ [y]) := by
  unfold keys at h ⊢
  rw [List.map_append, List.map_append, h, List.map_singleton, List.map_singleton, e]
theorem keys_erase {a b : List Loan} (h : keys a = keys b) (k : Nat) : keys (a.eraseIdx k) = keys (b.eraseIdx k) := by
  have e : ∀ (l : List Loan), (l.eraseIdx k).map Loan.key = (l.map Loan.key).eraseIdx k := fun l => by
    rw [List.eraseIdx_eq_take_drop_succ, List.eraseIdx_eq_take_drop_succ]
    simp
  unfold keys at h ⊢
  rw [e, e, h]
theorem keys_stored {a b : List Loan} (h : keys a = keys b) {k at' : Nat} {x y : Loan} {v : Int} (hx : a[k]? = some x) (hy : b[k]? = some y) : keys (a.set k (x.stored at' 1 (fun _ => v))) = keys (b.set k (y.stored at' 1 (fun _ => v))) := by
  obtain ⟨m, hm, he⟩ := keys_at h hx
  rw [hy] at hm
  injection hm with hm
  subst hm
  unfold keys at h ⊢
  rw [List.map_set, List.map_set, h]
  congr 1
  injection he with e1 he
  injection he with e2 he
  injection he with e3 e4
  unfold Loan.stored Loan.key
  simp only [e1, e2, e3, e4]
/-- two classes: of four bytes, and of sixteen -/
def Cs (n : Nat) (P : Pl) : Prop := ∃ F0 F1, P.cls = [⟨4, 0, n, F0⟩, ⟨16, n, n, F1⟩]
/-- the class that a size has, and what a buffer of it has -/
def clsOf (s : Int) : Nat := if 4 < s then 1 else 0
def hasOf (s : Int) : Nat := if 4 < s then 16 else 4
theorem Cs.at' {n : Nat} (h : Cs n P) (c : Nat) (hc : c < 2) : ∃ x, P.cls[c]? = some x ∧ x.size = (if c = 0 then 4 else 16) ∧ x.start = (if c = 0 then 0 else n) ∧ x.many = n := by
  obtain ⟨F0, F1, e⟩ := h
  rw [e]
  match c, hc with
  | 0, _ => exact ⟨_, rfl, rfl, rfl, rfl⟩
  | 1, _ => exact ⟨_, rfl, rfl, rfl, rfl⟩
theorem Cs.class {n : Nat} (h : Cs n P) {s : Int} (h1 : 1 ≤ s) (h2 : s ≤ 16) : P.classFor s = clsOf s ∧ ∃ x, P.cls[clsOf s]? = some x ∧ x.size = hasOf s := by
  obtain ⟨F0, F1, e⟩ := h
  unfold Pl.classFor clsOf hasOf
  rw [e]
  by_cases h4 : 4 < s
  · rw [if_pos h4]
    refine ⟨?_, _, rfl, by rw [if_pos h4]⟩
    rw [List.findIdx_cons, List.findIdx_cons]
    have a : decide (s ≤ ((4 : Nat) : Int)) = false := decide_eq_false (by omega)
    have b : decide (s ≤ ((16 : Nat) : Int)) = true := decide_eq_true (by omega)
    simp only [a, b, cond_false, cond_true]
  · rw [if_neg h4]
    refine ⟨?_, _, rfl, by rw [if_neg h4]⟩
    rw [List.findIdx_cons]
    have a : decide (s ≤ ((4 : Nat) : Int)) = true := decide_eq_true (by omega)
    simp only [a, cond_true]
theorem Cs.setFree {n c : Nat} {x : Cls} (h : Cs n P) (hx : P.cls[c]? = some x) (f : List Nat) : Cs n (P.setFree c x f) := by
  obtain ⟨F0, F1, e⟩ := h
  rw [e] at hx
  unfold Pl.setFree
  match c, hx with
  | 0, hx =>
    simp at hx
    subst hx
    exact ⟨f, F1, by rw [e]; rfl⟩
  | 1, hx =>
    simp at hx
    subst hx
    exact ⟨F0, f, by rw [e]; rfl⟩
  | c + 2, hx => simp at hx
theorem Cs.setArn {n i : Nat} {a : Option Arn} (h : Cs n P) : Cs n (P.setArn i a) := h
theorem Cs.relAll {n : Nat} (h : Cs n P) (ls : List Loan) : Cs n (P.relAll ls) := by
  obtain ⟨F0, F1, e⟩ := h
  unfold Pl.relAll
  exact ⟨_, _, by rw [e]; rfl⟩
/-- Close and Open again: the same number -/
theorem next_closed {i : Nat} {a : Arn} {q : Int} (ha : P.ars[i]? = some (some a)) (ho : ∀ j, j < i → ∃ b, P.ars[j]? = some (some b)) : (P.closed i a).next = i ∧ ((P.closed i a).opened q).ars = P.ars.set i (some ⟨q, []⟩) := by
  have hil := (List.getElem?_eq_some_iff.1 ha).1
  have e : (P.closed i a).next = i := by
    unfold Pl.next Pl.closed Pl.setArn Pl.relAll
    refine findIdx_hit (x := none) ?_ rfl fun j y hj hy => ?_
    · show (P.ars.set i none)[i]? = some none
      rw [List.getElem?_set, if_pos rfl, if_pos hil]
    · have hy : (P.ars.set i none)[j]? = some y := hy
      rw [List.getElem?_set, if_neg (by omega)] at hy
      obtain ⟨b, hb⟩ := ho j hj
      rw [hb] at hy
      injection hy with hy
      rw [← hy]
      rfl
  refine ⟨e, ?_⟩
  show ((P.ars.set i none).set (P.closed i a).next (some ⟨q, []⟩)) = _
  rw [e, List.set_set]
/-- how many are free in a class -/
def Pl.freeN (P : Pl) (c : Nat) : Nat := match P.cls[c]? with
  | some x => x.free.length
  | none => 0
def nbSize (ls : List NB) : Nat := (ls.map (·.2.1)).sum
theorem nbSize_nbs (ls : List Loan) : nbSize (nbs ls) = sizes ls := by
  unfold nbSize nbs sizes
  rw [List.map_map]
  rfl
def nbStored (x : NB) (a : Nat) (v : Int) : NB := (x.1, x.2.1, fun k => if a ≤ k ∧ k < a + 1 then v else x.2.2 k)
theorem nb_stored (l : Loan) (a : Nat) (v : Int) : (l.stored a 1 (fun _ => v)).nb = nbStored l.nb a v := rfl
/-- what an act makes of what is held -/
def actF (kd sz pk at' by' q : Int) (fl : Nat → Nat) (ls : List NB) : List NB :=
  if pickI kd 8 ≤ 1 then
    (if q < (nbSize ls : Int) + (hasOf (1 + pickI sz 16) : Int) then ls else if fl (clsOf (1 + pickI sz 16)) = 0 then ls else ls ++ [((clsOf (1 + pickI sz 16), hasOf (1 + pickI sz 16), (fun _ => (0 : Int))) : NB)])
  else if pickI kd 8 ≤ 3 then
    (match ls[(pickI pk ls.length).toNat]? with
      | some x => ls.set (pickI pk ls.length).toNat (nbStored x (pickI at' x.2.1).toNat (by' % 256))
      | none => ls)
  else if pickI kd 8 = 4 then ls.eraseIdx (pickI pk ls.length).toNat
  else if pickI kd 8 = 5 then []
  else ls
end Go.Proofs.Yteijdcidemajfaa
