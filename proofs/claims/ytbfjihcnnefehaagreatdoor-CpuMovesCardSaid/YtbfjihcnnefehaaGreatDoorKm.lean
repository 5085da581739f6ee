/- CpuMoves, plainly: a row of LD moves bytes as copies among eight places do. -/
import Derived.Test.YtbfjihcnnefehaaGreatDoorKr
namespace Go.Proofs.YtbfjihcnnefehaaGreatDoor
open Go.RowKit
set_option linter.unusedVariables false
/-- which moves are made -/
def mvT (z : Int) : Nat := (pickI z 8).toNat
def mvS (z : Int) : Nat := (pickI (z.tdiv 8) 8).toNat
def mvNo (z : Int) : Bool := mvT z == 4 || mvT z == 5 || (mvT z == 6 && mvS z == 6)
def mvL (mv : Nat → Int) : Nat → List (Nat × Nat)
  | 0 => []
  | i + 1 => if mvNo (mv i) then mvL mv i else mvL mv i ++ [(mvT (mv i), mvS (mv i))]
def mvG (ts : Nat × Nat) : Prop := ts.1 < 8 ∧ ts.2 < 8 ∧ ts.1 ≠ 4 ∧ ts.1 ≠ 5 ∧ ¬ (ts.1 = 6 ∧ ts.2 = 6)
theorem mvT_lt (z : Int) : mvT z < 8 := by unfold mvT; have := pickI_lo z 8 (by decide); have := pickI_hi z 8 (by decide); omega
theorem mvS_lt (z : Int) : mvS z < 8 := by unfold mvS; have := pickI_lo (z.tdiv 8) 8 (by decide); have := pickI_hi (z.tdiv 8) 8 (by decide); omega
theorem mvT_is (z : Int) : pickI z 8 = (mvT z : Int) := by unfold mvT; have := pickI_lo z 8 (by decide); omega
theorem mvS_is (z : Int) : pickI (z.tdiv 8) 8 = (mvS z : Int) := by unfold mvS; have := pickI_lo (z.tdiv 8) 8 (by decide); omega
theorem mvL_good (mv : Nat → Int) : ∀ i, ∀ ts ∈ mvL mv i, mvG ts := by
  intro i
  induction i with
  | zero => intro ts h; cases h
  | succ i ih =>
    intro ts h
    unfold mvL at h
    split at h
    · exact ih ts h
    · rename_i hn
      rcases List.mem_append.1 h with h | h
      · exact ih ts h
      · simp at h
        subst h
        have h1 := mvT_lt (mv i)
        have h2 := mvS_lt (mv i)
        simp [mvNo] at hn
        exact ⟨h1, h2, hn.1.1, hn.1.2, fun e => hn.2 e.1 e.2⟩
theorem mvL_len (mv : Nat → Int) : ∀ i, (mvL mv i).length ≤ i := by
  intro i
  induction i with
  | zero => exact Nat.le_refl _
  | succ i ih =>
    unfold mvL
    split
    · omega
    · simp; omega
/-- the places behind some moves -/
def plP (p : Nat → Int) : List (Nat × Nat) → Nat → Int
  | [] => p
  | ts :: l => plP (upd p ts.1 (p ts.2)) l
theorem plP_app (l : List (Nat × Nat)) : ∀ (p : Nat → Int) (ts : Nat × Nat), plP p (l ++ [ts]) = upd (plP p l) ts.1 (plP p l ts.2) := by
  induction l with
  | nil => intro p ts; rfl
  | cons x l ih => intro p ts; exact ih _ ts
def mvC (l : List (Nat × Nat)) : List Int := l.map fun ts => ldOp ts.1 ts.2
theorem plP_keep (l : List (Nat × Nat)) (k : Nat) (hk : ∀ ts ∈ l, ts.1 ≠ k) : ∀ p : Nat → Int, plP p l k = p k := by
  induction l with
  | nil => intro p; rfl
  | cons x l ih =>
    intro p
    show plP (upd p x.1 (p x.2)) l k = p k
    rw [ih (fun ts h => hk ts (List.mem_cons_of_mem _ h))]
    unfold upd
    rw [if_neg (fun e => hk x (List.mem_cons_self ..) e.symm)]
theorem plP_byt (l : List (Nat × Nat)) : ∀ p : Nat → Int, Byt p → Byt (plP p l) := by
  induction l with
  | nil => intro p h; exact h
  | cons x l ih => intro p h; exact ih _ (upd_ok h _ _ (h _))
/-- registers out of places -/
def rrP (F : Int) (p : Nat → Int) : Nat → Int := fun k => if k = 6 then F else p k
def mvSt (F : Int) (p0 : Nat → Int) (f0 : Nat → Int) (HL : Nat) (sp : Int) (ime : Bool) (l : List (Nat × Nat)) (i : Nat) : Pm :=
  (bd (rrP F (plP p0 (l.take i))) sp (512 + i) ime, upd f0 HL (plP p0 (l.take i) 6))
def mvK (l : List (Nat × Nat)) (i : Nat) : Nat := if (l.getD i (0, 0)).1 = 6 ∨ (l.getD i (0, 0)).2 = 6 then 2 else 1
theorem mvK7 (l : List (Nat × Nat)) (i : Nat) : mvK l i ≤ 7 := by unfold mvK; split <;> decide
theorem upd_upd (f : Nat → Int) (a : Nat) (x y : Int) : upd (upd f a x) a y = upd f a y := by
  funext k
  unfold upd
  split <;> rfl
theorem rr_upd6 (F : Int) (p : Nat → Int) (x : Int) : rrP F (upd p 6 x) = rrP F p := by
  funext k
  unfold rrP upd
  split <;> rfl
theorem rr_upd (F : Int) (p : Nat → Int) (t : Nat) (ht : t ≠ 6) (x : Int) : rrP F (upd p t x) = upd (rrP F p) t x := by
  funext k
  unfold rrP upd
  by_cases h6 : k = 6
  · subst h6
    rw [if_pos rfl, if_neg (fun e => ht e.symm)]
    rfl
  · rw [if_neg h6]
    show _ = if k = t then x else (if k = 6 then F else p k)
    rw [if_neg h6]
theorem pc1_in (i : Nat) (h : i < 1000) : pc1 (512 + i) = 512 + ((i + 1 : Nat) : Int) := by unfold pc1; omega
theorem mv_ins {F : Int} {p0 f0 : Nat → Int} {L sp : Int} {ime : Bool} (l : List (Nat × Nat)) (hg : ∀ ts ∈ l, mvG ts) (hl : l.length ≤ 900) (l0 : 0 ≤ L) (l1 : L ≤ 255) (h4 : p0 4 = 193) (h5 : p0 5 = L) (hb : Byt p0) (hf : ∀ k, k < l.length → f0 (512 + k) = (mvC l).getD k 0) :
    ∀ i, i < l.length → Ins (mvSt F p0 f0 (49408 + L).toNat sp ime l i) (mvK l i) (mvSt F p0 f0 (49408 + L).toNat sp ime l (i + 1)) := by
  intro i hi
  have hgi := hg _ (List.getElem_mem hi)
  have hd : l.getD i (0, 0) = l[i] := by simp [List.getD, hi]
  have ht : l.take (i + 1) = l.take i ++ [l[i]] := List.take_succ_eq_append_getElem hi
  have e4 : plP p0 (l.take i) 4 = 193 := by rw [plP_keep _ 4 (fun ts h => (hg ts (List.mem_of_mem_take h)).2.2.1)]; exact h4
  have e5 : plP p0 (l.take i) 5 = L := by rw [plP_keep _ 5 (fun ts h => (hg ts (List.mem_of_mem_take h)).2.2.2.1)]; exact h5
  have hB := plP_byt (l.take i) p0 hb
  have hc : f0 (512 + i) = ldOp l[i].1 l[i].2 := by
    rw [hf i hi]
    simp [mvC, List.getD, hi]
  unfold mvSt mvK
  rw [hd, ht, plP_app]
  generalize plP p0 (l.take i) = p at e4 e5 hB
  generalize l[i] = ts at hgi hc
  obtain ⟨t, s⟩ := ts
  simp only at hgi hc ⊢
  obtain ⟨g1, g2, g3, g4, g5⟩ := hgi
  simp only at g1 g2 g3 g4 g5
  have hw : (wordP (rrP F p 4) (rrP F p 5)).toNat = (49408 + L).toNat := by
    show (wordP (p 4) (p 5)).toNat = _
    rw [e4, e5]
    unfold wordP
    congr 1
  have hpc : ((512 : Int) + (i : Int)).toNat = 512 + i := by omega
  have hfp : upd f0 (49408 + L).toNat (p 6) ((512 : Int) + (i : Int)).toNat = ldOp t s := by
    rw [hpc]
    unfold upd
    rw [if_neg (by omega), hc]
  have hsi : i < 1000 := by omega
  by_cases t6 : t = 6
  · subst t6
    have s6 : s ≠ 6 := fun e => g5 ⟨rfl, e⟩
    rw [if_pos (Or.inl rfl)]
    have := ld_to (r := rrP F p) (sp := sp) (ime := ime) s g2 s6 hfp
    rw [hw, upd_upd, pc1_in i hsi, show rrP F p s = p s from if_neg s6] at this
    rw [rr_upd6, show upd p 6 (p s) 6 = p s from if_pos rfl]
    exact this
  · by_cases s6 : s = 6
    · subst s6
      rw [if_pos (Or.inr rfl)]
      have := ld_from (r := rrP F p) (sp := sp) (ime := ime) (v := p 6) t g1 t6 hfp (by rw [hw]; exact if_pos rfl)
      rw [pc1_in i hsi, show p 6 % 256 = p 6 by have := hB 6; omega] at this
      rw [rr_upd F p t t6, show upd p t (p 6) 6 = p 6 from if_neg (fun e => t6 e.symm)]
      exact this
    · rw [if_neg (fun e => e.elim t6 s6)]
      have := ld_reg (r := rrP F p) (sp := sp) (ime := ime) t s g1 g2 t6 s6 hfp
      rw [pc1_in i hsi, show rrP F p s = p s from if_neg s6] at this
      rw [rr_upd F p t t6, show upd p t (p s) 6 = p 6 from if_neg (fun e => t6 e.symm)]
      exact this
theorem mvC_byt (l : List (Nat × Nat)) (hg : ∀ ts ∈ l, mvG ts) : ∀ x ∈ mvC l, (0 : Int) ≤ x ∧ x ≤ 255 := by
  intro x hx
  obtain ⟨ts, h, rfl⟩ := List.mem_map.1 hx
  have := hg ts h
  unfold mvG at this
  unfold ldOp
  omega
/-- the places at the beginning -/
def plG (G : Rg) : Nat → Int := fun k => if k = 6 then 0 else rgF G k
theorem rr_plG (G : Rg) : rrP G.f (plG G) = rgF G := by
  funext k
  unfold rrP plG
  by_cases h : k = 6
  · subst h; rfl
  · rw [if_neg h, if_neg h]
theorem plG_byt {G : Rg} (o : G.Ok) : Byt (plG G) := fun k => by
  unfold plG
  split
  · exact ⟨by decide, by decide⟩
  · unfold rgF
    repeat' split
    all_goals first | exact o.b | exact o.c | exact o.d | exact o.e | exact o.h | exact o.l | exact o.f | exact o.a | exact ⟨by decide, by decide⟩
end Go.Proofs.YtbfjihcnnefehaaGreatDoor
