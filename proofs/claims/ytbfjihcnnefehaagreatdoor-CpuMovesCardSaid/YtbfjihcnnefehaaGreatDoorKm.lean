/- Pieces of code; CpuMoves, plainly; what its loop keeps. -/
import Derived.Test.YtbfjihcnnefehaaGreatDoorLq
import Derived.Laws.OwnMore
import Derived.OwnWalk
import Derived.Below
namespace Go.Proofs.YtbfjihcnnefehaaGreatDoor
open Go.RowKit
set_option linter.unusedVariables false
theorem mem1_code (bs : List Int) (hl : bs.length ≤ 1000) (k : Nat) (hk : k < bs.length) : mem1 512 bs (512 + k) = bs.getD k 0 := by
  have := lay_at (fun _ => 0) 512 bs bs.length (by omega) k hk
  rw [← this, ladr_in 512 k (by decide) (by decide)]
  show mem1 512 bs (512 + k) = mem1 512 bs _
  congr 1
  omega
theorem mem1_off (bs : List Int) (hl : bs.length ≤ 1000) (j : Nat) (hj : j < 512 ∨ 2000 < j) : mem1 512 bs j = 0 := by
  refine lay_off (fun _ => 0) 512 bs j bs.length (fun k hk => ?_)
  rw [ladr_in 512 k (by decide) (by decide)]
  omega
theorem mem2_code (bs : List Int) (hl : bs.length ≤ 1000) (a v : Int) (h0 : 2000 < a) (h1 : a ≤ 65535) (k : Nat) (hk : k < bs.length) : mem2 512 bs a [v] (512 + k) = bs.getD k 0 := by
  unfold mem2
  rw [lay_off _ _ _ _ _ (fun j hj => by
    have : j = 0 := by simp at hj; omega
    subst this
    rw [ladr_in a 0 (by omega) (by omega)]
    omega)]
  exact mem1_code bs hl k hk
theorem mem2_at (bs : List Int) (a v : Int) (h0 : 2000 < a) (h1 : a ≤ 65535) : mem2 512 bs a [v] a.toNat = v := by
  have := lay_at (mem1 512 bs) a [v] 1 (by decide) 0 (by decide)
  rw [ladr_in a 0 (by omega) (by omega)] at this
  rw [show ((a + ((0 : Nat) : Int)) % 65536).toNat = a.toNat by omega] at this
  exact this
theorem word_at (h l : Int) (h0 : 0 ≤ h) (h1 : h ≤ 255) (l0 : 0 ≤ l) (l1 : l ≤ 255) : wordP h l = 256 * h + l := by unfold wordP; omega
theorem adr512 (k : Nat) (hk : k < 60000) : adr 512 k = 512 + 1 + k := by unfold adr; omega
/-- one piece, its bytes wherever they lie -/
theorem pcsA (W : World) (gp gb cp : Nat) (a : Int) (bs : List Int) (ha : I64 a) (hb : ∀ x ∈ bs, 0 ≤ x ∧ x ≤ 255) (hl : bs.length ≤ 1000) (hgp : gp < W.heap.size) (hgb : gb < W.heap.size) (pa : Option Addr) (hpa : 0 < bs.length → pa = some ⟨gb, 0, none⟩)
    (c0 : W.cell? ⟨gp, 0, none⟩ = some (.int .i64 a)) (c1 : W.cell? ⟨gp, 1, none⟩ = some (.slice pa bs.length cp)) (hc : ∀ k (hk : k < bs.length), W.cell? ⟨gb, k, none⟩ = some (.int .u8 bs[k])) :
    Pcs W gp [⟨a, bs⟩] := by
  refine ⟨hgp, fun i h => ?_⟩
  have hi : i = 0 := by simp at h; omega
  subst hi
  exact ⟨ha, gb, hgb, c0, ⟨pa, cp, c1, hpa⟩, hl, fun k hk => ⟨hc k hk, hb _ (List.getElem_mem hk)⟩⟩
/-- two, each wherever it lies -/
theorem pcsAB (W : World) (gp gb gc : Nat) (a a2 : Int) (bs bs2 : List Int) (ha : I64 a) (ha2 : I64 a2) (hb : ∀ x ∈ bs, 0 ≤ x ∧ x ≤ 255) (hb2 : ∀ x ∈ bs2, 0 ≤ x ∧ x ≤ 255) (hl : bs.length ≤ 1000) (hl2 : bs2.length ≤ 1000) (hgp : gp < W.heap.size) (hgb : gb < W.heap.size) (hgc : gc < W.heap.size)
    (c0 : W.cell? ⟨gp, 0, none⟩ = some (.int .i64 a)) (c1 : W.cell? ⟨gp, 1, none⟩ = some (.slice (some ⟨gb, 0, none⟩) bs.length bs.length)) (c2 : W.cell? ⟨gp, 2, none⟩ = some (.int .i64 a2)) (c3 : W.cell? ⟨gp, 3, none⟩ = some (.slice (some ⟨gc, 0, none⟩) bs2.length bs2.length))
    (hc : ∀ k (hk : k < bs.length), W.cell? ⟨gb, k, none⟩ = some (.int .u8 bs[k])) (hc2 : ∀ k (hk : k < bs2.length), W.cell? ⟨gc, k, none⟩ = some (.int .u8 bs2[k])) :
    Pcs W gp [⟨a, bs⟩, ⟨a2, bs2⟩] := by
  refine ⟨hgp, fun i h => ?_⟩
  have hi : i = 0 ∨ i = 1 := by simp at h; omega
  rcases hi with rfl | rfl
  · exact ⟨ha, gb, hgb, c0, ⟨_, _, c1, fun _ => rfl⟩, hl, fun k hk => ⟨hc k hk, hb _ (List.getElem_mem hk)⟩⟩
  · exact ⟨ha2, gc, hgc, c2, ⟨_, _, c3, fun _ => rfl⟩, hl2, fun k hk => ⟨hc2 k hk, hb2 _ (List.getElem_mem hk)⟩⟩
end Go.Proofs.YtbfjihcnnefehaaGreatDoor
namespace Go.Proofs.YtbfjihcnnefehaaGreatDoor
open Go.RowKit
set_option linter.unusedVariables false
/-- which moves are made -/
def mvT (z : Int) : Nat := (pickI z 8).toNat
def mvS (z : Int) : Nat := (pickI (z.tdiv 8) 8).toNat
def mvNo (z : Int) : Bool := mvT z == 4 || mvT z == 5 || (mvT z == 6 && mvS z == 6)
def mvL (mv : Nat → Int) : Nat → List (Nat × Nat)
  | 0 => []
  | i + 1 => if mvNo (mv i) then mvL mv i else mvL mv i ++ [(mvT (mv i), mvS (mv i))]
def mvG (ts : Nat × Nat) : Prop := ts.1 < 8 ∧ ts.2 < 8 ∧ ts.1 ≠ 4 ∧ ts.1 ≠ 5 ∧ ¬ (ts.1 = 6 ∧ ts.2 = 6)
theorem mvT_lt (z : Int) : mvT z < 8 := by unfold mvT; have := pickI_lo z 8 (by decide); have := pickI_hi z 8 (by decide); omega
theorem mvS_lt (z : Int) : mvS z < 8 := by unfold mvS; have := pickI_lo (z.tdiv 8) 8 (by decide); have := pickI_hi (z.tdiv 8) 8 (by decide); omega
theorem mvT_is (z : Int) : pickI z 8 = (mvT z : Int) := by unfold mvT; have := pickI_lo z 8 (by decide); omega
theorem mvS_is (z : Int) : pickI (z.tdiv 8) 8 = (mvS z : Int) := by unfold mvS; have := pickI_lo (z.tdiv 8) 8 (by decide); omega
theorem mvL_good (mv : Nat → Int) : ∀ i, ∀ ts ∈ mvL mv i, mvG ts := by
  intro i
  induction i with
  | zero => intro ts h; cases h
  | succ i ih =>
    intro ts h
    unfold mvL at h
    split at h
    · exact ih ts h
    · rename_i hn
      rcases List.mem_append.1 h with h | h
      · exact ih ts h
      · simp at h
        subst h
        have h1 := mvT_lt (mv i)
        have h2 := mvS_lt (mv i)
        simp [mvNo] at hn
        exact ⟨h1, h2, hn.1.1, hn.1.2, fun e => hn.2 e.1 e.2⟩
theorem mvL_len (mv : Nat → Int) : ∀ i, (mvL mv i).length ≤ i := by
  intro i
  induction i with
  | zero => exact Nat.le_refl _
  | succ i ih =>
    unfold mvL
    split
    · omega
    · simp; omega
/-- the places behind some moves -/
def plP (p : Nat → Int) : List (Nat × Nat) → Nat → Int
  | [] => p
  | ts :: l => plP (upd p ts.1 (p ts.2)) l
theorem plP_app (l : List (Nat × Nat)) : ∀ (p : Nat → Int) (ts : Nat × Nat), plP p (l ++ [ts]) = upd (plP p l) ts.1 (plP p l ts.2) := by
  induction l with
  | nil => intro p ts; rfl
  | cons x l ih => intro p ts; exact ih _ ts
def mvC (l : List (Nat × Nat)) : List Int := l.map fun ts => ldOp ts.1 ts.2
theorem plP_keep (l : List (Nat × Nat)) (k : Nat) (hk : ∀ ts ∈ l, ts.1 ≠ k) : ∀ p : Nat → Int, plP p l k = p k := by
  induction l with
  | nil => intro p; rfl
  | cons x l ih =>
    intro p
    show plP (upd p x.1 (p x.2)) l k = p k
    rw [ih (fun ts h => hk ts (List.mem_cons_of_mem _ h))]
    unfold upd
    rw [if_neg (fun e => hk x (List.mem_cons_self ..) e.symm)]
theorem plP_byt (l : List (Nat × Nat)) : ∀ p : Nat → Int, Byt p → Byt (plP p l) := by
  induction l with
  | nil => intro p h; exact h
  | cons x l ih => intro p h; exact ih _ (upd_ok h _ _ (h _))
/-- registers out of places -/
def rrP (F : Int) (p : Nat → Int) : Nat → Int := fun k => if k = 6 then F else p k
def mvSt (F : Int) (p0 : Nat → Int) (f0 : Nat → Int) (HL : Nat) (sp : Int) (ime : Bool) (l : List (Nat × Nat)) (i : Nat) : Pm :=
  (bd (rrP F (plP p0 (l.take i))) sp (512 + i) ime, upd f0 HL (plP p0 (l.take i) 6))
def mvK (l : List (Nat × Nat)) (i : Nat) : Nat := if (l.getD i (0, 0)).1 = 6 ∨ (l.getD i (0, 0)).2 = 6 then 2 else 1
theorem mvK7 (l : List (Nat × Nat)) (i : Nat) : mvK l i ≤ 7 := by unfold mvK; split <;> decide
theorem upd_upd (f : Nat → Int) (a : Nat) (x y : Int) : upd (upd f a x) a y = upd f a y := by
  funext k
  unfold upd
  split <;> rfl
theorem rr_upd6 (F : Int) (p : Nat → Int) (x : Int) : rrP F (upd p 6 x) = rrP F p := by
  funext k
  unfold rrP upd
  split <;> rfl
theorem rr_upd (F : Int) (p : Nat → Int) (t : Nat) (ht : t ≠ 6) (x : Int) : rrP F (upd p t x) = upd (rrP F p) t x := by
  funext k
  unfold rrP upd
  by_cases h6 : k = 6
  · subst h6
    rw [if_pos rfl, if_neg (fun e => ht e.symm)]
    rfl
  · rw [if_neg h6]
    show _ = if k = t then x else (if k = 6 then F else p k)
    rw [if_neg h6]
theorem pc1_in (i : Nat) (h : i < 1000) : pc1 (512 + i) = 512 + ((i + 1 : Nat) : Int) := by unfold pc1; omega
theorem mv_ins {F : Int} {p0 f0 : Nat → Int} {L sp : Int} {ime : Bool} (l : List (Nat × Nat)) (hg : ∀ ts ∈ l, mvG ts) (hl : l.length ≤ 900) (l0 : 0 ≤ L) (l1 : L ≤ 255) (h4 : p0 4 = 193) (h5 : p0 5 = L) (hb : Byt p0) (hf : ∀ k, k < l.length → f0 (512 + k) = (mvC l).getD k 0) :
    ∀ i, i < l.length → Ins (mvSt F p0 f0 (49408 + L).toNat sp ime l i) (mvK l i) (mvSt F p0 f0 (49408 + L).toNat sp ime l (i + 1)) := by
  intro i hi
  have hgi := hg _ (List.getElem_mem hi)
  have hd : l.getD i (0, 0) = l[i] := by simp [List.getD, hi]
  have ht : l.take (i + 1) = l.take i ++ [l[i]] := List.take_succ_eq_append_getElem hi
  have e4 : plP p0 (l.take i) 4 = 193 := by rw [plP_keep _ 4 (fun ts h => (hg ts (List.mem_of_mem_take h)).2.2.1)]; exact h4
  have e5 : plP p0 (l.take i) 5 = L := by rw [plP_keep _ 5 (fun ts h => (hg ts (List.mem_of_mem_take h)).2.2.2.1)]; exact h5
  have hB := plP_byt (l.take i) p0 hb
  have hc : f0 (512 + i) = ldOp l[i].1 l[i].2 := by
    rw [hf i hi]
    simp [mvC, List.getD, hi]
  unfold mvSt mvK
  rw [hd, ht, plP_app]
  generalize plP p0 (l.take i) = p at e4 e5 hB
  generalize l[i] = ts at hgi hc
  obtain ⟨t, s⟩ := ts
  simp only at hgi hc ⊢
  obtain ⟨g1, g2, g3, g4, g5⟩ := hgi
  simp only at g1 g2 g3 g4 g5
  have hw : (wordP (rrP F p 4) (rrP F p 5)).toNat = (49408 + L).toNat := by
    show (wordP (p 4) (p 5)).toNat = _
    rw [e4, e5]
    unfold wordP
    congr 1
  have hpc : ((512 : Int) + (i : Int)).toNat = 512 + i := by omega
  have hfp : upd f0 (49408 + L).toNat (p 6) ((512 : Int) + (i : Int)).toNat = ldOp t s := by
    rw [hpc]
    unfold upd
    rw [if_neg (by omega), hc]
  have hsi : i < 1000 := by omega
  by_cases t6 : t = 6
  · subst t6
    have s6 : s ≠ 6 := fun e => g5 ⟨rfl, e⟩
    rw [if_pos (Or.inl rfl)]
    have := ld_to (r := rrP F p) (sp := sp) (ime := ime) s g2 s6 hfp
    rw [hw, upd_upd, pc1_in i hsi, show rrP F p s = p s from if_neg s6] at this
    rw [rr_upd6, show upd p 6 (p s) 6 = p s from if_pos rfl]
    exact this
  · by_cases s6 : s = 6
    · subst s6
      rw [if_pos (Or.inr rfl)]
      have := ld_from (r := rrP F p) (sp := sp) (ime := ime) (v := p 6) t g1 t6 hfp (by rw [hw]; exact if_pos rfl)
      rw [pc1_in i hsi, show p 6 % 256 = p 6 by have := hB 6; omega] at this
      rw [rr_upd F p t t6, show upd p t (p 6) 6 = p 6 from if_neg (fun e => t6 e.symm)]
      exact this
    · rw [if_neg (fun e => e.elim t6 s6)]
      have := ld_reg (r := rrP F p) (sp := sp) (ime := ime) t s g1 g2 t6 s6 hfp
      rw [pc1_in i hsi, show rrP F p s = p s from if_neg s6] at this
      rw [rr_upd F p t t6, show upd p t (p s) 6 = p 6 from if_neg (fun e => t6 e.symm)]
      exact this
theorem mvC_byt (l : List (Nat × Nat)) (hg : ∀ ts ∈ l, mvG ts) : ∀ x ∈ mvC l, (0 : Int) ≤ x ∧ x ≤ 255 := by
  intro x hx
  obtain ⟨ts, h, rfl⟩ := List.mem_map.1 hx
  have := hg ts h
  unfold mvG at this
  unfold ldOp
  omega
/-- the places at the beginning -/
def plG (G : Rg) : Nat → Int := fun k => if k = 6 then 0 else rgF G k
theorem rr_plG (G : Rg) : rrP G.f (plG G) = rgF G := by
  funext k
  unfold rrP plG
  by_cases h : k = 6
  · subst h; rfl
  · rw [if_neg h, if_neg h]
theorem plG_byt {G : Rg} (o : G.Ok) : Byt (plG G) := fun k => by
  unfold plG
  split
  · exact ⟨by decide, by decide⟩
  · unfold rgF
    repeat' split
    all_goals first | exact o.b | exact o.c | exact o.d | exact o.e | exact o.h | exact o.l | exact o.f | exact o.a | exact ⟨by decide, by decide⟩
end Go.Proofs.YtbfjihcnnefehaaGreatDoor
namespace Go.Proofs.YtbfjihcnnefehaaGreatDoor
open Go.RowKit
set_option linter.unusedVariables false
structure MvAt (W4 : World) (pb : Nat) (C : Value) (l : List (Nat × Nat)) (p0 : Nat → Int) (W : World) : Prop where
  own : W.ownsRow (pb + 1) 5 1 C l.length ((mvC l).map (Value.int .u8))
  pl : ∀ k, k < 8 → W.cell? ⟨pb, k, none⟩ = some (.int .i64 (plP p0 l k)) ∧ W.frozen? ⟨pb, k, none⟩ = false
  fr : Fr pb W4 W
theorem MvAt.drew {W4 W : World} {pb : Nat} {C : Value} {l : List (Nat × Nat)} {p0 : Nat → Int} (h : MvAt W4 pb C l p0 W) : MvAt W4 pb C l p0 W.drew :=
  ⟨h.own, h.pl, ⟨h.fr.os, h.fr.output, h.fr.size, h.fr.block⟩⟩
/-- behind the append -/
structure MvMid (W4 : World) (pb : Nat) (C : Value) (l : List (Nat × Nat)) (ts : Nat × Nat) (p0 : Nat → Int) (W : World) : Prop where
  own : W.ownsRow (pb + 1) 5 1 C (l ++ [ts]).length ((mvC (l ++ [ts])).map (Value.int .u8))
  pl : ∀ k, k < 8 → W.cell? ⟨pb, k, none⟩ = some (.int .i64 (plP p0 l k)) ∧ W.frozen? ⟨pb, k, none⟩ = false
  fr : Fr pb W4 W
theorem MvMid.drew {W4 W : World} {pb : Nat} {C : Value} {l : List (Nat × Nat)} {ts : Nat × Nat} {p0 : Nat → Int} (h : MvMid W4 pb C l ts p0 W) : MvMid W4 pb C l ts p0 W.drew :=
  ⟨h.own, h.pl, ⟨h.fr.os, h.fr.output, h.fr.size, h.fr.block⟩⟩
theorem MvAt.app {W4 wr w' : World} {pb : Nat} {C C' : Value} {l : List (Nat × Nat)} {p0 : Nat → Int} (h : MvAt W4 pb C l p0 wr) (hW : W4.heap.size = pb + 1) (ts : Nat × Nat) (o : Obj) (hg : (wr.alloc o).grownBy w' C.ownBlock)
    (hown : w'.ownsRow (pb + 1) 5 1 C' (l.length + 1) ((mvC l).map (Value.int .u8) ++ [.int .u8 (ldOp ts.1 ts.2)])) : MvMid W4 pb C' l ts p0 w' := by
  have hs := h.fr.size
  have hu : Up wr (wr.alloc o) := (Up.refl wr).alloc o
  have hne : ∀ k, k < pb + 1 → some k ≠ C.ownBlock := fun k hk e => by
    have := (h.own.lt k e.symm).1
    omega
  have hb : ∀ k, k < pb + 1 → w'.heap[k]? = wr.heap[k]? := fun k hk =>
    (hg.block k (by simp; omega) (hne k hk)).trans (hu.block k (by omega))
  refine ⟨?_, fun k hk => ?_, ⟨hg.os.trans h.fr.os, hg.output.trans h.fr.output, ?_, fun k hk hkb => (hb k (by omega)).trans (h.fr.block k hk hkb)⟩⟩
  · rw [show (l ++ [ts]).length = l.length + 1 by simp, show (mvC (l ++ [ts])).map (Value.int .u8) = (mvC l).map (Value.int .u8) ++ [.int .u8 (ldOp ts.1 ts.2)] by simp [mvC]]
    exact hown
  · have e1 : w'.cell? ⟨pb, k, none⟩ = wr.cell? ⟨pb, k, none⟩ := World.cell?_of_block (hb pb (by omega))
    have e2 : w'.frozen? ⟨pb, k, none⟩ = wr.frozen? ⟨pb, k, none⟩ := World.frozen?_of_block (hb pb (by omega))
    rw [e1, e2]
    exact h.pl k hk
  · have := hg.size
    simp at this
    omega
theorem MvMid.put {W4 W : World} {pb : Nat} {C : Value} {l : List (Nat × Nat)} {t s : Nat} {p0 : Nat → Int} (h : MvMid W4 pb C l (t, s) p0 W) (ht : t < 8) : MvAt W4 pb C (l ++ [(t, s)]) p0 (W.setCell ⟨pb, t, none⟩ (.int .i64 (plP p0 l s))) := by
  refine ⟨ownsRow_setCell_below h.own (by show pb < pb + 1; omega) _, fun k hk => ?_, h.fr.setCell⟩
  refine ⟨?_, by rw [World.frozen?_setCell]; exact (h.pl k hk).2⟩
  rw [plP_app]
  unfold upd
  by_cases e : k = t
  · subst e
    rw [if_pos rfl]
    exact World.cell?_setCell_same (h := (h.pl k hk).1) ..
  · rw [if_neg e, show (W.setCell ⟨pb, t, none⟩ (.int .i64 (plP p0 l s))).cell? ⟨pb, k, none⟩ = W.cell? ⟨pb, k, none⟩ from World.cell?_setCell_other (h := by intro h; injection h with h1 h2; omega) ..]
    exact (h.pl k hk).1
theorem mvL_no (mv : Nat → Int) (i : Nat) (h : mvNo (mv i) = true) : mvL mv (i + 1) = mvL mv i := by
  show (if mvNo (mv i) then _ else _) = _
  rw [if_pos h]
theorem mvL_yes (mv : Nat → Int) (i : Nat) (h : mvNo (mv i) = false) : mvL mv (i + 1) = mvL mv i ++ [(mvT (mv i), mvS (mv i))] := by
  show (if mvNo (mv i) then _ else _) = _
  rw [if_neg (by rw [h]; decide)]
/-- the code as it lies -/
theorem own_code {W : World} {pb : Nat} {C : Value} {l : List (Nat × Nat)} (h : W.ownsRow (pb + 1) 5 1 C l.length ((mvC l).map (Value.int .u8))) (h0 : 0 < W.heap.size) :
    ∃ gb pa cp, C = .slice pa l.length cp ∧ gb < W.heap.size ∧ (0 < l.length → pa = some ⟨gb, 0, none⟩) ∧ ∀ k (hk : k < (mvC l).length), W.cell? ⟨gb, k, none⟩ = some (.int .u8 (mvC l)[k]) := by
  have hl : (mvC l).length = l.length := by simp [mvC]
  have h' := h
  rcases h.2 with ⟨rfl, hn⟩ | ⟨g, cap, cur, rfl, _, hg, hc, _, _, _⟩
  · refine ⟨0, none, 0, by rw [hn], h0, fun hlt => by omega, fun k hk => by omega⟩
  · refine ⟨g, _, cap, rfl, (Array.getElem?_eq_some_iff.1 hg).1, fun _ => rfl, fun k hk => ?_⟩
    rw [h'.cellAt k (by omega)]
    simp [hk]
theorem fz_new (w : World) (c : Array Value) (ty : TypeId) (k : Nat) : (w.alloc (.cells c ty)).frozen? ⟨w.heap.size, k, none⟩ = false := by
  have := heap_alloc_new w (.cells c ty)
  unfold World.frozen?
  rw [show (w.alloc (.cells c ty)).heap[(⟨w.heap.size, k, none⟩ : Addr).block]? = some (.cells c ty) from this]
  simp
theorem tdiv8 {z : Int} (h : I64 z) : I64 (z.tdiv 8) := by
  unfold I64 at *
  have := Int.tdiv_eq_ediv (a := z) (b := 8)
  rw [this]
  have e : Int.sign 8 = 1 := rfl
  split <;> omega
theorem i64w {z : Int} (h : I64 z) : IntKind.i64.wrap z = z := by
  unfold I64 at h
  simp [IntKind.wrap, IntKind.bits, IntKind.signed]
  omega
end Go.Proofs.YtbfjihcnnefehaaGreatDoor
