/- Sched: the law's own book, all of it. -/
import Derived.Test.YtakciepfckdpfaaScZ
namespace Go.Proofs.Ytakciepfckdpfaa
open Go.RowKit
set_option linter.unusedVariables false
set_option linter.unusedSimpArgs false
variable {w w' W : World} {ρ : Nat → Nat} {r r' φ : Nat}
/-- a list that came out: its block, its numbers -/
def fval (e : Nat × List Int) : Value := .slice (some ⟨e.1, 0, none⟩) e.2.length e.2.length
def ptrs : List (Nat × Nat) → List Value
  | [] => []
  | p :: l => .pointer (some ⟨p.1, 0, none⟩) :: .pointer (some ⟨p.2, 0, none⟩) :: ptrs l
theorem ptrs_len : ∀ l, (ptrs l).length = l.length * 2
  | [] => rfl
  | p :: l => by show (ptrs l).length + 2 = _; rw [ptrs_len l, List.length_cons]; omega
theorem ptrs_app : ∀ l m, ptrs (l ++ m) = ptrs l ++ ptrs m
  | [], m => rfl
  | p :: l, m => by show _ :: _ :: ptrs (l ++ m) = _; rw [ptrs_app l m]; rfl
theorem ptrs_at : ∀ (l : List (Nat × Nat)) (j : Nat) (p : Nat × Nat), l[j]? = some p → (ptrs l)[j * 2]? = some (.pointer (some ⟨p.1, 0, none⟩)) ∧ (ptrs l)[j * 2 + 1]? = some (.pointer (some ⟨p.2, 0, none⟩))
  | [], j, p, h => by simp at h
  | q :: l, 0, p, h => by simp at h; subst h; exact ⟨rfl, rfl⟩
  | q :: l, j + 1, p, h => by
    have := ptrs_at l j p (by simpa using h)
    rw [show (j + 1) * 2 = j * 2 + 1 + 1 by omega]
    exact this
theorem ptrs_one : ∀ l, ∀ v ∈ ptrs l, v.oneCell' = true
  | [], v, h => by cases h
  | p :: l, v, h => by
    rcases List.mem_cons.1 h with rfl | h
    · rfl
    · rcases List.mem_cons.1 h with rfl | h
      · rfl
      · exact ptrs_one l v h
/-- where the book lies -/
structure Pos where
  lV : Value
  fV : Value
  aV : Value
  sV : Value
  mV : Value
structure Bk (φ : Nat) (W : World) (ρ : Nat → Nat) (w : World) (wb : Nat) (P : Pos) (ps : List (Nat × Nat)) (Sx Sy : List Sd) (F : List (Nat × List Int)) (A : List Value) (G : List (List Int)) (Lv : List Value) (Lm : List Int) : Prop where
  up : Up W w
  old : ∀ b, b < W.heap.size → ρ b = 0
  wro : ρ wb = 10
  blk : w.heap[wb]? = some (.cells #[P.lV, P.fV, P.aV, P.sV, P.mV] 51 (0, 0))
  lR : Rw ρ 11 w 77 2 P.lV ps.length (ptrs ps)
  fR : Rw ρ 12 w 35 1 P.fV F.length (F.map fval)
  aR : Rw ρ 13 w 35 1 P.aV A.length A
  sR : Rw ρ 14 w 35 1 P.sV Lv.length Lv
  mR : Rw ρ 15 w 3 1 P.mV Lm.length (nums Lm)
  pX : ∀ (j : Nat) (p : Nat × Nat) (S : Sd), ps[j]? = some p → Sx[j]? = some S → SdAt (Kr ρ (1000 + 2 * j) w) w p.1 S
  pY : ∀ (j : Nat) (p : Nat × Nat) (S : Sd), ps[j]? = some p → Sy[j]? = some S → RfAt (Kr ρ (1001 + 2 * j) w) w p.2 S
  xl : Sx.length = ps.length
  yl : Sy.length = ps.length
  ph : φ = 21 ∨ φ = 22
  fI : ∀ e ∈ F, Rw ρ φ w 3 1 (fval e) e.2.length (nums e.2)
  fd : (F.map Prod.fst).Nodup
  fl : ∀ e ∈ F, e.2.length ≤ 64
  aI : ∀ (i : Nat) (v : Value) (e : List Int), A[i]? = some v → G[i]? = some e → Rw ρ 20 w 3 1 v e.length (nums e)
  sI : ∀ (i : Nat) (v : Value) (m : Int), Lv[i]? = some v → Lm[i]? = some m → ∃ n, n ≤ 70 ∧ Rw ρ 21 w 3 1 v n (nums (List.replicate n m))
variable {wb : Nat} {P : Pos} {ps : List (Nat × Nat)} {Sx Sy : List Sd} {F : List (Nat × List Int)} {A : List Value} {G : List (List Int)} {Lv : List Value} {Lm : List Int}
theorem Bk.wlt (h : Bk φ W ρ w wb P ps Sx Sy F A G Lv Lm) : wb < w.heap.size := heap_at h.blk
/-- nothing but new blocks -/
theorem Bk.upR (h : Bk φ W ρ w wb P ps Sx Sy F A G Lv Lm) (u : Up w w') (hr2 : r < 1000) : Bk φ W (ext ρ w.heap.size r) w' wb P ps Sx Sy F A G Lv Lm :=
  ⟨h.up.trans u, fun b hb => by rw [ext_lt (Nat.lt_of_lt_of_le hb h.up.size)]; exact h.old b hb, by rw [ext_lt h.wlt]; exact h.wro, (u.block _ h.wlt).trans h.blk, h.lR.up u, h.fR.up u, h.aR.up u, h.sR.up u, h.mR.up u,
    fun j p S hp hS => (h.pX j p S hp hS).other (Ch.ofUp (r := 0) u) (by omega) (by omega), fun j p S hp hS => (h.pY j p S hp hS).other (Ch.ofUp (r := 0) u) (by omega) (by omega), h.xl, h.yl, h.ph, fun e he => (h.fI e he).up u, h.fd, h.fl, fun i v e hv he => (h.aI i v e hv he).up u,
    fun i v m hv hm => by obtain ⟨n, h1, h2⟩ := h.sI i v m hv hm; exact ⟨n, h1, h2.up u⟩⟩
/-- a thing's own call -/
theorem Bk.callX {j : Nat} {p : Nat × Nat} {S' : Sd} (h : Bk φ W ρ w wb P ps Sx Sy F A G Lv Lm) (hp : ps[j]? = some p) (f : FK (Kr ρ (1000 + 2 * j) w) w w') (s : SdAt (Kr ρ (1000 + 2 * j) w) w' p.1 S') : Bk φ W (ext ρ w.heap.size (1000 + 2 * j)) w' wb P ps (Sx.set j S') Sy F A G Lv Lm := by
  have c := Ch.ofFK f
  refine ⟨c.up h.up (by omega) h.old, fun b hb => by rw [ext_lt (Nat.lt_of_lt_of_le hb h.up.size)]; exact h.old b hb, by rw [ext_lt h.wlt]; exact h.wro, (c.block _ h.wlt (by rw [h.wro]; omega)).trans h.blk, h.lR.other c (by omega), h.fR.other c (by omega), h.aR.other c (by omega), h.sR.other c (by omega), h.mR.other c (by omega),
    fun i q S hq hS => ?_, fun i q S hq hS => (h.pY i q S hq hS).other c (by omega) (by omega), by rw [List.length_set]; exact h.xl, h.yl, h.ph, fun e he => (h.fI e he).other c (by have := h.ph; omega), h.fd, h.fl, fun i v e hv he => (h.aI i v e hv he).other c (by omega),
    fun i v m hv hm => by obtain ⟨n, h1, h2⟩ := h.sI i v m hv hm; exact ⟨n, h1, h2.other c (by omega)⟩⟩
  rw [List.getElem?_set] at hS
  by_cases e : j = i
  · subst e
    have hj : j < Sx.length := by rw [h.xl]; exact (List.getElem?_eq_some_iff.1 hp).1
    rw [if_pos rfl, if_pos hj] at hS
    injection hS with hS
    subst hS
    rw [hp] at hq
    injection hq with hq
    subst hq
    exact s.self
  · rw [if_neg e] at hS
    exact (h.pX i q S hq hS).other c (by omega) (by omega)
theorem Bk.callY {j : Nat} {p : Nat × Nat} {S' : Sd} (h : Bk φ W ρ w wb P ps Sx Sy F A G Lv Lm) (hp : ps[j]? = some p) (f : FK (Kr ρ (1001 + 2 * j) w) w w') (s : RfAt (Kr ρ (1001 + 2 * j) w) w' p.2 S') : Bk φ W (ext ρ w.heap.size (1001 + 2 * j)) w' wb P ps Sx (Sy.set j S') F A G Lv Lm := by
  have c := Ch.ofFK f
  refine ⟨c.up h.up (by omega) h.old, fun b hb => by rw [ext_lt (Nat.lt_of_lt_of_le hb h.up.size)]; exact h.old b hb, by rw [ext_lt h.wlt]; exact h.wro, (c.block _ h.wlt (by rw [h.wro]; omega)).trans h.blk, h.lR.other c (by omega), h.fR.other c (by omega), h.aR.other c (by omega), h.sR.other c (by omega), h.mR.other c (by omega),
    fun i q S hq hS => (h.pX i q S hq hS).other c (by omega) (by omega), fun i q S hq hS => ?_, h.xl, by rw [List.length_set]; exact h.yl, h.ph, fun e he => (h.fI e he).other c (by have := h.ph; omega), h.fd, h.fl, fun i v e hv he => (h.aI i v e hv he).other c (by omega),
    fun i v m hv hm => by obtain ⟨n, h1, h2⟩ := h.sI i v m hv hm; exact ⟨n, h1, h2.other c (by omega)⟩⟩
  rw [List.getElem?_set] at hS
  by_cases e : j = i
  · subst e
    have hj : j < Sy.length := by rw [h.yl]; exact (List.getElem?_eq_some_iff.1 hp).1
    rw [if_pos rfl, if_pos hj] at hS
    injection hS with hS
    subst hS
    rw [hp] at hq
    injection hq with hq
    subst hq
    exact s.self
  · rw [if_neg e] at hS
    exact (h.pY i q S hq hS).other c (by omega) (by omega)
/-- the book while one of its rows has changed and its own block does not tell it yet -/
structure Bh (φ : Nat) (x : Nat) (W : World) (ρ : Nat → Nat) (w : World) (wb : Nat) (P : Pos) (ps : List (Nat × Nat)) (Sx Sy : List Sd) (F : List (Nat × List Int)) (A : List Value) (G : List (List Int)) (Lv : List Value) (Lm : List Int) : Prop where
  up : Up W w
  old : ∀ b, b < W.heap.size → ρ b = 0
  wro : ρ wb = 10
  blk : w.heap[wb]? = some (.cells #[P.lV, P.fV, P.aV, P.sV, P.mV] 51 (0, 0))
  lR : x ≠ 11 → Rw ρ 11 w 77 2 P.lV ps.length (ptrs ps)
  fR : x ≠ 12 → Rw ρ 12 w 35 1 P.fV F.length (F.map fval)
  aR : x ≠ 13 → Rw ρ 13 w 35 1 P.aV A.length A
  sR : x ≠ 14 → Rw ρ 14 w 35 1 P.sV Lv.length Lv
  mR : x ≠ 15 → Rw ρ 15 w 3 1 P.mV Lm.length (nums Lm)
  pX : ∀ (j : Nat) (p : Nat × Nat) (S : Sd), ps[j]? = some p → Sx[j]? = some S → SdAt (Kr ρ (1000 + 2 * j) w) w p.1 S
  pY : ∀ (j : Nat) (p : Nat × Nat) (S : Sd), ps[j]? = some p → Sy[j]? = some S → RfAt (Kr ρ (1001 + 2 * j) w) w p.2 S
  xl : Sx.length = ps.length
  yl : Sy.length = ps.length
  ph : φ = 21 ∨ φ = 22
  fI : ∀ e ∈ F, Rw ρ φ w 3 1 (fval e) e.2.length (nums e.2)
  fd : (F.map Prod.fst).Nodup
  fl : ∀ e ∈ F, e.2.length ≤ 64
  aI : ∀ (i : Nat) (v : Value) (e : List Int), A[i]? = some v → G[i]? = some e → Rw ρ 20 w 3 1 v e.length (nums e)
  sI : ∀ (i : Nat) (v : Value) (m : Int), Lv[i]? = some v → Lm[i]? = some m → ∃ n, n ≤ 70 ∧ Rw ρ 21 w 3 1 v n (nums (List.replicate n m))
theorem Bk.hole {x : Nat} (h : Bk φ W ρ w wb P ps Sx Sy F A G Lv Lm) (c : Ch ρ x w w') (h1 : 11 ≤ x) (h2 : x ≤ 15) : Bh φ x W (ext ρ w.heap.size x) w' wb P ps Sx Sy F A G Lv Lm :=
  ⟨c.up h.up (by omega) h.old, fun b hb => by rw [ext_lt (Nat.lt_of_lt_of_le hb h.up.size)]; exact h.old b hb, by rw [ext_lt h.wlt]; exact h.wro, (c.block _ h.wlt (by rw [h.wro]; omega)).trans h.blk, fun n => h.lR.other c n.symm, fun n => h.fR.other c n.symm, fun n => h.aR.other c n.symm, fun n => h.sR.other c n.symm, fun n => h.mR.other c n.symm,
    fun i q S hq hS => (h.pX i q S hq hS).other c (by omega) (by omega), fun i q S hq hS => (h.pY i q S hq hS).other c (by omega) (by omega), h.xl, h.yl, h.ph, fun e he => (h.fI e he).other c (by have := h.ph; omega), h.fd, h.fl, fun i v e hv he => (h.aI i v e hv he).other c (by omega),
    fun i v m hv hm => by obtain ⟨n, h1, h2⟩ := h.sI i v m hv hm; exact ⟨n, h1, h2.other c (by omega)⟩⟩
/-- .. and now it does -/
theorem Bh.fill {x o : Nat} {v : Value} {P' : Pos} (h : Bh φ x W ρ w wb P ps Sx Sy F A G Lv Lm) (hb : (#[P.lV, P.fV, P.aV, P.sV, P.mV] : Array Value).setIfInBounds o v = #[P'.lV, P'.fV, P'.aV, P'.sV, P'.mV])
    {ps' : List (Nat × Nat)} {Sx' Sy' : List Sd} {F' : List (Nat × List Int)} {A' : List Value} {G' : List (List Int)} {Lv' : List Value} {Lm' : List Int}
    (lR : Rw ρ 11 w 77 2 P'.lV ps'.length (ptrs ps')) (fR : Rw ρ 12 w 35 1 P'.fV F'.length (F'.map fval)) (aR : Rw ρ 13 w 35 1 P'.aV A'.length A') (sR : Rw ρ 14 w 35 1 P'.sV Lv'.length Lv') (mR : Rw ρ 15 w 3 1 P'.mV Lm'.length (nums Lm'))
    (pX : ∀ (j : Nat) (p : Nat × Nat) (S : Sd), ps'[j]? = some p → Sx'[j]? = some S → SdAt (Kr ρ (1000 + 2 * j) w) w p.1 S) (pY : ∀ (j : Nat) (p : Nat × Nat) (S : Sd), ps'[j]? = some p → Sy'[j]? = some S → RfAt (Kr ρ (1001 + 2 * j) w) w p.2 S) (xl : Sx'.length = ps'.length) (yl : Sy'.length = ps'.length)
    (fI : ∀ e ∈ F', Rw ρ φ w 3 1 (fval e) e.2.length (nums e.2)) (fd : (F'.map Prod.fst).Nodup) (fl : ∀ e ∈ F', e.2.length ≤ 64) (aI : ∀ (i : Nat) (v : Value) (e : List Int), A'[i]? = some v → G'[i]? = some e → Rw ρ 20 w 3 1 v e.length (nums e))
    (sI : ∀ (i : Nat) (v : Value) (m : Int), Lv'[i]? = some v → Lm'[i]? = some m → ∃ n, n ≤ 70 ∧ Rw ρ 21 w 3 1 v n (nums (List.replicate n m))) : Bk φ W (ext ρ w.heap.size 10) (w.setCell ⟨wb, o, none⟩ v) wb P' ps' Sx' Sy' F' A' G' Lv' Lm' ∧ Ch ρ 10 w (w.setCell ⟨wb, o, none⟩ v) := by
  have f : Fr wb w (w.setCell ⟨wb, o, none⟩ v) := (Fr.refl wb w).setCell
  have c : Ch ρ 10 w (w.setCell ⟨wb, o, none⟩ v) := Ch.ofFr f h.wro
  have hw := heap_setCell_same w wb o _ _ v h.blk
  rw [hb] at hw
  exact ⟨⟨c.up h.up (by omega) h.old, fun b hb => by rw [ext_lt (Nat.lt_of_lt_of_le hb h.up.size)]; exact h.old b hb, by rw [ext_lt (heap_at h.blk)]; exact h.wro, hw, lR.other c (by omega), fR.other c (by omega), aR.other c (by omega), sR.other c (by omega), mR.other c (by omega),
    fun i q S hq hS => (pX i q S hq hS).other c (by omega) (by omega), fun i q S hq hS => (pY i q S hq hS).other c (by omega) (by omega), xl, yl, h.ph, fun e he => (fI e he).other c (by have := h.ph; omega), fd, fl, fun i v e hv he => (aI i v e hv he).other c (by omega),
    fun i v m hv hm => by obtain ⟨n, h1, h2⟩ := sI i v m hv hm; exact ⟨n, h1, h2.other c (by omega)⟩⟩, c⟩
theorem Bk.toH {x : Nat} (h : Bk φ W ρ w wb P ps Sx Sy F A G Lv Lm) : Bh φ x W ρ w wb P ps Sx Sy F A G Lv Lm :=
  ⟨h.up, h.old, h.wro, h.blk, fun _ => h.lR, fun _ => h.fR, fun _ => h.aR, fun _ => h.sR, fun _ => h.mR, h.pX, h.pY, h.xl, h.yl, h.ph, h.fI, h.fd, h.fl, h.aI, h.sI⟩
end Go.Proofs.Ytakciepfckdpfaa
