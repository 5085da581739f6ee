/- Sched: what settle does to the book. -/
import Derived.Test.YtakciepfckdpfaaSaC
namespace Go.Proofs.Ytakciepfckdpfaa
open Go.RowKit
set_option linter.unusedVariables false
set_option linter.unusedSimpArgs false
variable {w w' W W0 : World} {ρ : Nat → Nat} {wb φ : Nat} {P : Pos} {ps : List (Nat × Nat)} {Sx Sy : List Sd} {F : List (Nat × List Int)} {A : List Value} {G : List (List Int)} {Lv : List Value} {Lm : List Int}
theorem set_map {α β : Type} {f : α → β} {l : List α} {i : Nat} {x y : α} (h : l[i]? = some x) (e : f y = f x) : (l.set i y).map f = l.map f := by
  rw [List.map_set]
  refine List.ext_getElem? fun j => ?_
  rw [List.getElem?_set]
  have hi := (List.getElem?_eq_some_iff.1 h).1
  by_cases hj : i = j
  · subst hj
    rw [if_pos rfl, if_pos (by simpa using hi), List.getElem?_map, h, e]
    rfl
  · rw [if_neg hj]
/-- one number of a list that came out is written -/
theorem Bk.mark {i k g : Nat} {ids : List Int} {m : Int} (h : Bk 22 W0 ρ w wb P ps Sx Sy F A G Lv Lm) (he : F[i]? = some (g, ids)) (hk : k < ids.length) :
    ∃ ρ', Bk 22 W0 ρ' (w.setCell ⟨g, k, none⟩ (.int .i64 m)) wb P ps Sx Sy (F.set i (g, ids.set k m)) A G Lv Lm := by
  have hil := (List.getElem?_eq_some_iff.1 he).1
  have hx := h.fI (g, ids) (List.mem_of_getElem? he)
  have hro : ρ g = 22 := hx.ro g rfl
  have f : Fr g w (w.setCell ⟨g, k, none⟩ (.int .i64 m)) := (Fr.refl g w).setCell
  have c : Ch ρ 22 w (w.setCell ⟨g, k, none⟩ (.int .i64 m)) := Ch.ofFr f hro
  have efv : (F.set i (g, ids.set k m)).map fval = F.map fval := set_map he (by unfold fval; simp)
  have efs : (F.set i (g, ids.set k m)).map Prod.fst = F.map Prod.fst := set_map he rfl
  refine ⟨ext ρ w.heap.size 22, c.up h.up (by omega) h.old, fun b hb => by rw [ext_lt (Nat.lt_of_lt_of_le hb h.up.size)]; exact h.old b hb, by rw [ext_lt h.wlt]; exact h.wro, (c.block _ h.wlt (by rw [h.wro]; omega)).trans h.blk, h.lR.other c (by omega), ?_, h.aR.other c (by omega), h.sR.other c (by omega), h.mR.other c (by omega),
    fun i q S hq hS => (h.pX i q S hq hS).other c (by omega) (by omega), fun i q S hq hS => (h.pY i q S hq hS).other c (by omega) (by omega), h.xl, h.yl, h.ph, fun e he2 => ?_, by rw [efs]; exact h.fd, fun e he2 => ?_, fun i v e hv he => (h.aI i v e hv he).other c (by omega),
    fun i v m hv hm => by obtain ⟨n, h1, h2⟩ := h.sI i v m hv hm; exact ⟨n, h1, h2.other c (by omega)⟩⟩
  · rw [efv, List.length_set]
    exact h.fR.other c (by omega)
  · obtain ⟨j, hj⟩ := List.mem_iff_getElem?.1 he2
    rw [List.getElem?_set] at hj
    by_cases e9 : i = j
    · subst e9
      rw [if_pos rfl, if_pos hil] at hj
      injection hj with hj
      subst hj
      refine ⟨?_, fun b hb => by rw [ext_lt (own_lt hx.own hb)]; exact hx.ro b hb⟩
      have ho : w.ownsRow 0 3 1 (.slice (some ⟨g, 0, none⟩) ids.length ids.length) ids.length (nums ids) := hx.own
      obtain ⟨cur, hg, hb, hc, hm, hs, ht, hl⟩ := own_open ho
      unfold fval
      dsimp only
      rw [List.length_set]
      refine own_of (heap_setCell_same w g k _ _ _ hg) hb hc hm (by rw [Array.size_setIfInBounds]; exact hs) (by rw [nums_len, List.length_set]; omega) (fun t ht2 => ?_)
      rw [Array.getElem?_setIfInBounds, own_at ht t ht2]
      unfold nums
      rw [List.map_set, List.getElem?_set]
      by_cases e : k = t
      · subst e
        rw [if_pos rfl, if_pos rfl, if_pos (by omega), if_pos (by simp; omega)]
      · rw [if_neg e, if_neg e]
    · rw [if_neg e9] at hj
      have hy := h.fI e (List.mem_of_getElem? hj)
      have hne : e.1 ≠ g := fun e2 => by
        have hnd := List.pairwise_iff_getElem.1 h.fd
        obtain ⟨j1, j2⟩ := List.getElem?_eq_some_iff.1 hj
        obtain ⟨i1, i2⟩ := List.getElem?_eq_some_iff.1 he
        rcases Nat.lt_or_gt_of_ne e9 with hlt | hlt
        · exact hnd i j (by simpa using i1) (by simpa using j1) hlt (by rw [List.getElem_map, List.getElem_map, i2, j2]; exact e2.symm)
        · exact hnd j i (by simpa using j1) (by simpa using i1) hlt (by rw [List.getElem_map, List.getElem_map, i2, j2]; exact e2)
      exact ⟨ownsRow_block hy.own (fun b hb => f.block b (own_lt hy.own hb) (fun e3 => by injection hb with hb; exact hne (by rw [← e3]; exact hb))), fun b hb => by rw [ext_lt (own_lt hy.own hb)]; exact hy.ro b hb⟩
  · rcases List.mem_or_eq_of_mem_set he2 with h2 | h2
    · exact h.fl e h2
    · rw [h2]
      show (ids.set k m).length ≤ 64
      rw [List.length_set]
      exact h.fl _ (List.mem_of_getElem? he)
/-- lists that came out are lists like others -/
theorem Bk.rerole (h : Bk 22 W0 ρ w wb P ps Sx Sy F A G Lv Lm) : ∃ ρ', Bk 21 W0 ρ' w wb P ps Sx Sy F A G Lv Lm := by
  have e1 : ∀ b, ρ b ≠ 22 → (fun b => if ρ b = 22 then 21 else ρ b) b = ρ b := fun b hb => if_neg hb
  have rw1 : ∀ {r : Nat} {ty : TypeId} {size n : Nat} {v : Value} {xs : List Value}, r ≠ 22 → Rw ρ r w ty size v n xs → Rw (fun b => if ρ b = 22 then 21 else ρ b) r w ty size v n xs := fun hr h => ⟨h.own, fun g hg => by show (if ρ g = 22 then 21 else ρ g) = _; rw [h.ro g hg, if_neg hr]⟩
  have kk : ∀ r, r ≠ 22 → r ≠ 21 → ∀ b, Kr (fun b => if ρ b = 22 then 21 else ρ b) r w b → Kr ρ r w b := fun r h1 h2 b hb => ⟨hb.1, fun e => hb.2 (by show (if ρ b = 22 then 21 else ρ b) = _; rw [e, if_neg h1])⟩
  refine ⟨fun b => if ρ b = 22 then 21 else ρ b, h.up, fun b hb => by show (if ρ b = 22 then 21 else ρ b) = _; rw [h.old b hb]; rfl, by show (if ρ wb = 22 then 21 else ρ wb) = _; rw [h.wro]; rfl, h.blk, rw1 (by omega) h.lR, rw1 (by omega) h.fR, rw1 (by omega) h.aR, rw1 (by omega) h.sR, rw1 (by omega) h.mR,
    fun i q S hq hS => (h.pX i q S hq hS).less' (kk _ (by omega) (by omega)), fun i q S hq hS => ?_, h.xl, h.yl, Or.inl rfl, fun e he => ⟨(h.fI e he).own, fun g hg => by show (if ρ g = 22 then 21 else ρ g) = _; rw [(h.fI e he).ro g hg]; rfl⟩, h.fd, h.fl, fun i v e hv he => rw1 (by omega) (h.aI i v e hv he),
    fun i v m hv hm => by obtain ⟨n, h1, h2⟩ := h.sI i v m hv hm; exact ⟨n, h1, rw1 (by omega) h2⟩⟩
  obtain ⟨lv, sv, z⟩ := h.pY i q S hq hS
  have hk := kk (1001 + 2 * i) (by omega) (by omega)
  exact ⟨lv, sv, fun b hb => z.kn b (hk b hb), fun b hb => z.kb b (hk b hb), z.blk, z.row, z.slo, z.a1, z.a2, z.a3, z.len, z.gd⟩
/-- four lists more -/
theorem Bk.putS {w1 w2 : World} {v' : Value} {vs : List Value} (h : Bk 21 W0 ρ w wb P ps Sx Sy F A G Lv Lm) (hL : Lm.length = Lv.length)
    (u : Up w w1) (g : w1.grownBy w2 P.sV.ownBlock) (o : w2.ownsRow 0 35 1 v' (Lv.length + vs.length) (Lv ++ vs)) (a : v'.ownBlock = P.sV.ownBlock ∨ v'.ownBlock = some w1.heap.size) :
    (∃ ρ', Bk 21 W0 ρ' (w2.setCell ⟨wb, 3, none⟩ v') wb { P with sV := v' } ps Sx Sy F A G (Lv ++ vs) Lm ∧ ∀ (ty : TypeId) (size n : Nat) (x : Value) (xs : List Value), Rw ρ 21 w ty size x n xs → Rw ρ' 21 (w2.setCell ⟨wb, 3, none⟩ v') ty size x n xs) ∧ w2.cell? ⟨wb, 3, none⟩ = some P.sV ∧ w2.frozen? ⟨wb, 3, none⟩ = false := by
  obtain ⟨r1, c1⟩ := h.sR.grow u g o a
  have hh := h.hole c1 (by omega) (by omega)
  have r2 : Rw (ext ρ w.heap.size 14) 14 w2 35 1 v' (Lv ++ vs).length (Lv ++ vs) := by rw [List.length_append]; exact r1
  obtain ⟨b1, c2⟩ := hh.fill (o := 3) (v := v') (P' := { P with sV := v' }) (Lv' := Lv ++ vs) rfl (hh.lR (by omega)) (hh.fR (by omega)) (hh.aR (by omega)) r2 (hh.mR (by omega)) hh.pX hh.pY hh.xl hh.yl hh.fI hh.fd hh.fl hh.aI (fun i v m hv hm => by
    have := (List.getElem?_eq_some_iff.1 hm).1
    rw [List.getElem?_append_left (by omega)] at hv
    exact hh.sI i v m hv hm)
  exact ⟨⟨_, b1, fun ty size n x xs hx => (hx.other c1 (by omega)).other c2 (by omega)⟩, heap_cell hh.blk rfl, heap_fz hh.blk⟩
/-- .. and their marks -/
theorem Bk.putM {w1 w2 : World} {v' : Value} {vs : List Value} {ms : List Int} (h : Bk 21 W0 ρ w wb P ps Sx Sy F A G (Lv ++ vs) Lm) (hL : Lm.length = Lv.length)
    (hvs : ∀ (i : Nat) (v : Value) (m : Int), vs[i]? = some v → ms[i]? = some m → ∃ n, n ≤ 70 ∧ Rw ρ 21 w 3 1 v n (nums (List.replicate n m)))
    (u : Up w w1) (g : w1.grownBy w2 P.mV.ownBlock) (o : w2.ownsRow 0 3 1 v' (Lm.length + ms.length) (nums Lm ++ nums ms)) (a : v'.ownBlock = P.mV.ownBlock ∨ v'.ownBlock = some w1.heap.size) :
    (∃ ρ', Bk 21 W0 ρ' (w2.setCell ⟨wb, 4, none⟩ v') wb { P with mV := v' } ps Sx Sy F A G (Lv ++ vs) (Lm ++ ms)) ∧ w2.cell? ⟨wb, 4, none⟩ = some P.mV ∧ w2.frozen? ⟨wb, 4, none⟩ = false := by
  obtain ⟨r1, c1⟩ := h.mR.grow u g o a
  have hh := h.hole c1 (by omega) (by omega)
  have r2 : Rw (ext ρ w.heap.size 15) 15 w2 3 1 v' (Lm ++ ms).length (nums (Lm ++ ms)) := by rw [List.length_append, nums_app]; exact r1
  obtain ⟨b1, c2⟩ := hh.fill (o := 4) (v := v') (P' := { P with mV := v' }) (Lm' := Lm ++ ms) rfl (hh.lR (by omega)) (hh.fR (by omega)) (hh.aR (by omega)) (hh.sR (by omega)) r2 hh.pX hh.pY hh.xl hh.yl hh.fI hh.fd hh.fl hh.aI (fun i v m hv hm => by
    rw [List.getElem?_append] at hm
    by_cases hi : i < Lm.length
    · rw [if_pos hi] at hm
      exact hh.sI i v m hv hm
    · rw [if_neg hi] at hm
      rw [List.getElem?_append_right (by omega)] at hv
      rw [← hL] at hv
      obtain ⟨n, h1, h2⟩ := hvs _ v m hv hm
      exact ⟨n, h1, h2.other c1 (by omega)⟩)
  exact ⟨⟨_, b1⟩, heap_cell hh.blk rfl, heap_fz hh.blk⟩
/-- nothing stays any more -/
theorem Bk.clear (h : Bk 21 W0 ρ w wb P ps Sx Sy F A G Lv Lm) : ∃ ρ' P', Bk 22 W0 ρ' ((w.setCell ⟨wb, 1, none⟩ (.slice none 0 0)).setCell ⟨wb, 2, none⟩ (.slice none 0 0)) wb P' ps Sx Sy [] [] [] Lv Lm := by
  have nil1 : ∀ {ρ : Nat → Nat} {r : Nat} {w : World} {ty : TypeId} {size : Nat}, Rw ρ r w ty size (.slice none 0 0) 0 [] := fun {ρ r w ty size} => ⟨⟨by simp, Or.inl ⟨rfl, rfl⟩⟩, fun g hg => by cases hg⟩
  obtain ⟨b1, _⟩ := (h.toH (x := 0)).fill (o := 1) (v := .slice none 0 0) (P' := { P with fV := .slice none 0 0 }) (F' := []) (A' := A) (G' := G) rfl h.lR nil1 h.aR h.sR h.mR h.pX h.pY h.xl h.yl (fun e he => (by cases he)) List.nodup_nil (fun e he => (by cases he)) h.aI h.sI
  obtain ⟨b2, _⟩ := (b1.toH (x := 0)).fill (o := 2) (v := .slice none 0 0) (P' := { P with fV := .slice none 0 0, aV := .slice none 0 0 }) (F' := []) (A' := []) (G' := []) rfl b1.lR nil1 nil1 b1.sR b1.mR b1.pX b1.pY b1.xl b1.yl (fun e he => (by cases he)) List.nodup_nil (fun e he => (by cases he)) (fun i v e hv he => (by simp at hv)) b1.sI
  exact ⟨_, _, b2.up, b2.old, b2.wro, b2.blk, b2.lR, b2.fR, b2.aR, b2.sR, b2.mR, b2.pX, b2.pY, b2.xl, b2.yl, Or.inr rfl, fun e he => (by cases he), b2.fd, b2.fl, b2.aI, b2.sI⟩
theorem Bk.four {w6 : World} {x0 v1 v2 v3 : Value} {n : Nat} {m : Int} (h : Bk 21 W0 ρ w wb P ps Sx Sy F A G Lv Lm) (u6 : Up w w6) (hl : Rw ρ 21 w 3 1 x0 n (nums (List.replicate n m))) (o1 : w6.ownsRow w.heap.size 3 1 v1 (n + 1) (nums (List.replicate (n + 1) m))) (o2 : w6.ownsRow w.heap.size 3 1 v2 (n + 2) (nums (List.replicate (n + 2) m))) (o3 : w6.ownsRow w.heap.size 3 1 v3 (n + 3) (nums (List.replicate (n + 3) m))) (hn : n ≤ 64) :
    ∃ ρ6, Bk 21 W0 ρ6 w6 wb P ps Sx Sy F A G Lv Lm ∧ ∀ (i : Nat) (v : Value) (m' : Int), [x0, v1, v2, v3][i]? = some v → [m, m, m, m][i]? = some m' → ∃ k, k ≤ 70 ∧ Rw ρ6 21 w6 3 1 v k (nums (List.replicate k m')) := by
  refine ⟨_, h.upR (r := 21) u6 (by omega), fun i v m' hv hm => ?_⟩
  match i, hv, hm with
  | 0, hv, hm => simp at hv hm; subst hv hm; exact ⟨n, by omega, hl.up u6⟩
  | 1, hv, hm => simp at hv hm; subst hv hm; exact ⟨n + 1, by omega, Rw.new o1 (Nat.le_refl _)⟩
  | 2, hv, hm => simp at hv hm; subst hv hm; exact ⟨n + 2, by omega, Rw.new o2 (Nat.le_refl _)⟩
  | 3, hv, hm => simp at hv hm; subst hv hm; exact ⟨n + 3, by omega, Rw.new o3 (Nat.le_refl _)⟩
theorem rep_snoc (n : Nat) (m : Int) : nums (List.replicate n m) ++ [.int .i64 m] = nums (List.replicate (n + 1) m) := by rw [List.replicate_succ', nums_app]; rfl
theorem rep_two (n : Nat) (m : Int) : nums (List.replicate n m) ++ [.int .i64 m, .int .i64 m] = nums (List.replicate (n + 2) m) := by rw [← rep_snoc (n + 1), ← rep_snoc n, List.append_assoc]; rfl
theorem rep_three (n : Nat) (m : Int) : nums (List.replicate n m) ++ [.int .i64 m, .int .i64 m, .int .i64 m] = nums (List.replicate (n + 3) m) := by rw [← rep_snoc (n + 2), ← rep_two n, List.append_assoc]; rfl
end Go.Proofs.Ytakciepfckdpfaa
