/- Sched: the law's take. -/
import Derived.Test.YtakciepfckdpfaaSaB
namespace Go.Proofs.Ytakciepfckdpfaa
open Go.RowKit
set_option linter.unusedVariables false
set_option linter.unusedSimpArgs false
variable {w w' W W0 : World} {ρ : Nat → Nat} {wb : Nat} {P : Pos} {ps : List (Nat × Nat)} {Sx Sy : List Sd} {F : List (Nat × List Int)} {A : List Value} {G : List (List Int)} {Lv : List Value} {Lm : List Int}
/-- what was there keeps its role; lists that came out are as they were -/
structure Ke (ρ ρ' : Nat → Nat) (w w' : World) : Prop where
  size : w.heap.size ≤ w'.heap.size
  ro : ∀ b, b < w.heap.size → ρ' b = ρ b
  bl : ∀ b, b < w.heap.size → ρ b = 22 → w'.heap[b]? = w.heap[b]?
theorem Ke.of {r r2 : Nat} (c : Ch ρ r w w') (h : r ≠ 22) : Ke ρ (ext ρ w.heap.size r2) w w' := ⟨c.size, fun b hb => ext_lt hb, fun b hb e => c.block b hb (by rw [e]; exact fun x => h x.symm)⟩
theorem Ke.trans {a b c : World} {p q s : Nat → Nat} (h : Ke p q a b) (k : Ke q s b c) : Ke p s a c :=
  ⟨Nat.le_trans h.size k.size, fun x hx => (k.ro x (Nat.lt_of_lt_of_le hx h.size)).trans (h.ro x hx), fun x hx e => (k.bl x (Nat.lt_of_lt_of_le hx h.size) (by rw [h.ro x hx]; exact e)).trans (h.bl x hx e)⟩
theorem Rw.ke {ρ' : Nat → Nat} {ty : TypeId} {size n : Nat} {v : Value} {xs : List Value} (h : Rw ρ 22 w ty size v n xs) (k : Ke ρ ρ' w w') : Rw ρ' 22 w' ty size v n xs :=
  ⟨ownsRow_block h.own (fun g hg => k.bl g (own_lt h.own hg) (h.ro g hg)), fun g hg => by rw [k.ro g (own_lt h.own hg)]; exact h.ro g hg⟩
/-- a list more stays as it came -/
theorem Bk.takeF {w1 w2 : World} {v' : Value} {x : Nat × List Int} (h : Bk 22 W0 ρ W wb P ps Sx Sy F A G Lv Lm) (hx : Rw ρ 22 W 3 1 (fval x) x.2.length (nums x.2)) (hn : x.1 ∉ F.map Prod.fst) (hl : x.2.length ≤ 64)
    (u : Up W w1) (g : w1.grownBy w2 P.fV.ownBlock) (o : w2.ownsRow 0 35 1 v' (F.length + 1) (F.map fval ++ [fval x])) (a : v'.ownBlock = P.fV.ownBlock ∨ v'.ownBlock = some w1.heap.size) :
    (∃ ρ', Bk 22 W0 ρ' (w2.setCell ⟨wb, 1, none⟩ v') wb { P with fV := v' } ps Sx Sy (F ++ [x]) A G Lv Lm ∧ Ke ρ ρ' W (w2.setCell ⟨wb, 1, none⟩ v')) ∧ w2.cell? ⟨wb, 1, none⟩ = some P.fV ∧ w2.frozen? ⟨wb, 1, none⟩ = false := by
  obtain ⟨r1, c1⟩ := h.fR.grow u g o a
  have hh := h.hole c1 (by omega) (by omega)
  have hx2 : Rw (ext ρ W.heap.size 12) 22 w2 3 1 (fval x) x.2.length (nums x.2) := hx.other c1 (by omega)
  have r2 : Rw (ext ρ W.heap.size 12) 12 w2 35 1 v' (F ++ [x]).length ((F ++ [x]).map fval) := by rw [List.length_append, List.map_append]; exact r1
  obtain ⟨b1, c2⟩ := hh.fill (o := 1) (v := v') (P' := { P with fV := v' }) (F' := F ++ [x]) rfl (hh.lR (by omega)) r2 (hh.aR (by omega)) (hh.sR (by omega)) (hh.mR (by omega)) hh.pX hh.pY hh.xl hh.yl (fun e he => by
    rcases List.mem_append.1 he with he | he
    · exact hh.fI e he
    · rw [List.mem_singleton.1 he]
      exact hx2) (by
    rw [List.map_append, List.nodup_append]
    refine ⟨hh.fd, by simp, fun y hy z hz => ?_⟩
    simp at hz
    subst hz
    exact fun e => hn (e ▸ hy)) (fun e he => by
    rcases List.mem_append.1 he with he | he
    · exact hh.fl e he
    · rw [List.mem_singleton.1 he]
      exact hl) hh.aI hh.sI
  exact ⟨⟨_, b1, (Ke.of c1 (by omega)).trans (Ke.of c2 (by omega))⟩, heap_cell hh.blk rfl, heap_fz hh.blk⟩
/-- .. and a copy of it -/
theorem Bk.takeA {w7 w8 w9 : World} {v0 v' : Value} {x : Nat × List Int} (h : Bk 22 W0 ρ W wb P ps Sx Sy F A G Lv Lm) (hA : A.length = G.length) (u7 : Up W w7) (o7 : w7.ownsRow W.heap.size 3 1 v0 x.2.length (nums x.2)) (u8 : Up w7 w8) :
    w8.ownsRow 0 35 1 P.aV A.length A ∧ ((w9.cell? ⟨wb, 2, none⟩ = w9.cell? ⟨wb, 2, none⟩) → w8.grownBy w9 P.aV.ownBlock → w9.ownsRow 0 35 1 v' (A.length + 1) (A ++ [v0]) → (v'.ownBlock = P.aV.ownBlock ∨ v'.ownBlock = some w8.heap.size) →
    (w9.cell? ⟨wb, 2, none⟩ = some P.aV ∧ w9.frozen? ⟨wb, 2, none⟩ = false) ∧ ∃ ρ' P', Bk 22 W0 ρ' (w9.setCell ⟨wb, 2, none⟩ v') wb P' ps Sx Sy F (A ++ [v0]) (G ++ [x.2]) Lv Lm ∧ Ke ρ ρ' W (w9.setCell ⟨wb, 2, none⟩ v')) := by
  have b7 := h.upR (r := 20) u7 (by omega)
  have hv0 : Rw (ext ρ W.heap.size 20) 20 w7 3 1 v0 x.2.length (nums x.2) := Rw.new o7 (Nat.le_refl _)
  refine ⟨ownsRow_up b7.aR.own u8, fun _ g o a => ?_⟩
  obtain ⟨r1, c1⟩ := b7.aR.grow u8 g o a
  have hh := b7.hole c1 (by omega) (by omega)
  have r2 : Rw (ext (ext ρ W.heap.size 20) w7.heap.size 13) 13 w9 35 1 v' (A ++ [v0]).length (A ++ [v0]) := by rw [List.length_append]; exact r1
  obtain ⟨b1, c2⟩ := hh.fill (o := 2) (v := v') (P' := { P with aV := v' }) (A' := A ++ [v0]) (G' := G ++ [x.2]) rfl (hh.lR (by omega)) (hh.fR (by omega)) r2 (hh.sR (by omega)) (hh.mR (by omega)) hh.pX hh.pY hh.xl hh.yl hh.fI hh.fd hh.fl (fun i v e hv he => by
    rw [List.getElem?_append] at hv he
    by_cases hi : i < A.length
    · rw [if_pos hi] at hv
      rw [if_pos (by omega)] at he
      exact hh.aI i v e hv he
    · rw [if_neg hi] at hv
      rw [if_neg (by omega)] at he
      have h1 := (List.getElem?_eq_some_iff.1 hv).1
      simp at h1
      have e9 : i - A.length = 0 := by omega
      have e8 : i - G.length = 0 := by omega
      rw [e9] at hv
      rw [e8] at he
      injection hv with hv
      injection he with he
      subst hv he
      exact hv0.other c1 (by omega)) hh.sI
  exact ⟨⟨heap_cell hh.blk rfl, heap_fz hh.blk⟩, _, _, b1, ((Ke.of (Ch.ofUp (r := 0) u7) (by omega)).trans (Ke.of c1 (by omega))).trans (Ke.of c2 (by omega))⟩
set_option maxRecDepth 100000 in
set_option maxHeartbeats 2000000 in
theorem take_any {g : Nat} {ids : List Int} (h : Bk 22 W0 ρ W wb P ps Sx Sy F A G Lv Lm) (hx : Rw ρ 22 W 3 1 (fval (g, ids)) ids.length (nums ids)) (hn : g ∉ F.map Prod.fst) (hl : ids.length ≤ 64) (hA : A.length = F.length) (hG : A.length = G.length) (hF : F.length ≤ 1000) :
    Calls Try.prog 37 #[.pointer (some ⟨wb, 0, none⟩), fval (g, ids)] W fun e w' => e = .returned (.tuple #[]) ∧ ∃ ρ' P' v0, Bk 22 W0 ρ' w' wb P' ps Sx Sy (F ++ [(g, ids)]) (A ++ [v0]) (G ++ [ids]) Lv Lm ∧ Ke ρ ρ' W w' := by
  obtain ⟨fa, fc, hfv, f1, f2⟩ := own_slice h.fR.own
  have k1 : W.cell? ⟨wb, 1, none⟩ = some (.slice fa F.length fc) := by rw [← hfv]; exact heap_cell h.blk rfl
  have hil : Try.prog.info? 35 = some Try.t35 := by kernel_rfl
  have hii : Try.prog.info? 3 = some Try.t3 := by kernel_rfl
  have HO : Hid (∀ w, Up W w → w.ownsRow 0 35 1 (.slice fa F.length fc) F.length (F.map fval)) := fun w u => by rw [← hfv]; exact ownsRow_up h.fR.own u
  have HTf : Hid (∀ w2 v', (W.alloc (Obj.cells #[fval (g, ids)] 35)).grownBy w2 (Value.slice fa F.length fc).ownBlock → w2.ownsRow 0 35 1 v' (F.length + 1) (F.map fval ++ [fval (g, ids)]) → (v'.ownBlock = (Value.slice fa F.length fc).ownBlock ∨ v'.ownBlock = some (W.alloc (Obj.cells #[fval (g, ids)] 35)).heap.size) → (∃ ρ', Bk 22 W0 ρ' (w2.setCell ⟨wb, 1, none⟩ v') wb { P with fV := v' } ps Sx Sy (F ++ [(g, ids)]) A G Lv Lm ∧ Ke ρ ρ' W (w2.setCell ⟨wb, 1, none⟩ v')) ∧ w2.cell? ⟨wb, 1, none⟩ = some (.slice fa F.length fc) ∧ w2.frozen? ⟨wb, 1, none⟩ = false) := fun w2 v' g o a => by
    rw [← hfv] at g a ⊢
    exact h.takeF hx hn hl ((Up.refl W).alloc _) g o a
  have HRx : Hid (Rw ρ 22 W 3 1 (fval (g, ids)) ids.length (nums ids)) := hx
  have HFl : Hid (A.length = G.length) := hG
  have haF : A.length ≤ 1000 := by omega
  have HNl : Hid ((nums ids).length = ids.length * 1) := by show _ = _; rw [nums_len]; omega
  have HPa : Hid (∃ xa xc, P.aV = .slice xa A.length xc) := by obtain ⟨xa, xc, e, _⟩ := own_slice h.aR.own; exact ⟨xa, xc, e⟩
  clear h hfv hx hn hA hG
  unfold fval at *
  dsimp only at *
  generalize hfm : F.map fval = FM at HO HTf
  clear hfm
  go_enter Try.func37, Try.ntmps37
  go_wp2_with (at_builtin; refine wpList_append_own_at2 _ rfl _ _ 49 49 rfl 0 35 Try.t35 (.slice none 0 0) 1 24 Try.underlying49 Try.underlying49 hil rfl rfl rfl rfl (by decide) _ _ _ rfl (HO.out _ ((Up.refl W).alloc _)) ⟨W.heap.size, 0, none⟩ 1 1 [.slice (some ⟨g, 0, none⟩) ids.length ids.length] rfl rfl (cell_one_new _ _ _) (by intro u hu; simp at hu; subst hu; rfl) (by unfold maxLen; omega) (by omega) (Nat.zero_le _) ?_; intro v' w2 ho hg hat; have H2 : Hid _ := HTf.out w2 v' hg ho hat; obtain ⟨va', vn', vc', rfl⟩ := own_slice3 ho; clear ho hg hat; have k2 := H2.out.2.1; have z2 := H2.out.2.2)
  have H3 : Hid (∃ ρ' : Nat → Nat, Bk 22 W0 ρ' (w2.setCell ⟨wb, 1, none⟩ (.slice va' vn' vc')) wb { P with fV := .slice va' vn' vc' } ps Sx Sy (F ++ [(g, ids)]) A G Lv Lm ∧ Ke ρ ρ' W (w2.setCell ⟨wb, 1, none⟩ (.slice va' vn' vc'))) := H2.out.1
  clear H2 k2 z2 k1 HTf HO
  generalize World.setCell w2 _ _ = w3 at H3 ⊢
  obtain ⟨ρ3, hb3, hk3⟩ := H3.out
  obtain ⟨xa, xc, hxa⟩ := HPa.out
  have HK2 : Hid (∀ w, Up w3 w → w.cell? ⟨wb, 2, none⟩ = some (.slice xa A.length xc)) := fun w u => cell_up u (by rw [← hxa]; exact heap_cell hb3.blk rfl)
  have hrx := HRx.out.ke hk3
  have HLs : Hid (∀ w, Up w3 w → ∀ j u, (nums ids)[j]? = some u → w.cell? ((⟨g, 0, none⟩ : Addr).add j) = some u) := fun w u j v hv => by
    have hjl := (List.getElem?_eq_some_iff.1 hv).1
    rw [nums_len] at hjl
    have := own_cell hrx.own j (by omega)
    rw [Addr.add_lit]
    exact cell_up u (by rw [this]; exact hv)
  have HTa : Hid (∀ w7 w8 va0 vc0, Up w3 w7 → w7.ownsRow w3.heap.size 3 1 (.slice va0 ids.length vc0) ids.length (nums ids) → Up w7 w8 → w8.ownsRow 0 35 1 (.slice xa A.length xc) A.length A ∧ ∀ w9 v', w8.grownBy w9 (Value.slice xa A.length xc).ownBlock → w9.ownsRow 0 35 1 v' (A.length + 1) (A ++ [.slice va0 ids.length vc0]) → (v'.ownBlock = (Value.slice xa A.length xc).ownBlock ∨ v'.ownBlock = some w8.heap.size) → (w9.cell? ⟨wb, 2, none⟩ = some (.slice xa A.length xc) ∧ w9.frozen? ⟨wb, 2, none⟩ = false) ∧ ∃ ρ' P' v0, Bk 22 W0 ρ' (w9.setCell ⟨wb, 2, none⟩ v') wb P' ps Sx Sy (F ++ [(g, ids)]) (A ++ [v0]) (G ++ [ids]) Lv Lm ∧ Ke ρ ρ' W (w9.setCell ⟨wb, 2, none⟩ v')) := fun w7 w8 va0 vc0 u7 o7 u8 => by
    refine ⟨?_, fun w9 v' gg o a => ?_⟩
    · have := (hb3.takeA (w9 := w8) (v' := .slice none 0 0) (v0 := .slice va0 ids.length vc0) (x := (g, ids)) HFl.out u7 o7 u8).1
      rw [← hxa]
      exact this
    · have := (hb3.takeA (w9 := w9) (v' := v') (v0 := .slice va0 ids.length vc0) (x := (g, ids)) HFl.out u7 o7 u8).2 rfl (by rw [hxa]; exact gg) o (by rw [hxa]; exact a)
      obtain ⟨q1, ρ', P', q2, q3⟩ := this
      refine ⟨⟨by rw [← hxa]; exact q1.1, q1.2⟩, ρ', P', _, q2, hk3.trans q3⟩
  clear hrx hb3 hk3 hxa HPa HRx H3 HFl
  generalize ids.length = n at *
  generalize A.length = na at *
  go_wp2_with fail
  refine wp_region_held_drew (S := fun _ => True) (by kernel_rfl) trivial (fun hHeld => ?_)
  have ud : Up w3 w3.drew := (Up.refl w3).drew
  generalize World.drew w3 = wd at ud hHeld ⊢
  refine wpAnyH_take (i := 0) (v := ?_) (by simp only [List.getElem?_toArray, List.getElem?_cons_zero]; rfl) (by kernel_rfl) (by kernel_rfl) (by kernel_rfl) (by intro _ _ _ h; exact h) (Or.inl ⟨by rfl, ?_⟩) (by assumption) ?_
  rotate_left
  · (intro w hSw; (try dsimp only at hSw); go_simp <;> with_reducible rfl)
  try simp only [Act.put, List.setIfInBounds_toArray, List.set_cons_zero, List.set_cons_succ]
  refine wpAnyH_take (i := 1) (v := ?_) (by simp only [List.getElem?_toArray, List.getElem?_cons_succ, List.getElem?_cons_zero]; rfl) (by kernel_rfl) (by kernel_rfl) (by kernel_rfl) (by intro _ _ _ h; exact h) (Or.inl ⟨by rfl, ?_⟩) (by assumption) ?_
  rotate_left
  · (intro w hSw; (try dsimp only at hSw); go_simp <;> with_reducible rfl)
  try simp only [Act.put, List.setIfInBounds_toArray, List.set_cons_zero, List.set_cons_succ]
  refine wpAnyH_take (i := 2) (v := ?_) (by simp only [List.getElem?_toArray, List.getElem?_cons_succ, List.getElem?_cons_zero]; rfl) (by kernel_rfl) (by kernel_rfl) (by kernel_rfl) (by intro _ _ _ h; exact h) (Or.inl ⟨by rfl, ?_⟩) (by assumption) ?_
  rotate_left
  · (intro w hSw; (try dsimp only at hSw); go_simp <;> with_reducible rfl)
  try simp only [Act.put, List.setIfInBounds_toArray, List.set_cons_zero, List.set_cons_succ]
  refine wpAnyH_take (i := 3) (v := ?_) (by simp only [List.getElem?_toArray, List.getElem?_cons_succ, List.getElem?_cons_zero]; rfl) (by kernel_rfl) (by kernel_rfl) (by kernel_rfl) (by intro _ _ _ h; exact h) (Or.inl ⟨by rfl, ?_⟩) (by assumption) ?_
  rotate_left
  · (intro w hSw; (try dsimp only at hSw); go_simp <;> with_reducible rfl)
  try simp only [Act.put, List.setIfInBounds_toArray, List.set_cons_zero, List.set_cons_succ]
  refine wpAnyH_take (i := 6) (v := ?_) (by simp only [List.getElem?_toArray, List.getElem?_cons_succ, List.getElem?_cons_zero]; rfl) (by kernel_rfl) (by kernel_rfl) (by kernel_rfl) (by intro _ _ _ h; exact h) (Or.inl ⟨by rfl, ?_⟩) (by assumption) ?_
  rotate_left
  · (intro w hSw; (try dsimp only at hSw); go_simp <;> with_reducible rfl)
  try simp only [Act.put, List.setIfInBounds_toArray, List.set_cons_zero, List.set_cons_succ]
  refine wpAnyH_ready (rs := [4, 5]) (by kernel_rfl) (by simp) ?_
  refine AllReadyH.cons (by simp only [List.getElem?_toArray, List.getElem?_cons_succ, List.getElem?_cons_zero]; rfl) (fun KK hK => ?_) (AllReadyH.cons (by simp only [List.getElem?_toArray, List.getElem?_cons_succ, List.getElem?_cons_zero]; rfl) (fun KK hK => ?_) AllReadyH.nil)
  · skip
    have k2 := HK2.out wd ud
    go_simp
    refine hK.out _ _ trivial (fun _ => ?_)
    clear hK KK
    try simp only [Act.put, List.setIfInBounds_toArray, List.set_cons_zero, List.set_cons_succ]
    clear k2
    refine wpAnyH_ready (rs := [5]) (by kernel_rfl) (by simp) ?_
    refine AllReadyH.cons (by simp only [List.getElem?_toArray, List.getElem?_cons_succ, List.getElem?_cons_zero]; rfl) (fun KK hK => ?_) AllReadyH.nil
    go_simp
    have u5 : Up w3 (wd.alloc (Obj.cells #[] 3)) := ud.alloc _
    have k5 : (wd.alloc (Obj.cells #[] 3)).heap[wd.heap.size]? = some (.cells #[] 3 (0, 0)) := heap_alloc_new wd _
    have z5 := ud.size
    obtain ⟨ge, hge⟩ : ∃ ge, ge = wd.heap.size := ⟨_, rfl⟩
    rw [← hge] at k5 z5 ⊢
    clear hge
    generalize World.alloc wd _ = w5 at u5 k5 ⊢
    refine hK.out _ _ trivial (fun _ => ?_)
    clear hK KK
    try simp only [Act.put, List.setIfInBounds_toArray, List.set_cons_zero, List.set_cons_succ]
    refine wpAnyH_ready (rs := [7]) (by kernel_rfl) (by simp) ?_
    refine AllReadyH.cons (by simp only [List.getElem?_toArray, List.getElem?_cons_succ, List.getElem?_cons_zero]; rfl) (fun KK hK => ?_) AllReadyH.nil
    rw [if_pos (by rfl)]
    refine wp_append_at _ _ _ 35 rfl w3.heap.size 3 Try.t3 (.int .i64 0) 1 8 Try.underlying35 hii rfl rfl rfl rfl (by decide) (.slice (some ⟨ge, 0, none⟩) 0 0) 0 [] rfl (own_of k5 z5 (Nat.le_refl _) (Nat.zero_le _) rfl rfl (fun k hk => by omega)) ⟨g, 0, none⟩ n n (nums ids) rfl HNl.out (fun j u hu => HLs.out w5 u5 j u hu) (nums_one ids) (by unfold maxLen; omega) (by omega) u5.size ?_
    intro v0 w7 ho7 hg7 hat7
    rw [Nat.zero_add, List.nil_append] at ho7
    obtain ⟨va0, vc0, rfl, _, _⟩ := own_slice ho7
    have u7 : Up w3 w7 := ⟨hg7.os.trans u5.os, hg7.output.trans u5.output, Nat.le_trans u5.size hg7.size, fun b hb => (hg7.block b (Nat.lt_of_lt_of_le hb u5.size) (fun e => by injection e with e; have e : b = ge := e; omega)).trans (u5.block b hb)⟩
    clear hg7 hat7
    refine hK.out _ _ trivial (fun _ => ?_)
    clear hK KK
    try simp only [Act.put, List.setIfInBounds_toArray, List.set_cons_zero, List.set_cons_succ]
    refine wpAnyH_ready (rs := [8]) (by kernel_rfl) (by simp) ?_
    refine AllReadyH.cons (by simp only [List.getElem?_toArray, List.getElem?_cons_succ, List.getElem?_cons_zero]; rfl) (fun KK hK => ?_) AllReadyH.nil
    go_simp
    have u8 : Up w7 (w7.alloc (Obj.cells #[.slice va0 n vc0] 35)) := (Up.refl w7).alloc _
    have k8 : ∀ j u, [Value.slice va0 n vc0][j]? = some u → (w7.alloc (Obj.cells #[.slice va0 n vc0] 35)).cell? ((⟨w7.heap.size, 0, none⟩ : Addr).add j) = some u := cell_one_new _ _ _
    refine hK.out _ _ trivial (fun _ => ?_)
    clear hK KK
    try simp only [Act.put, List.setIfInBounds_toArray, List.set_cons_zero, List.set_cons_succ]
    refine wpAnyH_ready (rs := [9]) (by kernel_rfl) (by simp) ?_
    refine AllReadyH.cons (by simp only [List.getElem?_toArray, List.getElem?_cons_succ, List.getElem?_cons_zero]; rfl) (fun KK hK => ?_) AllReadyH.nil
    rw [if_pos (by rfl)]
    have HT := HTa.out w7 _ va0 vc0 u7 ho7 u8
    refine wp_append_at _ _ _ 49 rfl 0 35 Try.t35 (.slice none 0 0) 1 24 Try.underlying49 hil rfl rfl rfl rfl (by decide) (.slice xa na xc) na _ rfl HT.1 ⟨w7.heap.size, 0, none⟩ 1 1 [.slice va0 n vc0] rfl rfl k8 (by intro u hu; simp at hu; subst hu; rfl) (by unfold maxLen; omega) (by omega) (Nat.zero_le _) ?_
    intro v9 w9 ho9 hg9 hat9
    obtain ⟨va9, vc9, rfl, _, _⟩ := own_slice ho9
    have hz := HT.2 w9 _ hg9 ho9 hat9
    have H9 : Hid _ := hz.2
    have kz := hz.1.1
    have zz := hz.1.2
    refine hK.out _ _ trivial (fun _ => ?_)
    clear hK KK
    try simp only [Act.put, List.setIfInBounds_toArray, List.set_cons_zero, List.set_cons_succ]
    refine wpAnyH_take (i := 10) (v := ?_) (by simp only [List.getElem?_toArray, List.getElem?_cons_succ, List.getElem?_cons_zero]; rfl) (by kernel_rfl) (by kernel_rfl) (by kernel_rfl) (by intro _ _ _ h; exact h) (Or.inl ⟨by rfl, ?_⟩) (by assumption) ?_
    rotate_left
    · (intro w hSw; (try dsimp only at hSw); go_simp <;> with_reducible rfl)
    try simp only [Act.put, List.setIfInBounds_toArray, List.set_cons_zero, List.set_cons_succ]
    refine wpAnyH_take (i := 11) (v := ?_) (by simp only [List.getElem?_toArray, List.getElem?_cons_succ, List.getElem?_cons_zero]; rfl) (by kernel_rfl) (by kernel_rfl) (by kernel_rfl) (by intro _ _ _ h; exact h) (Or.inl ⟨by rfl, ?_⟩) (by assumption) ?_
    rotate_left
    · (intro w hSw; (try dsimp only at hSw); go_simp <;> with_reducible rfl)
    try simp only [Act.put, List.setIfInBounds_toArray, List.set_cons_zero, List.set_cons_succ]
    refine wpAnyH_ready (rs := [12]) (by kernel_rfl) (by simp) ?_
    refine AllReadyH.cons (by simp only [List.getElem?_toArray, List.getElem?_cons_succ, List.getElem?_cons_zero]; rfl) (fun KK hK => ?_) AllReadyH.nil
    go_simp
    refine hK.out _ _ trivial (fun _ => ?_)
    clear hK KK
    try simp only [Act.put, List.setIfInBounds_toArray, List.set_cons_zero, List.set_cons_succ]
    refine wpAnyH_done (by kernel_rfl) ?_ _
    clear hz kz zz ho9 hg9 hat9 HT k8 u8 ho7 u7
    go_wp2_with fail
    go_end0
    exact ⟨by first | rfl | (simp; done), H9.out⟩
  · skip
    go_simp
    have u5 : Up w3 (wd.alloc (Obj.cells #[] 3)) := ud.alloc _
    have k5 : (wd.alloc (Obj.cells #[] 3)).heap[wd.heap.size]? = some (.cells #[] 3 (0, 0)) := heap_alloc_new wd _
    have z5 := ud.size
    obtain ⟨ge, hge⟩ : ∃ ge, ge = wd.heap.size := ⟨_, rfl⟩
    rw [← hge] at k5 z5 ⊢
    clear hge
    generalize World.alloc wd _ = w5 at u5 k5 ⊢
    refine hK.out _ _ trivial (fun _ => ?_)
    clear hK KK
    try simp only [Act.put, List.setIfInBounds_toArray, List.set_cons_zero, List.set_cons_succ]
    refine wpAnyH_ready (rs := [4, 7]) (by kernel_rfl) (by simp) ?_
    refine AllReadyH.cons (by simp only [List.getElem?_toArray, List.getElem?_cons_succ, List.getElem?_cons_zero]; rfl) (fun KK hK => ?_) (AllReadyH.cons (by simp only [List.getElem?_toArray, List.getElem?_cons_succ, List.getElem?_cons_zero]; rfl) (fun KK hK => ?_) AllReadyH.nil)
    · skip
      have k2 := HK2.out w5 u5
      go_simp
      refine hK.out _ _ trivial (fun _ => ?_)
      clear hK KK
      try simp only [Act.put, List.setIfInBounds_toArray, List.set_cons_zero, List.set_cons_succ]
      clear k2
      refine wpAnyH_ready (rs := [7]) (by kernel_rfl) (by simp) ?_
      refine AllReadyH.cons (by simp only [List.getElem?_toArray, List.getElem?_cons_succ, List.getElem?_cons_zero]; rfl) (fun KK hK => ?_) AllReadyH.nil
      rw [if_pos (by rfl)]
      refine wp_append_at _ _ _ 35 rfl w3.heap.size 3 Try.t3 (.int .i64 0) 1 8 Try.underlying35 hii rfl rfl rfl rfl (by decide) (.slice (some ⟨ge, 0, none⟩) 0 0) 0 [] rfl (own_of k5 z5 (Nat.le_refl _) (Nat.zero_le _) rfl rfl (fun k hk => by omega)) ⟨g, 0, none⟩ n n (nums ids) rfl HNl.out (fun j u hu => HLs.out w5 u5 j u hu) (nums_one ids) (by unfold maxLen; omega) (by omega) u5.size ?_
      intro v0 w7 ho7 hg7 hat7
      rw [Nat.zero_add, List.nil_append] at ho7
      obtain ⟨va0, vc0, rfl, _, _⟩ := own_slice ho7
      have u7 : Up w3 w7 := ⟨hg7.os.trans u5.os, hg7.output.trans u5.output, Nat.le_trans u5.size hg7.size, fun b hb => (hg7.block b (Nat.lt_of_lt_of_le hb u5.size) (fun e => by injection e with e; have e : b = ge := e; omega)).trans (u5.block b hb)⟩
      clear hg7 hat7
      refine hK.out _ _ trivial (fun _ => ?_)
      clear hK KK
      try simp only [Act.put, List.setIfInBounds_toArray, List.set_cons_zero, List.set_cons_succ]
      refine wpAnyH_ready (rs := [8]) (by kernel_rfl) (by simp) ?_
      refine AllReadyH.cons (by simp only [List.getElem?_toArray, List.getElem?_cons_succ, List.getElem?_cons_zero]; rfl) (fun KK hK => ?_) AllReadyH.nil
      go_simp
      have u8 : Up w7 (w7.alloc (Obj.cells #[.slice va0 n vc0] 35)) := (Up.refl w7).alloc _
      have k8 : ∀ j u, [Value.slice va0 n vc0][j]? = some u → (w7.alloc (Obj.cells #[.slice va0 n vc0] 35)).cell? ((⟨w7.heap.size, 0, none⟩ : Addr).add j) = some u := cell_one_new _ _ _
      refine hK.out _ _ trivial (fun _ => ?_)
      clear hK KK
      try simp only [Act.put, List.setIfInBounds_toArray, List.set_cons_zero, List.set_cons_succ]
      refine wpAnyH_ready (rs := [9]) (by kernel_rfl) (by simp) ?_
      refine AllReadyH.cons (by simp only [List.getElem?_toArray, List.getElem?_cons_succ, List.getElem?_cons_zero]; rfl) (fun KK hK => ?_) AllReadyH.nil
      rw [if_pos (by rfl)]
      have HT := HTa.out w7 _ va0 vc0 u7 ho7 u8
      refine wp_append_at _ _ _ 49 rfl 0 35 Try.t35 (.slice none 0 0) 1 24 Try.underlying49 hil rfl rfl rfl rfl (by decide) (.slice xa na xc) na _ rfl HT.1 ⟨w7.heap.size, 0, none⟩ 1 1 [.slice va0 n vc0] rfl rfl k8 (by intro u hu; simp at hu; subst hu; rfl) (by unfold maxLen; omega) (by omega) (Nat.zero_le _) ?_
      intro v9 w9 ho9 hg9 hat9
      obtain ⟨va9, vc9, rfl, _, _⟩ := own_slice ho9
      have hz := HT.2 w9 _ hg9 ho9 hat9
      have H9 : Hid _ := hz.2
      have kz := hz.1.1
      have zz := hz.1.2
      refine hK.out _ _ trivial (fun _ => ?_)
      clear hK KK
      try simp only [Act.put, List.setIfInBounds_toArray, List.set_cons_zero, List.set_cons_succ]
      refine wpAnyH_take (i := 10) (v := ?_) (by simp only [List.getElem?_toArray, List.getElem?_cons_succ, List.getElem?_cons_zero]; rfl) (by kernel_rfl) (by kernel_rfl) (by kernel_rfl) (by intro _ _ _ h; exact h) (Or.inl ⟨by rfl, ?_⟩) (by assumption) ?_
      rotate_left
      · (intro w hSw; (try dsimp only at hSw); go_simp <;> with_reducible rfl)
      try simp only [Act.put, List.setIfInBounds_toArray, List.set_cons_zero, List.set_cons_succ]
      refine wpAnyH_take (i := 11) (v := ?_) (by simp only [List.getElem?_toArray, List.getElem?_cons_succ, List.getElem?_cons_zero]; rfl) (by kernel_rfl) (by kernel_rfl) (by kernel_rfl) (by intro _ _ _ h; exact h) (Or.inl ⟨by rfl, ?_⟩) (by assumption) ?_
      rotate_left
      · (intro w hSw; (try dsimp only at hSw); go_simp <;> with_reducible rfl)
      try simp only [Act.put, List.setIfInBounds_toArray, List.set_cons_zero, List.set_cons_succ]
      refine wpAnyH_ready (rs := [12]) (by kernel_rfl) (by simp) ?_
      refine AllReadyH.cons (by simp only [List.getElem?_toArray, List.getElem?_cons_succ, List.getElem?_cons_zero]; rfl) (fun KK hK => ?_) AllReadyH.nil
      go_simp
      refine hK.out _ _ trivial (fun _ => ?_)
      clear hK KK
      try simp only [Act.put, List.setIfInBounds_toArray, List.set_cons_zero, List.set_cons_succ]
      refine wpAnyH_done (by kernel_rfl) ?_ _
      clear hz kz zz ho9 hg9 hat9 HT k8 u8 ho7 u7
      go_wp2_with fail
      go_end0
      exact ⟨by first | rfl | (simp; done), H9.out⟩
    · skip
      rw [if_pos (by rfl)]
      refine wp_append_at _ _ _ 35 rfl w3.heap.size 3 Try.t3 (.int .i64 0) 1 8 Try.underlying35 hii rfl rfl rfl rfl (by decide) (.slice (some ⟨ge, 0, none⟩) 0 0) 0 [] rfl (own_of k5 z5 (Nat.le_refl _) (Nat.zero_le _) rfl rfl (fun k hk => by omega)) ⟨g, 0, none⟩ n n (nums ids) rfl HNl.out (fun j u hu => HLs.out w5 u5 j u hu) (nums_one ids) (by unfold maxLen; omega) (by omega) u5.size ?_
      intro v0 w7 ho7 hg7 hat7
      rw [Nat.zero_add, List.nil_append] at ho7
      obtain ⟨va0, vc0, rfl, _, _⟩ := own_slice ho7
      have u7 : Up w3 w7 := ⟨hg7.os.trans u5.os, hg7.output.trans u5.output, Nat.le_trans u5.size hg7.size, fun b hb => (hg7.block b (Nat.lt_of_lt_of_le hb u5.size) (fun e => by injection e with e; have e : b = ge := e; omega)).trans (u5.block b hb)⟩
      clear hg7 hat7
      refine hK.out _ _ trivial (fun _ => ?_)
      clear hK KK
      try simp only [Act.put, List.setIfInBounds_toArray, List.set_cons_zero, List.set_cons_succ]
      refine wpAnyH_ready (rs := [4, 8]) (by kernel_rfl) (by simp) ?_
      refine AllReadyH.cons (by simp only [List.getElem?_toArray, List.getElem?_cons_succ, List.getElem?_cons_zero]; rfl) (fun KK hK => ?_) (AllReadyH.cons (by simp only [List.getElem?_toArray, List.getElem?_cons_succ, List.getElem?_cons_zero]; rfl) (fun KK hK => ?_) AllReadyH.nil)
      · skip
        have k2 := HK2.out w7 u7
        go_simp
        refine hK.out _ _ trivial (fun _ => ?_)
        clear hK KK
        try simp only [Act.put, List.setIfInBounds_toArray, List.set_cons_zero, List.set_cons_succ]
        clear k2
        refine wpAnyH_ready (rs := [8]) (by kernel_rfl) (by simp) ?_
        refine AllReadyH.cons (by simp only [List.getElem?_toArray, List.getElem?_cons_succ, List.getElem?_cons_zero]; rfl) (fun KK hK => ?_) AllReadyH.nil
        go_simp
        have u8 : Up w7 (w7.alloc (Obj.cells #[.slice va0 n vc0] 35)) := (Up.refl w7).alloc _
        have k8 : ∀ j u, [Value.slice va0 n vc0][j]? = some u → (w7.alloc (Obj.cells #[.slice va0 n vc0] 35)).cell? ((⟨w7.heap.size, 0, none⟩ : Addr).add j) = some u := cell_one_new _ _ _
        refine hK.out _ _ trivial (fun _ => ?_)
        clear hK KK
        try simp only [Act.put, List.setIfInBounds_toArray, List.set_cons_zero, List.set_cons_succ]
        refine wpAnyH_ready (rs := [9]) (by kernel_rfl) (by simp) ?_
        refine AllReadyH.cons (by simp only [List.getElem?_toArray, List.getElem?_cons_succ, List.getElem?_cons_zero]; rfl) (fun KK hK => ?_) AllReadyH.nil
        rw [if_pos (by rfl)]
        have HT := HTa.out w7 _ va0 vc0 u7 ho7 u8
        refine wp_append_at _ _ _ 49 rfl 0 35 Try.t35 (.slice none 0 0) 1 24 Try.underlying49 hil rfl rfl rfl rfl (by decide) (.slice xa na xc) na _ rfl HT.1 ⟨w7.heap.size, 0, none⟩ 1 1 [.slice va0 n vc0] rfl rfl k8 (by intro u hu; simp at hu; subst hu; rfl) (by unfold maxLen; omega) (by omega) (Nat.zero_le _) ?_
        intro v9 w9 ho9 hg9 hat9
        obtain ⟨va9, vc9, rfl, _, _⟩ := own_slice ho9
        have hz := HT.2 w9 _ hg9 ho9 hat9
        have H9 : Hid _ := hz.2
        have kz := hz.1.1
        have zz := hz.1.2
        refine hK.out _ _ trivial (fun _ => ?_)
        clear hK KK
        try simp only [Act.put, List.setIfInBounds_toArray, List.set_cons_zero, List.set_cons_succ]
        refine wpAnyH_take (i := 10) (v := ?_) (by simp only [List.getElem?_toArray, List.getElem?_cons_succ, List.getElem?_cons_zero]; rfl) (by kernel_rfl) (by kernel_rfl) (by kernel_rfl) (by intro _ _ _ h; exact h) (Or.inl ⟨by rfl, ?_⟩) (by assumption) ?_
        rotate_left
        · (intro w hSw; (try dsimp only at hSw); go_simp <;> with_reducible rfl)
        try simp only [Act.put, List.setIfInBounds_toArray, List.set_cons_zero, List.set_cons_succ]
        refine wpAnyH_take (i := 11) (v := ?_) (by simp only [List.getElem?_toArray, List.getElem?_cons_succ, List.getElem?_cons_zero]; rfl) (by kernel_rfl) (by kernel_rfl) (by kernel_rfl) (by intro _ _ _ h; exact h) (Or.inl ⟨by rfl, ?_⟩) (by assumption) ?_
        rotate_left
        · (intro w hSw; (try dsimp only at hSw); go_simp <;> with_reducible rfl)
        try simp only [Act.put, List.setIfInBounds_toArray, List.set_cons_zero, List.set_cons_succ]
        refine wpAnyH_ready (rs := [12]) (by kernel_rfl) (by simp) ?_
        refine AllReadyH.cons (by simp only [List.getElem?_toArray, List.getElem?_cons_succ, List.getElem?_cons_zero]; rfl) (fun KK hK => ?_) AllReadyH.nil
        go_simp
        refine hK.out _ _ trivial (fun _ => ?_)
        clear hK KK
        try simp only [Act.put, List.setIfInBounds_toArray, List.set_cons_zero, List.set_cons_succ]
        refine wpAnyH_done (by kernel_rfl) ?_ _
        clear hz kz zz ho9 hg9 hat9 HT k8 u8 ho7 u7
        go_wp2_with fail
        go_end0
        exact ⟨by first | rfl | (simp; done), H9.out⟩
      · skip
        go_simp
        have u8 : Up w7 (w7.alloc (Obj.cells #[.slice va0 n vc0] 35)) := (Up.refl w7).alloc _
        have k8 : ∀ j u, [Value.slice va0 n vc0][j]? = some u → (w7.alloc (Obj.cells #[.slice va0 n vc0] 35)).cell? ((⟨w7.heap.size, 0, none⟩ : Addr).add j) = some u := cell_one_new _ _ _
        refine hK.out _ _ trivial (fun _ => ?_)
        clear hK KK
        try simp only [Act.put, List.setIfInBounds_toArray, List.set_cons_zero, List.set_cons_succ]
        refine wpAnyH_ready (rs := [4]) (by kernel_rfl) (by simp) ?_
        refine AllReadyH.cons (by simp only [List.getElem?_toArray, List.getElem?_cons_succ, List.getElem?_cons_zero]; rfl) (fun KK hK => ?_) AllReadyH.nil
        have k2 := HK2.out _ (u7.trans u8)
        go_simp
        refine hK.out _ _ trivial (fun _ => ?_)
        clear hK KK
        try simp only [Act.put, List.setIfInBounds_toArray, List.set_cons_zero, List.set_cons_succ]
        clear k2
        refine wpAnyH_ready (rs := [9]) (by kernel_rfl) (by simp) ?_
        refine AllReadyH.cons (by simp only [List.getElem?_toArray, List.getElem?_cons_succ, List.getElem?_cons_zero]; rfl) (fun KK hK => ?_) AllReadyH.nil
        rw [if_pos (by rfl)]
        have HT := HTa.out w7 _ va0 vc0 u7 ho7 u8
        refine wp_append_at _ _ _ 49 rfl 0 35 Try.t35 (.slice none 0 0) 1 24 Try.underlying49 hil rfl rfl rfl rfl (by decide) (.slice xa na xc) na _ rfl HT.1 ⟨w7.heap.size, 0, none⟩ 1 1 [.slice va0 n vc0] rfl rfl k8 (by intro u hu; simp at hu; subst hu; rfl) (by unfold maxLen; omega) (by omega) (Nat.zero_le _) ?_
        intro v9 w9 ho9 hg9 hat9
        obtain ⟨va9, vc9, rfl, _, _⟩ := own_slice ho9
        have hz := HT.2 w9 _ hg9 ho9 hat9
        have H9 : Hid _ := hz.2
        have kz := hz.1.1
        have zz := hz.1.2
        refine hK.out _ _ trivial (fun _ => ?_)
        clear hK KK
        try simp only [Act.put, List.setIfInBounds_toArray, List.set_cons_zero, List.set_cons_succ]
        refine wpAnyH_take (i := 10) (v := ?_) (by simp only [List.getElem?_toArray, List.getElem?_cons_succ, List.getElem?_cons_zero]; rfl) (by kernel_rfl) (by kernel_rfl) (by kernel_rfl) (by intro _ _ _ h; exact h) (Or.inl ⟨by rfl, ?_⟩) (by assumption) ?_
        rotate_left
        · (intro w hSw; (try dsimp only at hSw); go_simp <;> with_reducible rfl)
        try simp only [Act.put, List.setIfInBounds_toArray, List.set_cons_zero, List.set_cons_succ]
        refine wpAnyH_take (i := 11) (v := ?_) (by simp only [List.getElem?_toArray, List.getElem?_cons_succ, List.getElem?_cons_zero]; rfl) (by kernel_rfl) (by kernel_rfl) (by kernel_rfl) (by intro _ _ _ h; exact h) (Or.inl ⟨by rfl, ?_⟩) (by assumption) ?_
        rotate_left
        · (intro w hSw; (try dsimp only at hSw); go_simp <;> with_reducible rfl)
        try simp only [Act.put, List.setIfInBounds_toArray, List.set_cons_zero, List.set_cons_succ]
        refine wpAnyH_ready (rs := [12]) (by kernel_rfl) (by simp) ?_
        refine AllReadyH.cons (by simp only [List.getElem?_toArray, List.getElem?_cons_succ, List.getElem?_cons_zero]; rfl) (fun KK hK => ?_) AllReadyH.nil
        go_simp
        refine hK.out _ _ trivial (fun _ => ?_)
        clear hK KK
        try simp only [Act.put, List.setIfInBounds_toArray, List.set_cons_zero, List.set_cons_succ]
        refine wpAnyH_done (by kernel_rfl) ?_ _
        clear hz kz zz ho9 hg9 hat9 HT k8 u8 ho7 u7
        go_wp2_with fail
        go_end0
        exact ⟨by first | rfl | (simp; done), H9.out⟩
end Go.Proofs.Ytakciepfckdpfaa
