import Derived.Test.YtmjfccdhjhkocaaMgG
import Derived.Maps.AppendAt
/- PpuCut: a list goes into the book. -/
namespace Go.Proofs.Ytmjfccdhjhkocaa
open Go.RowKit
set_option linter.unusedVariables false
variable {b : Nat} {p : Pic}
theorem wp_append_at {P : Program} (w : World) {o : Oper} {a : Act} {K : Act → World → Prop} {Q : Exit → Act → World → Prop} (s x : Operand) (t : TypeId)
    (ho : o.op = .call { callee := .builtin .append, args := #[s, x], argTypes := #[t, t] })
    (base : Nat) (e : TypeId) (i : TypeInfo) (z : Value) (size bytes : Nat) (ht : P.underlying t = some (.slice e)) (hi : P.info? e = some i) (hz : i.zero = some z)
    (hsize : i.size = size) (hby : i.bytes = bytes) (hzs : z.cells.size = size) (hsz : 0 < size)
    (v : Value) (n : Nat) (xs : List Value) (hs : a.eval s = v) (hown : w.ownsRow base e size v n xs)
    (ad : Addr) (m c : Nat) (news : List Value) (hx : a.eval x = .slice (some ad) m c) (hl : news.length = m * size) (hnews : ∀ j u, news[j]? = some u → w.cell? (ad.add j) = some u) (h1 : ∀ u ∈ news, u.oneCell' = true)
    (h63 : n + m ≤ maxLen) (hbytes : (n + m) * bytes ≤ 140737488355328) (hbase : base ≤ w.heap.size)
    (h : ∀ v' w', w'.ownsRow base e size v' (n + m) (xs ++ news) → w.grownBy w' v.ownBlock → (v'.ownBlock = v.ownBlock ∨ v'.ownBlock = some w.heap.size) → K (a.put o.dst v') w') : o.wp P a w K Q := by
  obtain ⟨v', w', hr, h2, h3, _, h5⟩ := run_append_own_at (P := P) w base t o.type e i z size bytes ht hi hz hsize hby hzs hsz v n xs hown ad m c news hl hnews h1 h63 hbytes hbase
  unfold Oper.wp execOp
  simp only [ho, resolve, invoke, builtin, Sem.run_bind, Sem.run_pure, Result.andThen_ok, List.map_toArray, List.map_cons, List.map_nil, hs, hx, hr]
  exact h v' w' h2 h3 h5
/-- the book behind an append, before its own cell is written -/
theorem BkV.grow {K : Nat → Prop} {bk n : Nat} {v v' : Value} {xs ys : List Value} {w w' : World} (h : BkV K bk n v xs w) (g : w.grownBy w' v.ownBlock) (o : w'.ownsRow (bk + 1) 85 5 v' (n + 1) (xs ++ ys)) (hat : v'.ownBlock = v.ownBlock ∨ v'.ownBlock = some w.heap.size) :
    w'.heap[bk]? = some (.cells #[v] 66 (0, 0)) ∧ (∀ b, v'.ownBlock = some b → (b < w.heap.size → ¬ K b)) ∧ (∀ b, b < w.heap.size → K b → w'.heap[b]? = w.heap[b]?) := by
  refine ⟨(g.block bk (Array.getElem?_eq_some_iff.1 h.blk).1 (fun e => ?_)).trans h.blk, fun b hb hlt hk => ?_, fun b hb hk => g.block b hb (fun e => h.no b e.symm hk)⟩
  · have := (h.own.lt bk e.symm).1
    omega
  · rcases hat with e | e
    · exact h.no b (e ▸ hb) hk
    · rw [e] at hb
      have := Option.some.inj hb
      omega
theorem Mk.grow {K1 K2 : Nat → Prop} {w w' : World} {m : Nat} {u : Value} (h : Mk K1 w m u) (hk : ∀ b, b < w.heap.size → K2 b → K1 b) (hb : ∀ b, b < w.heap.size → ¬ K1 b → w'.heap[b]? = w.heap[b]?) : Mk K2 w' m u := by
  obtain ⟨aa, ab, ao, n, c, e, B, k⟩ := h
  refine ⟨aa, ab, ao, n, c, e, ⟨B.lc, B.cm, B.ad, B.u8, fun i hi => ?_⟩, fun h0 h1 => k h0 (hk ab (World.block_lt_of_cell? _ _ (B.cell 0 h0)) h1)⟩
  have hlt := World.block_lt_of_cell? _ _ (B.cell i hi)
  rw [← B.cell i hi]
  have e2 : w'.heap[ab]? = w.heap[ab]? := hb ab hlt (k (by omega))
  unfold World.cell?
  simp only [e2]
theorem Ent.grow {K1 K2 : Nat → Prop} {w w' : World} {xs : List Value} {j : Nat} (h : Ent K1 w xs j) (hk : ∀ b, b < w.heap.size → K2 b → K1 b) (hb : ∀ b, b < w.heap.size → ¬ K1 b → w'.heap[b]? = w.heap[b]?) : Ent K2 w' xs j := by
  obtain ⟨v0, v1, v2, v3, h0, h1, h2, h3, h4, m0, m1, m2, m3⟩ := h
  exact ⟨v0, v1, v2, v3, h0, h1, h2, h3, h4, m0.grow hk hb, m1.grow hk hb, m2.grow hk hb, m3.grow hk hb⟩
/-- .. and behind the write -/
theorem BkV.last {K : Nat → Prop} {bk n : Nat} {v v' u0 u1 u2 u3 : Value} {xs : List Value} {w w' : World} (h : BkV K bk n v xs w) (hn : n < 8) (g : w.grownBy w' v.ownBlock) (o : w'.ownsRow (bk + 1) 85 5 v' (n + 1) (xs ++ [u0, u1, u2, u3, .int .i64 n])) (hat : v'.ownBlock = v.ownBlock ∨ v'.ownBlock = some w.heap.size) (hK : ∀ b, K b → b < w.heap.size)
    (m0 : Mk (fun b => K b ∨ b = bk ∨ v.ownBlock = some b) w n u0) (m1 : Mk (fun b => K b ∨ b = bk ∨ v.ownBlock = some b) w n u1) (m2 : Mk (fun b => K b ∨ b = bk ∨ v.ownBlock = some b) w n u2) (m3 : Mk (fun b => K b ∨ b = bk ∨ v.ownBlock = some b) w n u3) (ho : ∀ u ∈ [u0, u1, u2, u3, .int .i64 n], u.oneCell' = true) :
    BkV K bk (n + 1) v' (xs ++ [u0, u1, u2, u3, .int .i64 n]) (w'.setCell ⟨bk, 0, none⟩ v') ∧ FK K w (w'.setCell ⟨bk, 0, none⟩ v') := by
  obtain ⟨g1, g2, g3⟩ := h.grow g o hat
  have fs : Fr bk w' (w'.setCell ⟨bk, 0, none⟩ v') := (Fr.refl bk w').setCell
  have nb : v'.ownBlock ≠ some bk := fun e => by have := (o.lt bk e).1; omega
  have hl := h.own.1
  have gk : ∀ b, b < w.heap.size → (K b ∨ b = bk ∨ v'.ownBlock = some b) → (K b ∨ b = bk ∨ v.ownBlock = some b) := fun b hb e => by
    rcases e with e | e | e
    · exact Or.inl e
    · exact Or.inr (Or.inl e)
    · rcases hat with q | q
      · exact Or.inr (Or.inr (q ▸ e))
      · rw [q] at e
        have := Option.some.inj e
        omega
  have gb : ∀ b, b < w.heap.size → ¬ (K b ∨ b = bk ∨ v.ownBlock = some b) → (w'.setCell ⟨bk, 0, none⟩ v').heap[b]? = w.heap[b]? := fun b hb e =>
    (fs.block b (Nat.lt_of_lt_of_le hb g.size) (fun q => e (Or.inr (Or.inl q)))).trans (g.block b hb (fun q => e (Or.inr (Or.inr q.symm))))
  refine ⟨⟨?_, ownsRow_fr o fs nb, h.nk, fun b hb hk => g2 b hb (hK b hk) hk, fun u hu => ?_, by omega, fun j hj => ?_⟩, ⟨fs.os.trans g.os, fs.output.trans g.output, Nat.le_trans g.size fs.size, fun b hb hk => (fs.block b (Nat.lt_of_lt_of_le hb g.size) (fun q => h.nk (q ▸ hk))).trans (g3 b hb hk)⟩⟩
  · exact heap_setCell_same w' bk 0 _ _ v' g1
  · rcases List.mem_append.1 hu with hu | hu
    · exact h.one u hu
    · exact ho u hu
  · by_cases hj2 : j < n
    · exact ((h.ent j hj2).grow gk gb).app
    · obtain rfl : j = n := by omega
      have f : ∀ i, (xs ++ [u0, u1, u2, u3, .int .i64 j])[j * 5 + i]? = [u0, u1, u2, u3, .int .i64 (j : Int)][i]? := fun i => by
        rw [List.getElem?_append_right (by omega), hl, show j * 5 + i - j * 5 = i by omega]
      exact ⟨u0, u1, u2, u3, f 0, f 1, f 2, f 3, f 4, m0.grow gk gb, m1.grow gk gb, m2.grow gk gb, m3.grow gk gb⟩
set_option maxRecDepth 100000 in
set_option maxHeartbeats 2000000 in
theorem byte_any {K : Nat → Prop} {bk n g L : Nat} {F : Nat → Int} {W : World} (h : Bk K bk n W) (hl : NmAt W g L F) (hF : ∀ k, 0 ≤ F k ∧ F k ≤ 255) (hL : L ≤ 65536) (hg : K g) (hK : ∀ b, K b → b < W.heap.size) : Calls Try.prog 66 #[.pointer (some ⟨bk, 0, none⟩), .slice (some ⟨g, 0, none⟩) L L] W fun e w' => e = .returned (.tuple #[]) ∧ ∃ n', Bk (fun b => K b ∧ b ≠ g) bk n' w' ∧ FK (fun b => K b ∧ b ≠ g) W w' := by
  obtain ⟨v, xs, h⟩ := h
  have hn8 := h.n8
  obtain ⟨va, vc, rfl, hc1, hc2⟩ := own_slice h.own
  have kb : W.cell? ⟨bk, 0, none⟩ = some (.slice va n vc) := by rw [cell_of_row _ _ _ _ _ _ h.blk]; rfl
  have HB : Hid (BkV K bk n (.slice va n vc) xs W) := h
  have HO : Hid _ := ownBytes_any (m := n) hl hF hL (by omega)
  have HG : Hid (K g ∧ g < W.heap.size) := ⟨hg, hl.lt⟩
  have l2 : vc ≤ 9223372036854775807 := by unfold maxLen at hc2; omega
  have hie : Try.prog.info? 85 = some Try.t85 := by kernel_rfl
  clear h hl
  go_enter Try.func66, Try.ntmps66
  go_wp2_with fail
  refine Calls.mono HO.out ?_
  rintro e w1 ⟨v1, v2, v3, rfl, f1, n1, m1⟩
  obtain ⟨q1, q2, q3⟩ := m1 (fun b => (K b ∧ b ≠ g) ∨ b = bk ∨ (Value.slice va n vc).ownBlock = some b) (fun b hb => by
    rcases hb with hb | hb | hb
    · exact hK b hb.1
    · have := (Array.getElem?_eq_some_iff.1 HB.out.blk).1
      omega
    · exact (HB.out.own.lt b hb).2)
  have H1 : Hid (BkV K bk n (.slice va n vc) xs w1 ∧ Mk (fun b => (K b ∧ b ≠ g) ∨ b = bk ∨ (Value.slice va n vc).ownBlock = some b) w1 n v1 ∧ Mk (fun b => (K b ∧ b ≠ g) ∨ b = bk ∨ (Value.slice va n vc).ownBlock = some b) w1 n v2 ∧ Mk (fun b => (K b ∧ b ≠ g) ∨ b = bk ∨ (Value.slice va n vc).ownBlock = some b) w1 n v3 ∧ Fr g W w1 ∧ NmAt w1 g L (fun _ => (n : Int))) := ⟨HB.out.fr f1 HG.out.1, q1, q2, q3, f1, n1⟩
  obtain ⟨a1, _, _, x1, c1, rfl, _⟩ := q1
  obtain ⟨a2, _, _, x2, c2, rfl, _⟩ := q2
  obtain ⟨a3, _, _, x3, c3, rfl, _⟩ := q3
  have HL : Hid (Mk (fun b => (K b ∧ b ≠ g) ∨ b = bk ∨ (Value.slice va n vc).ownBlock = some b) w1 n (.slice (some ⟨g, 0, none⟩) L L)) := ⟨some ⟨g, 0, none⟩, g, 0, L, L, rfl, n1.bytsP L L (Nat.le_refl _) (Nat.le_refl _) (by unfold maxLen; omega) (fun _ => ⟨by omega, by omega⟩), fun _ e => by
    rcases e with e | e | e
    · exact e.2 rfl
    · exact HB.out.nk (e ▸ HG.out.1)
    · exact HB.out.no g e HG.out.1⟩
  have HKs : Hid (∀ b, K b ∧ b ≠ g → b < w1.heap.size) := fun b hb => Nat.lt_of_lt_of_le (hK b hb.1) f1.size
  clear f1 n1 m1 HO HB kb hK
  have kb1 : w1.cell? ⟨bk, 0, none⟩ = some (.slice va n vc) := by rw [cell_of_row _ _ _ _ _ _ H1.out.1.blk]; rfl
  have hlk : ∀ o, (w1.alloc o).cell? ⟨bk, 0, none⟩ = some (.slice va n vc) := fun o => by rw [World.cell?_alloc_lt _ _ _ (World.block_lt_of_cell? _ _ kb1)]; exact kb1
  have HA : Hid (Up w1 (w1.alloc (Obj.cells #[.slice (some ⟨g, 0, none⟩) L L, .slice a1 x1 c1, .slice a2 x2 c2, .slice a3 x3 c3, .int .i64 n] 85))) := (Up.refl w1).alloc _
  by_cases hlt : n < 8
  · have d1 : decide ((n : Int) < 8) = true := decide_eq_true (by omega)
    go_wp2_with fail
    have H2 : Hid (Up w1 (w1.alloc (Obj.cells #[.slice (some ⟨g, 0, none⟩) L L, .slice a1 x1 c1, .slice a2 x2 c2, .slice a3 x3 c3, .int .i64 n] 85)) ∧ (w1.alloc (Obj.cells #[.slice (some ⟨g, 0, none⟩) L L, .slice a1 x1 c1, .slice a2 x2 c2, .slice a3 x3 c3, .int .i64 n] 85)).heap[w1.heap.size]? = some (.cells #[.slice (some ⟨g, 0, none⟩) L L, .slice a1 x1 c1, .slice a2 x2 c2, .slice a3 x3 c3, .int .i64 n] 85 (0, 0))) := ⟨HA.out, heap_alloc_new w1 _⟩
    have HXB : Hid (bk < w1.heap.size) := World.block_lt_of_cell? _ _ kb1
    clear hlk HA
    generalize World.alloc w1 _ = w2 at H2 ⊢
    generalize hxb : w1.heap.size = xb at H2 HXB ⊢
    have HS : Hid (∀ w' : World, w'.heap[xb]? = some (.cells #[.slice (some ⟨g, 0, none⟩) L L, .slice a1 x1 c1, .slice a2 x2 c2, .slice a3 x3 c3, .int .i64 n] 85 (0, 0)) → (fun w : World => w.cell? ⟨xb, 0, none⟩ = some (.slice (some ⟨g, 0, none⟩) L L) ∧ w.cell? ⟨xb, 1, none⟩ = some (.slice a1 x1 c1) ∧ w.cell? ⟨xb, 2, none⟩ = some (.slice a2 x2 c2) ∧ w.cell? ⟨xb, 3, none⟩ = some (.slice a3 x3 c3) ∧ w.cell? ⟨xb, 4, none⟩ = some (.int .i64 n)) w') := fun w' h => by
      refine ⟨?_, ?_, ?_, ?_, ?_⟩ <;> (rw [cell_of_row _ _ _ _ _ _ h]; rfl)
    have HS2 : Hid (∀ w', Up w2 w' → (fun w : World => w.cell? ⟨xb, 0, none⟩ = some (.slice (some ⟨g, 0, none⟩) L L) ∧ w.cell? ⟨xb, 1, none⟩ = some (.slice a1 x1 c1) ∧ w.cell? ⟨xb, 2, none⟩ = some (.slice a2 x2 c2) ∧ w.cell? ⟨xb, 3, none⟩ = some (.slice a3 x3 c3) ∧ w.cell? ⟨xb, 4, none⟩ = some (.int .i64 n)) w') := fun w' u => HS.out w' ((u.block xb (Array.getElem?_eq_some_iff.1 H2.out.2).1).trans H2.out.2)
    have HKB : Hid (∀ w', Up w2 w' → w'.cell? ⟨bk, 0, none⟩ = some (.slice va n vc)) := fun w' u => by
      rw [(H2.out.1.trans u).cell (World.block_lt_of_cell? _ _ kb1)]
      exact kb1
    clear kb1
    refine wp_region_held_drew (S := fun w : World => w.cell? ⟨xb, 0, none⟩ = some (.slice (some ⟨g, 0, none⟩) L L) ∧ w.cell? ⟨xb, 1, none⟩ = some (.slice a1 x1 c1) ∧ w.cell? ⟨xb, 2, none⟩ = some (.slice a2 x2 c2) ∧ w.cell? ⟨xb, 3, none⟩ = some (.slice a3 x3 c3) ∧ w.cell? ⟨xb, 4, none⟩ = some (.int .i64 n)) (by kernel_rfl) ?_ (fun hHeld => ?_)
    · exact HS2.out _ (Up.refl w2).drew
    refine wpAnyH_take (i := 0) (v := ?_) (by simp only [List.getElem?_toArray, List.getElem?_cons_zero]; rfl) (by kernel_rfl) (by kernel_rfl) (by kernel_rfl) (by intro _ _ _ h; exact h) (Or.inl ⟨by rfl, ?_⟩) (by assumption) ?_
    rotate_left
    · (intro w hSw; (try dsimp only at hSw); go_simp <;> with_reducible rfl)
    try simp only [Act.put, List.setIfInBounds_toArray, List.set_cons_zero, List.set_cons_succ]
    refine wpAnyH_take (i := 1) (v := ?_) (by simp only [List.getElem?_toArray, List.getElem?_cons_succ, List.getElem?_cons_zero]; rfl) (by kernel_rfl) (by kernel_rfl) (by kernel_rfl) (by intro _ _ _ h; exact h) (Or.inl ⟨by rfl, ?_⟩) (by assumption) ?_
    rotate_left
    · (intro w hSw; (try dsimp only at hSw); go_simp <;> with_reducible rfl)
    try simp only [Act.put, List.setIfInBounds_toArray, List.set_cons_zero, List.set_cons_succ]
    refine wpAnyH_take (i := 2) (v := ?_) (by simp only [List.getElem?_toArray, List.getElem?_cons_succ, List.getElem?_cons_zero]; rfl) (by kernel_rfl) (by kernel_rfl) (by kernel_rfl) (by intro _ _ _ h; exact h) (Or.inl ⟨by rfl, ?_⟩) (by assumption) ?_
    rotate_left
    · (intro w hSw; (try dsimp only at hSw); go_simp <;> with_reducible rfl)
    try simp only [Act.put, List.setIfInBounds_toArray, List.set_cons_zero, List.set_cons_succ]
    refine wpAnyH_take (i := 3) (v := ?_) (by simp only [List.getElem?_toArray, List.getElem?_cons_succ, List.getElem?_cons_zero]; rfl) (by kernel_rfl) (by kernel_rfl) (by kernel_rfl) (by intro _ _ _ h; exact h) (Or.inl ⟨by rfl, ?_⟩) (by assumption) ?_
    rotate_left
    · (intro w hSw; (try dsimp only at hSw); go_simp <;> with_reducible rfl)
    try simp only [Act.put, List.setIfInBounds_toArray, List.set_cons_zero, List.set_cons_succ]
    refine wpAnyH_take (i := 5) (v := ?_) (by simp only [List.getElem?_toArray, List.getElem?_cons_succ, List.getElem?_cons_zero]; rfl) (by kernel_rfl) (by kernel_rfl) (by kernel_rfl) (by intro _ _ _ h; exact h) (Or.inl ⟨by rfl, ?_⟩) (by assumption) ?_
    rotate_left
    · (intro w hSw; (try dsimp only at hSw); go_simp <;> with_reducible rfl)
    try simp only [Act.put, List.setIfInBounds_toArray, List.set_cons_zero, List.set_cons_succ]
    generalize hw3 : World.drew _ = w3 at hHeld ⊢
    have u3 : Up w2 w3 := by rw [← hw3]; exact (Up.refl w2).drew
    clear hw3
    have kb3 := HKB.out w3 u3
    refine wpAnyH_ready (rs := [4, 6]) (by kernel_rfl) (by simp) ?_
    refine AllReadyH.cons (by simp only [List.getElem?_toArray, List.getElem?_cons_succ, List.getElem?_cons_zero]; rfl) (fun KK hK => ?_) ?_
    · go_simp
      refine hK.out _ _ (HS2.out _ u3) (fun _ => ?_)
      clear hK KK
      try simp only [Act.put, List.setIfInBounds_toArray, List.set_cons_zero, List.set_cons_succ]
      refine wpAnyH_ready (rs := [6]) (by kernel_rfl) (by simp) ?_
      refine AllReadyH.cons (by simp only [List.getElem?_toArray, List.getElem?_cons_succ, List.getElem?_cons_zero]; rfl) (fun KK hK => ?_) AllReadyH.nil
      go_simp
      have u4 : Up w2 (w3.alloc (Obj.cells #[.slice (some ⟨g, 0, none⟩) L L, .slice a1 x1 c1, .slice a2 x2 c2, .slice a3 x3 c3, .int .i64 n] 85)) := u3.alloc _
      have kn : (w3.alloc (Obj.cells #[.slice (some ⟨g, 0, none⟩) L L, .slice a1 x1 c1, .slice a2 x2 c2, .slice a3 x3 c3, .int .i64 n] 85)).heap[w3.heap.size]? = some (.cells #[.slice (some ⟨g, 0, none⟩) L L, .slice a1 x1 c1, .slice a2 x2 c2, .slice a3 x3 c3, .int .i64 n] 85 (0, 0)) := heap_alloc_new w3 _
      generalize World.alloc w3 _ = w4 at u4 kn ⊢
      generalize w3.heap.size = nb at kn ⊢
      refine hK.out _ _ (HS2.out _ u4) (fun _ => ?_)
      clear hK KK kb3 hHeld
      try simp only [Act.put, List.setIfInBounds_toArray, List.set_cons_zero, List.set_cons_succ]
      refine wpAnyH_ready (rs := [7]) (by kernel_rfl) (by simp) ?_
      refine AllReadyH.cons (by simp only [List.getElem?_toArray, List.getElem?_cons_succ, List.getElem?_cons_zero]; rfl) (fun KK hK => ?_) AllReadyH.nil
      rw [if_pos (by rfl)]
      refine wp_append_at _ _ _ 64 rfl (bk + 1) 85 Try.t85 (.agg zB) 5 104 Try.underlying64 hie rfl rfl rfl rfl (by decide) (.slice va n vc) n xs rfl (ownsRow_up H1.out.1.own (H2.out.1.trans u4)) ⟨nb, 0, none⟩ 1 1 [.slice (some ⟨g, 0, none⟩) L L, .slice a1 x1 c1, .slice a2 x2 c2, .slice a3 x3 c3, .int .i64 n] rfl rfl ?c1 ?c2 ?c3 ?c4 ?c5 ?_
      case c1 =>
        intro j u hu
        rw [Addr.add_lit, Nat.zero_add, cell_of_row _ _ _ _ _ _ kn]
        simpa using hu
      case c2 =>
        intro u hu
        simp at hu
        rcases hu with rfl | rfl | rfl | rfl | rfl <;> rfl
      case c3 => unfold maxLen; omega
      case c4 => omega
      case c5 => have := HXB.out; have := (Array.getElem?_eq_some_iff.1 H2.out.2).1; have := u4.size; omega
      intro v' w5 ho5 hg5 hat
      obtain ⟨va', vc', rfl, hcc1, hcc2⟩ := own_slice ho5
      have H6 : Hid _ := BkV.last ((H1.out.1.mono (K' := fun b => K b ∧ b ≠ g) (fun b _ hb => hb.1)).up (H2.out.1.trans u4)) hlt hg5 ho5 hat (fun b hb => Nat.lt_of_lt_of_le (HKs.out b hb) (H2.out.1.trans u4).size) (HL.out.up (H2.out.1.trans u4)) (H1.out.2.1.up (H2.out.1.trans u4)) (H1.out.2.2.1.up (H2.out.1.trans u4)) (H1.out.2.2.2.1.up (H2.out.1.trans u4)) (by intro u hu; simp at hu; rcases hu with rfl | rfl | rfl | rfl | rfl <;> rfl)
      have H5 : Hid _ := BkV.grow (H1.out.1.up (H2.out.1.trans u4)) hg5 ho5 hat
      have kb5 : w5.cell? ⟨bk, 0, none⟩ = some (.slice va n vc) := by rw [cell_of_row _ _ _ _ _ _ H5.out.1]; rfl
      have kf5 : w5.frozen? ⟨bk, 0, none⟩ = false := by have hq := H5.out.1; simp [World.frozen?, hq]
      have hx5 : w5.heap[xb]? = some (.cells #[.slice (some ⟨g, 0, none⟩) L L, .slice a1 x1 c1, .slice a2 x2 c2, .slice a3 x3 c3, .int .i64 n] 85 (0, 0)) := (hg5.block xb (Nat.lt_of_lt_of_le (Array.getElem?_eq_some_iff.1 H2.out.2).1 u4.size) (fun e => by have := (H1.out.1.own.lt xb e.symm).2; omega)).trans ((u4.block xb (Array.getElem?_eq_some_iff.1 H2.out.2).1).trans H2.out.2)
      have HX6 : Hid (∀ u, (w5.setCell ⟨bk, 0, none⟩ u).heap[xb]? = some (.cells #[.slice (some ⟨g, 0, none⟩) L L, .slice a1 x1 c1, .slice a2 x2 c2, .slice a3 x3 c3, .int .i64 n] 85 (0, 0))) := fun u => ((Fr.refl bk w5).setCell.block xb (Array.getElem?_eq_some_iff.1 hx5).1 (by have := HXB.out; omega)).trans hx5
      refine hK.out _ _ (HS.out _ hx5) (fun hHeld => ?_)
      clear hK KK
      try simp only [Act.put, List.setIfInBounds_toArray, List.set_cons_zero, List.set_cons_succ]
      refine wpAnyH_take (i := 8) (v := ?_) (by simp only [List.getElem?_toArray, List.getElem?_cons_succ, List.getElem?_cons_zero]; rfl) (by kernel_rfl) (by kernel_rfl) (by kernel_rfl) (by intro _ _ _ h; exact h) (Or.inl ⟨by rfl, ?_⟩) (by assumption) ?_
      rotate_left
      · (intro w hSw; (try dsimp only at hSw); go_simp <;> with_reducible rfl)
      try simp only [Act.put, List.setIfInBounds_toArray, List.set_cons_zero, List.set_cons_succ]
      refine wpAnyH_take (i := 9) (v := ?_) (by simp only [List.getElem?_toArray, List.getElem?_cons_succ, List.getElem?_cons_zero]; rfl) (by kernel_rfl) (by kernel_rfl) (by kernel_rfl) (by intro _ _ _ h; exact h) (Or.inl ⟨by rfl, ?_⟩) (by assumption) ?_
      rotate_left
      · (intro w hSw; (try dsimp only at hSw); go_simp <;> with_reducible rfl)
      try simp only [Act.put, List.setIfInBounds_toArray, List.set_cons_zero, List.set_cons_succ]
      refine wpAnyH_ready (rs := [10]) (by kernel_rfl) (by simp) ?_
      refine AllReadyH.cons (by simp only [List.getElem?_toArray, List.getElem?_cons_succ, List.getElem?_cons_zero]; rfl) (fun KK hK => ?_) AllReadyH.nil
      go_simp
      refine hK.out _ _ (HS.out _ (HX6.out _)) (fun _ => ?_)
      clear hK KK
      try simp only [Act.put, List.setIfInBounds_toArray, List.set_cons_zero, List.set_cons_succ]
      refine wpAnyH_done (by kernel_rfl) ?_ _
      go_wp2_with fail
      go_end0
      exact ⟨by first | rfl | (simp; done), ⟨n + 1, _, _, H6.out.1⟩, (FK.ofFr H1.out.2.2.2.2.1 (fun e => e.2 rfl)).trans ((FK.ofUp (H2.out.1.trans u4)).trans H6.out.2)⟩
    · refine AllReadyH.cons (by simp only [List.getElem?_toArray, List.getElem?_cons_succ, List.getElem?_cons_zero]; rfl) (fun KK hK => ?_) AllReadyH.nil
      go_simp
      have u4 : Up w2 (w3.alloc (Obj.cells #[.slice (some ⟨g, 0, none⟩) L L, .slice a1 x1 c1, .slice a2 x2 c2, .slice a3 x3 c3, .int .i64 n] 85)) := u3.alloc _
      have kn : (w3.alloc (Obj.cells #[.slice (some ⟨g, 0, none⟩) L L, .slice a1 x1 c1, .slice a2 x2 c2, .slice a3 x3 c3, .int .i64 n] 85)).heap[w3.heap.size]? = some (.cells #[.slice (some ⟨g, 0, none⟩) L L, .slice a1 x1 c1, .slice a2 x2 c2, .slice a3 x3 c3, .int .i64 n] 85 (0, 0)) := heap_alloc_new w3 _
      generalize World.alloc w3 _ = w4 at u4 kn ⊢
      generalize w3.heap.size = nb at kn ⊢
      refine hK.out _ _ (HS2.out _ u4) (fun _ => ?_)
      clear hK KK kb3 hHeld
      try simp only [Act.put, List.setIfInBounds_toArray, List.set_cons_zero, List.set_cons_succ]
      have kb4 := HKB.out w4 u4
      refine wpAnyH_ready (rs := [4]) (by kernel_rfl) (by simp) ?_
      refine AllReadyH.cons (by simp only [List.getElem?_toArray, List.getElem?_cons_succ, List.getElem?_cons_zero]; rfl) (fun KK hK => ?_) AllReadyH.nil
      go_simp
      refine hK.out _ _ (HS2.out _ u4) (fun _ => ?_)
      clear hK KK kb4
      try simp only [Act.put, List.setIfInBounds_toArray, List.set_cons_zero, List.set_cons_succ]
      refine wpAnyH_ready (rs := [7]) (by kernel_rfl) (by simp) ?_
      refine AllReadyH.cons (by simp only [List.getElem?_toArray, List.getElem?_cons_succ, List.getElem?_cons_zero]; rfl) (fun KK hK => ?_) AllReadyH.nil
      rw [if_pos (by rfl)]
      refine wp_append_at _ _ _ 64 rfl (bk + 1) 85 Try.t85 (.agg zB) 5 104 Try.underlying64 hie rfl rfl rfl rfl (by decide) (.slice va n vc) n xs rfl (ownsRow_up H1.out.1.own (H2.out.1.trans u4)) ⟨nb, 0, none⟩ 1 1 [.slice (some ⟨g, 0, none⟩) L L, .slice a1 x1 c1, .slice a2 x2 c2, .slice a3 x3 c3, .int .i64 n] rfl rfl ?c1 ?c2 ?c3 ?c4 ?c5 ?_
      case c1 =>
        intro j u hu
        rw [Addr.add_lit, Nat.zero_add, cell_of_row _ _ _ _ _ _ kn]
        simpa using hu
      case c2 =>
        intro u hu
        simp at hu
        rcases hu with rfl | rfl | rfl | rfl | rfl <;> rfl
      case c3 => unfold maxLen; omega
      case c4 => omega
      case c5 => have := HXB.out; have := (Array.getElem?_eq_some_iff.1 H2.out.2).1; have := u4.size; omega
      intro v' w5 ho5 hg5 hat
      obtain ⟨va', vc', rfl, hcc1, hcc2⟩ := own_slice ho5
      have H6 : Hid _ := BkV.last ((H1.out.1.mono (K' := fun b => K b ∧ b ≠ g) (fun b _ hb => hb.1)).up (H2.out.1.trans u4)) hlt hg5 ho5 hat (fun b hb => Nat.lt_of_lt_of_le (HKs.out b hb) (H2.out.1.trans u4).size) (HL.out.up (H2.out.1.trans u4)) (H1.out.2.1.up (H2.out.1.trans u4)) (H1.out.2.2.1.up (H2.out.1.trans u4)) (H1.out.2.2.2.1.up (H2.out.1.trans u4)) (by intro u hu; simp at hu; rcases hu with rfl | rfl | rfl | rfl | rfl <;> rfl)
      have H5 : Hid _ := BkV.grow (H1.out.1.up (H2.out.1.trans u4)) hg5 ho5 hat
      have kb5 : w5.cell? ⟨bk, 0, none⟩ = some (.slice va n vc) := by rw [cell_of_row _ _ _ _ _ _ H5.out.1]; rfl
      have kf5 : w5.frozen? ⟨bk, 0, none⟩ = false := by have hq := H5.out.1; simp [World.frozen?, hq]
      have hx5 : w5.heap[xb]? = some (.cells #[.slice (some ⟨g, 0, none⟩) L L, .slice a1 x1 c1, .slice a2 x2 c2, .slice a3 x3 c3, .int .i64 n] 85 (0, 0)) := (hg5.block xb (Nat.lt_of_lt_of_le (Array.getElem?_eq_some_iff.1 H2.out.2).1 u4.size) (fun e => by have := (H1.out.1.own.lt xb e.symm).2; omega)).trans ((u4.block xb (Array.getElem?_eq_some_iff.1 H2.out.2).1).trans H2.out.2)
      have HX6 : Hid (∀ u, (w5.setCell ⟨bk, 0, none⟩ u).heap[xb]? = some (.cells #[.slice (some ⟨g, 0, none⟩) L L, .slice a1 x1 c1, .slice a2 x2 c2, .slice a3 x3 c3, .int .i64 n] 85 (0, 0))) := fun u => ((Fr.refl bk w5).setCell.block xb (Array.getElem?_eq_some_iff.1 hx5).1 (by have := HXB.out; omega)).trans hx5
      refine hK.out _ _ (HS.out _ hx5) (fun hHeld => ?_)
      clear hK KK
      try simp only [Act.put, List.setIfInBounds_toArray, List.set_cons_zero, List.set_cons_succ]
      refine wpAnyH_take (i := 8) (v := ?_) (by simp only [List.getElem?_toArray, List.getElem?_cons_succ, List.getElem?_cons_zero]; rfl) (by kernel_rfl) (by kernel_rfl) (by kernel_rfl) (by intro _ _ _ h; exact h) (Or.inl ⟨by rfl, ?_⟩) (by assumption) ?_
      rotate_left
      · (intro w hSw; (try dsimp only at hSw); go_simp <;> with_reducible rfl)
      try simp only [Act.put, List.setIfInBounds_toArray, List.set_cons_zero, List.set_cons_succ]
      refine wpAnyH_take (i := 9) (v := ?_) (by simp only [List.getElem?_toArray, List.getElem?_cons_succ, List.getElem?_cons_zero]; rfl) (by kernel_rfl) (by kernel_rfl) (by kernel_rfl) (by intro _ _ _ h; exact h) (Or.inl ⟨by rfl, ?_⟩) (by assumption) ?_
      rotate_left
      · (intro w hSw; (try dsimp only at hSw); go_simp <;> with_reducible rfl)
      try simp only [Act.put, List.setIfInBounds_toArray, List.set_cons_zero, List.set_cons_succ]
      refine wpAnyH_ready (rs := [10]) (by kernel_rfl) (by simp) ?_
      refine AllReadyH.cons (by simp only [List.getElem?_toArray, List.getElem?_cons_succ, List.getElem?_cons_zero]; rfl) (fun KK hK => ?_) AllReadyH.nil
      go_simp
      refine hK.out _ _ (HS.out _ (HX6.out _)) (fun _ => ?_)
      clear hK KK
      try simp only [Act.put, List.setIfInBounds_toArray, List.set_cons_zero, List.set_cons_succ]
      refine wpAnyH_done (by kernel_rfl) ?_ _
      go_wp2_with fail
      go_end0
      exact ⟨by first | rfl | (simp; done), ⟨n + 1, _, _, H6.out.1⟩, (FK.ofFr H1.out.2.2.2.2.1 (fun e => e.2 rfl)).trans ((FK.ofUp (H2.out.1.trans u4)).trans H6.out.2)⟩
  · have d1 : decide ((n : Int) < 8) = false := decide_eq_false (by omega)
    go_wp2_with fail
    go_end0
    refine ⟨by first | rfl | (simp; done), n, ⟨_, _, (H1.out.1.mono (fun b _ hb => hb.1)).up HA.out⟩, (FK.ofFr H1.out.2.2.2.2.1 (fun e => e.2 rfl)).trans (FK.ofUp HA.out)⟩
end Go.Proofs.Ytmjfccdhjhkocaa
/- PpuCut: the book is looked through; three answers go into it. -/
namespace Go.Proofs.Ytmjfccdhjhkocaa
open Go.RowKit
set_option linter.unusedVariables false
variable {b : Nat} {p : Pic}
set_option maxRecDepth 100000 in
set_option maxHeartbeats 2000000 in
theorem looks_any {K : Nat → Prop} {bk n : Nat} {W : World} (h : Bk K bk n W) : Calls Try.prog 41 #[.pointer (some ⟨bk, 0, none⟩)] W fun e w' => e = .returned (.bool true) ∧ Up W w' := by
  obtain ⟨v, xs, h⟩ := h
  have hn8 := h.n8
  obtain ⟨va, vc, rfl, hc1, hc2⟩ := own_slice h.own
  have l2 : vc ≤ 9223372036854775807 := by unfold maxLen at hc2; omega
  have HB : Hid (∀ w', Up W w' → BkV K bk n (.slice va n vc) xs w') := fun w' u => h.up u
  have H0 : Hid (Up W W) := Up.refl W
  clear h
  have HKB : Hid (∀ w', Up W w' → w'.cell? ⟨bk, 0, none⟩ = some (.slice va n vc)) := fun w' u => by rw [cell_of_row _ _ _ _ _ _ (HB.out w' u).blk]; rfl
  go_enter Try.func41, Try.ntmps41
  go_wp2_with fail
  go_loopw [3, 4, 5] (fun B I _ wr => ∃ i : Nat, i ≤ n ∧ B = .bool true ∧ I = .int .i64 i ∧ Hid (Up W wr)) (fun _ I _ _ => n - (intOf I).toNat)
  case atStart => exact ⟨0, by omega, rfl, rfl, H0⟩
  case round =>
    clear H0
    obtain ⟨i, hi, rfl, rfl, M0⟩ := hrel
    have kb := HKB.out wr M0.out
    by_cases hlt : i < n
    · have d1 : decide ((i : Int) < (n : Int)) = true := decide_eq_true (by omega)
      have e1 : (i : Int) < (n : Int) := by omega
      have hB := HB.out wr M0.out
      obtain ⟨gb, rfl⟩ : ∃ gb, va = some ⟨gb, 0, none⟩ := by
        rcases hB.own.2 with ⟨_, hn⟩ | ⟨gb, cap, cur, hv, _⟩
        · omega
        · cases hv
          exact ⟨gb, rfl⟩
      obtain ⟨v0, v1, v2, v3, h0, h1, h2, h3, h4, m0, m1, m2, m3⟩ := hB.ent i hlt
      have cc := hB.own.cells (g := gb) rfl
      have k0 : wr.cell? ⟨gb, i * 5, none⟩ = some v0 := by have := cc _ _ h0; rw [Addr.add_lit, Nat.zero_add] at this; exact this
      have k1 : wr.cell? ⟨gb, i * 5 + 1, none⟩ = some v1 := by have := cc _ _ h1; rw [Addr.add_lit, Nat.zero_add] at this; exact this
      have k2 : wr.cell? ⟨gb, i * 5 + 2, none⟩ = some v2 := by have := cc _ _ h2; rw [Addr.add_lit, Nat.zero_add] at this; exact this
      have k3 : wr.cell? ⟨gb, i * 5 + 3, none⟩ = some v3 := by have := cc _ _ h3; rw [Addr.add_lit, Nat.zero_add] at this; exact this
      have k4 : wr.cell? ⟨gb, i * 5 + 4, none⟩ = some (.int .i64 i) := by have := cc _ _ h4; rw [Addr.add_lit, Nat.zero_add] at this; exact this
      have HSt : Hid _ := still_any m0 m1 m2 m3 (by omega)
      clear hB h0 h1 h2 h3 h4 m0 m1 m2 m3 cc
      go_wp2_with fail
      refine Calls.mono HSt.out ?_
      rintro e w2 ⟨rfl, u2⟩
      have M2 : Hid (Up W w2) := M0.out.trans u2
      clear u2 M0 k0 k1 k2 k3 k4 kb
      go_wp2_with fail
      refine ⟨⟨i + 1, by omega, ?_, ?_, M2⟩, ?_⟩
      · first | rfl | (simp; done)
      · first | rfl | (simp; done)
      · simp [intOf]
        omega
    · have d1 : decide ((i : Int) < (n : Int)) = false := decide_eq_false (by omega)
      go_wp2_with fail
      go_ret
      exact ⟨by first | rfl | (simp; done), M0.out⟩
set_option maxRecDepth 100000 in
set_option maxHeartbeats 2000000 in
theorem three_any {K : Nat → Prop} {bk n ga gb gc : Nat} {F : Nat → Int} {S : ByteArray} {W : World} (h : Bk K bk n W) (ha : NmAt W ga 19887 F) (hb : NmAt W gb 19887 F) (hc : NmAt W gc 19887 F) (hF : ∀ k, 0 ≤ F k ∧ F k ≤ 255) (ka : K ga) (kb : K gb) (kc : K gc) (hab : gb ≠ ga) (hac : gc ≠ ga) (hbc : gc ≠ gb) (hK : ∀ b, K b → b < W.heap.size) (hS : S = strN 19887 F) :
    Calls Try.prog 57 #[.pointer (some ⟨bk, 0, none⟩), .slice (some ⟨ga, 0, none⟩) 19887 19887, .slice (some ⟨gb, 0, none⟩) 19887 19887, .slice (some ⟨gc, 0, none⟩) 19887 19887] W fun e w' => e = .returned (.bool true) ∧ ∃ n', Bk (fun b => ((K b ∧ b ≠ ga) ∧ b ≠ gb) ∧ b ≠ gc) bk n' w' ∧ FK (fun b => ((K b ∧ b ≠ ga) ∧ b ≠ gb) ∧ b ≠ gc) W w' := by
  have HC : Hid (∀ w g, NmAt w g 19887 F → (convert 23 9 (.slice (some ⟨g, 0, none⟩) 19887 19887)).run Try.prog w = .ok (.string S) w) := fun w g n => by rw [hS]; exact n.conv 19887
  have H0 : Hid (NmAt W gb 19887 F ∧ NmAt W gc 19887 F) := ⟨hb, hc⟩
  have H1 : Hid _ := byte_any h ha hF (by decide) ka hK
  have HG : Hid (gb < W.heap.size ∧ gc < W.heap.size) := ⟨hb.lt, hc.lt⟩
  have c0 := HC.out W gc hc
  clear h ha hb hc hS
  go_enter Try.func57, Try.ntmps57
  go_wp2_with fail
  refine Calls.mono H1.out ?_
  rintro e w1 ⟨rfl, n1, B1, f1⟩
  have N1 : Hid (NmAt w1 gb 19887 F ∧ NmAt w1 gc 19887 F) := ⟨H0.out.1.of_block (f1.block gb HG.out.1 ⟨kb, hab⟩), H0.out.2.of_block (f1.block gc HG.out.2 ⟨kc, hac⟩)⟩
  have F1 : Hid (FK (fun b => K b ∧ b ≠ ga) W w1) := f1
  have H2 : Hid _ := byte_any B1 N1.out.1 hF (by decide) ⟨kb, hab⟩ (fun b hb => Nat.lt_of_lt_of_le (hK b hb.1) f1.size)
  have c1 := HC.out w1 gb N1.out.1
  have c2 := HC.out w1 gc N1.out.2
  clear f1 B1 H1 H0 c0
  go_wp2_with fail
  refine Calls.mono H2.out ?_
  rintro e w2 ⟨rfl, n2, B2, f2⟩
  have z1 := F1.out.size
  have N2 : Hid (NmAt w2 gc 19887 F) := N1.out.2.of_block (f2.block gc N1.out.2.lt ⟨⟨kc, hac⟩, hbc⟩)
  have F2 : Hid (FK (fun b => (K b ∧ b ≠ ga) ∧ b ≠ gb) W w2) := (F1.out.mono (fun b _ hb => hb.1)).trans f2
  have H3 : Hid _ := byte_any B2 N2.out hF (by decide) ⟨⟨kc, hac⟩, hbc⟩ (fun b hb => Nat.lt_of_lt_of_le (hK b hb.1.1) F2.out.size)
  have c3 := HC.out w2 gc N2.out
  clear f2 B2 H2 c1 c2 z1 N1 F1
  go_wp2_with fail
  refine Calls.mono H3.out ?_
  rintro e w3 ⟨rfl, n3, B3, f3⟩
  have HE : Hid (∃ n', Bk (fun b => ((K b ∧ b ≠ ga) ∧ b ≠ gb) ∧ b ≠ gc) bk n' w3 ∧ FK (fun b => ((K b ∧ b ≠ ga) ∧ b ≠ gb) ∧ b ≠ gc) W w3) := ⟨n3, B3, (F2.out.mono (fun b _ hb => hb.1)).trans f3⟩
  clear f3 B3 H3 c3 F2 N2
  go_wp2_with fail
  go_ret
  exact ⟨by first | rfl | (simp; done), HE.out⟩
end Go.Proofs.Ytmjfccdhjhkocaa
