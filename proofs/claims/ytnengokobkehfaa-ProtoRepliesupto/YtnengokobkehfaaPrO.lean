/- Proto: a decoder, and what it is fed. -/
import Derived.Test.YtnengokobkehfaaPrL
import Derived.Test.YtnengokobkehfaaPrN
import Derived.Laws.AppendOwnNone
namespace Go.Proofs.Ytnengokobkehfaa
open Go.RowKit
set_option linter.unusedVariables false
variable {w w' W : World}
/-- bytes to be appended -/
def Src (w : World) (v : Value) (l : List Int) : Prop := (∃ ad c, v = .slice (some ad) l.length c ∧ ∀ k x, l[k]? = some x → w.cell? (ad.add k) = some (.int .u8 x)) ∨ (v = .slice none 0 0 ∧ l = [])
theorem Src.of_own {base : Nat} {v : Value} {l : List Int} (h : w.ownsRow base 5 1 v l.length (u8s l)) : Src w v l := by
  rcases own_cases h with ⟨h1, h2, h3⟩ | ⟨g, cap, h1, _⟩
  · exact Or.inr ⟨h1, List.length_eq_zero_iff.1 h2⟩
  · refine Or.inl ⟨⟨g, 0, none⟩, cap, h1, fun k x hk => ?_⟩
    rw [h1] at h
    have hlt := (List.getElem?_eq_some_iff.1 hk).1
    rw [addr_add]
    rw [own_cell h k (by omega)]
    exact u8s_at hk
theorem wpList_append_bytes {w : World} {ops : Array Oper} {rest : List Oper} {o : Oper} {a : Act} {Q : Exit → Act → World → Prop} (hgd : o.guard = none) (s x : Operand)
    (ho : o.op = .call { callee := .builtin .append, args := #[s, x], argTypes := #[22, 22] })
    (base : Nat) (v : Value) (xs : List Int) (hs : a.eval s = v) (hown : w.ownsRow base 5 1 v xs.length (u8s xs)) (vx : Value) (ys : List Int) (hx : a.eval x = vx) (hsrc : Src w vx ys)
    (h63 : xs.length + ys.length ≤ 4398046511104) (hbase : base ≤ w.heap.size)
    (h : ∀ v' w', w'.ownsRow base 5 1 v' (xs ++ ys).length (u8s (xs ++ ys)) → w.grownBy w' v.ownBlock → (v'.ownBlock = v.ownBlock ∨ v'.ownBlock = some w.heap.size) → wpList Try.prog ops Q rest (a.put o.dst v') w') :
    wpList Try.prog ops Q (o :: rest) a w := by
  rcases hsrc with ⟨ad, c, hv, hc⟩ | ⟨hv, hl⟩
  · subst hv
    refine wpList_append_own_at2 w hgd s x 22 22 ho base 5 Try.t5 (.int .u8 0) 1 1 Try.underlying22 Try.underlying22 (by kernel_rfl) rfl rfl rfl rfl (by decide) v xs.length (u8s xs) hs hown ad ys.length c (u8s ys) hx (by rw [u8s_len, Nat.mul_one]) (fun j u hj => ?_) (u8s_one ys) (by unfold maxLen; omega) (by omega) hbase (fun v' w' h1 h2 h3 => h v' w' ?_ h2 h3)
    · have hjl : j < ys.length := by have := (List.getElem?_eq_some_iff.1 hj).1; rwa [u8s_len] at this
      rw [u8s_at (List.getElem?_eq_getElem hjl)] at hj
      injection hj with hj
      rw [← hj]
      exact hc j _ (List.getElem?_eq_getElem hjl)
    · rw [u8s_append, List.length_append]
      exact h1
  · subst hv hl
    refine wpList_append_own_none hgd s x 22 ho base 5 Try.t5 1 Try.underlying22 (by kernel_rfl) v xs.length (u8s xs) hs hown hx (h v w ?_ ⟨rfl, rfl, rfl, Nat.le_refl _, fun _ _ _ => rfl⟩ (Or.inl rfl))
    rw [List.append_nil]
    exact hown
/-- a list of bytes as a function -/
def fn (l : List Int) : Nat → Int := fun k => l.getD k 0
theorem fn_at {l : List Int} {k : Nat} {x : Int} (h : l[k]? = some x) : fn l k = x := by unfold fn; rw [List.getD_eq_getElem?_getD, h]; rfl
theorem fn_u8 {l : List Int} (h : L8 l) : F8 (fn l) := by
  intro k
  unfold fn
  rw [List.getD_eq_getElem?_getD]
  cases hk : l[k]? with
  | none => exact ⟨by decide, by decide⟩
  | some x => exact h x (List.mem_of_getElem? hk)
theorem bl_fn (l : List Int) (o n : Nat) (h : o + n ≤ l.length) : bl (fn l) o n = (l.drop o).take n := by
  refine List.ext_getElem? fun k => ?_
  by_cases hk : k < n
  · rw [bl_at hk, List.getElem?_take, if_pos hk, List.getElem?_drop, List.getElem?_eq_getElem (by omega)]
    congr 1
    exact fn_at (List.getElem?_eq_getElem (by omega))
  · rw [List.getElem?_eq_none (by rw [bl_len]; omega), List.getElem?_take, if_neg hk]
theorem dt_own {base g cap : Nat} {l : List Int} (h : w.ownsRow base 5 1 (.slice (some ⟨g, 0, none⟩) l.length cap) l.length (u8s l)) (h8 : L8 l) : Dt w g 0 l.length (fn l) := by
  refine ⟨fun k hk => ?_, fn_u8 h8⟩
  rw [own_cell h k (by omega), u8s_at (List.getElem?_eq_getElem hk), fn_at (List.getElem?_eq_getElem hk)]
/-- a decoder: l waits -/
structure Dcr (w : World) (d : Nat) (v : Value) (l : List Int) (p : Bool) : Prop where
  row : w.heap[d]? = some (.cells #[v, .bool p] 50 (0, 0))
  own : w.ownsRow (d + 1) 5 1 v l.length (u8s l)
  u8 : L8 l
set_option maxRecDepth 100000 in
theorem newDecoder_any (W : World) : Calls Try.prog 8 #[] W fun e w' => e = .returned (.pointer (some ⟨W.heap.size, 0, none⟩)) ∧ Dcr w' W.heap.size (.slice none 0 0) [] false ∧ Up W w' ∧ w'.heap.size = W.heap.size + 1 := by
  go_enter Try.func8, Try.ntmps8
  go_wp2
  go_ret
  exact ⟨rfl, ⟨heap_alloc_new W _, World.ownsRow_nil _ _ _ _, L8.nil⟩, (Up.refl W).alloc _, by simp⟩
set_option maxRecDepth 100000 in
theorem poisoned_any {d : Nat} {v : Value} {l : List Int} {p : Bool} (W : World) (h : Dcr W d v l p) : Calls Try.prog 11 #[.pointer (some ⟨d, 0, none⟩)] W fun e w' => e = .returned (.bool p) ∧ w' = W := by
  have k1 : W.cell? ⟨d, 1, none⟩ = some (.bool p) := heap_cell h.row rfl
  clear h
  go_enter Try.func11, Try.ntmps11
  go_wp2
  go_ret
  exact ⟨rfl, rfl⟩
set_option maxRecDepth 100000 in
theorem waiting_any {d : Nat} {v : Value} {l : List Int} {p : Bool} (W : World) (h : Dcr W d v l p) : Calls Try.prog 12 #[.pointer (some ⟨d, 0, none⟩)] W fun e w' => e = .returned (.int .i64 (l.length : Nat)) ∧ w' = W := by
  have hv : ∃ a c, v = .slice a l.length c := by
    rcases own_cases h.own with ⟨h1, h2, _⟩ | ⟨g, cap, h1, _⟩
    · exact ⟨none, 0, by rw [h1, h2]⟩
    · exact ⟨_, _, h1⟩
  obtain ⟨a, c, rfl⟩ := hv
  have k0 : W.cell? ⟨d, 0, none⟩ = some (.slice a l.length c) := heap_cell h.row rfl
  clear h
  go_enter Try.func12, Try.ntmps12
  go_wp2
  go_ret
  exact ⟨rfl, rfl⟩
/-- what comes of feeding: the decoder's bytes were l, what came was y -/
structure Fed (W : World) (d : Nat) (v : Value) (l y : List Int) (lv : Value) (e : Int) (v' : Value) (rs : List (C × Value)) (r : Nat) (w' : World) : Prop where
  dec : Dec msgT (fn (l ++ y)) (l ++ y).length 0 (rs.map (·.1)) r e
  st : (e = 0 → Dcr w' d v' ((l ++ y).drop r) false) ∧ (e ≠ 0 → Dcr w' d v' [] true)
  rows : RowsM (fun b => W.heap.size ≤ b ∧ lv.ownBlock ≠ some b ∧ v'.ownBlock ≠ some b) W.heap.size w' lv rs
  apart : ∀ b, lv.ownBlock = some b → v'.ownBlock ≠ some b
  old : ∀ b, v'.ownBlock = some b → v.ownBlock = some b ∨ W.heap.size ≤ b
  os : w'.os = W.os
  output : w'.output = W.output
  size : W.heap.size ≤ w'.heap.size
  block : ∀ b, b < W.heap.size → b ≠ d → v.ownBlock ≠ some b → w'.heap[b]? = W.heap[b]?
set_option maxRecDepth 100000 in
set_option maxHeartbeats 800000 in
theorem dead_any {d : Nat} {v dv : Value} {l : List Int} (W : World) (h : Dcr W d v l true) : Calls Try.prog 9 #[.pointer (some ⟨d, 0, none⟩), dv] W fun e w' => e = .returned (.tuple #[.slice none 0 0, .int .i64 124]) ∧ w' = W := by
  have k1 : W.cell? ⟨d, 1, none⟩ = some (.bool true) := heap_cell h.row rfl
  clear h
  go_enter Try.func9, Try.ntmps9
  go_wp2_with fail
  go_ret2
  exact ⟨rfl, rfl⟩
set_option maxRecDepth 100000 in
set_option maxHeartbeats 800000 in
theorem decN_any {tv : Value} (W : World) : Calls Try.prog 18 #[.slice none 0 0, tv, .func (.func 20) #[] #[]] W (DecM msgT (fn []) 0 W) := by
  have HFst : Hid (Calls Try.prog 28 #[.slice none 0 0] W fun e w' => e = .returned (.tuple #[.slice none 0 0, .int .i64 0]) ∧ w' = W) := by
    have := first_any (g := 0) (O := 0) (N := 0) (a := 0) (c := 0) (f := fn []) none W ⟨fun k hk => absurd hk (by omega), fn_u8 L8.nil⟩ (Nat.le_refl _) (by omega) (by unfold maxLen; omega) (fun h => absurd h (by omega))
    rw [Nat.sub_self, fst_wait.2 (Or.inl (by omega))] at this
    exact this
  go_enter Try.func18, Try.ntmps18
  go_wp2_with fail
  go_loopw [9, 10] (fun lv i wr => lv = .slice none 0 0 ∧ i = .int .i64 0 ∧ wr = W) (fun _ i _ => 0)
  case atStart => exact ⟨rfl, rfl, rfl⟩
  case round =>
    obtain ⟨rfl, rfl, rfl⟩ := hrel
    go_wp2_with fail
    refine Calls.mono HFst.out ?_
    rintro e w1 ⟨rfl, rfl⟩
    go_wp2_with fail
    go_ret3
    exact ⟨_, [], 0, 0, rfl, Dec.none (Nat.le_refl _), ⟨World.ownsRow_nil _ _ _ _, fun x h => by cases h⟩, Up.refl _⟩
/-- frames out of a row of one's own -/
theorem decO_any {base : Nat} {v tv : Value} {l : List Int} (W : World) (hT : TabAt W tv msgT) (ho : W.ownsRow base 5 1 v l.length (u8s l)) (h8 : L8 l) (hl : l.length ≤ 1099511627776) :
    Calls Try.prog 18 #[v, tv, .func (.func 20) #[] #[]] W (DecM msgT (fn l) l.length W) := by
  rcases own_cases ho with ⟨h1, h2, h3⟩ | ⟨g, cap, h1, h2, h3, _⟩
  · have e : l = [] := List.length_eq_zero_iff.1 h2
    subst e h1
    exact decN_any W
  · subst h1
    exact decM_any W hT (dt_own ho h8) h2 h3 hl
theorem own_base {base base' n size : Nat} {ty : TypeId} {v : Value} {xs : List Value} (h : w.ownsRow base ty size v n xs) (hb : base' ≤ base) : w.ownsRow base' ty size v n xs :=
  ⟨h.1, h.2.imp id fun ⟨g, cap, cur, h1, h2, h3⟩ => ⟨g, cap, cur, h1, Nat.le_trans hb h2, h3⟩⟩
/-- behind the append: v1 waits -/
structure Mid (W : World) (d : Nat) (v v1 : Value) (ly : List Int) (w2 : World) : Prop where
  row : w2.heap[d]? = some (.cells #[v1, .bool false] 50 (0, 0))
  own : w2.ownsRow (d + 1) 5 1 v1 ly.length (u8s ly)
  u8 : L8 ly
  at1 : v1.ownBlock = v.ownBlock ∨ v1.ownBlock = some W.heap.size
  os : w2.os = W.os
  output : w2.output = W.output
  size : W.heap.size ≤ w2.heap.size
  block : ∀ b, b < W.heap.size → b ≠ d → v.ownBlock ≠ some b → w2.heap[b]? = W.heap[b]?
  lt : d < W.heap.size
theorem mid_mk {d : Nat} {v v1 : Value} {l ly : List Int} {w1 : World} (h : Dcr W d v l false) (hg : W.grownBy w1 v.ownBlock) (ho : w1.ownsRow (d + 1) 5 1 v1 ly.length (u8s ly)) (h8 : L8 ly) (hw : v1.ownBlock = v.ownBlock ∨ v1.ownBlock = some W.heap.size) : Mid W d v v1 ly (w1.setCell ⟨d, 0, none⟩ v1) := by
  have hdl := heap_at h.row
  have hq : w1.heap[d]? = some (.cells #[v, .bool false] 50 (0, 0)) := (hg.block d hdl (fun e => by have := h.own.lt d e.symm; omega)).trans h.row
  have fr : Fr d w1 (w1.setCell ⟨d, 0, none⟩ v1) := (Fr.refl _ _).setCell
  refine ⟨heap_setCell_same _ _ 0 _ _ _ hq, ownsRow_block ho (fun g hg' => fr.block g (ho.lt g hg').2 (by have := ho.lt g hg'; omega)), h8, hw, fr.os.trans hg.os, fr.output.trans hg.output, Nat.le_trans hg.size fr.size, fun b hb hn hv => ?_, hdl⟩
  exact (fr.block b (Nat.lt_of_lt_of_le hb hg.size) hn).trans (hg.block b hb (fun e => hv e.symm))
theorem fed_of {d : Nat} {v v1 lv v' : Value} {l y : List Int} {e : Int} {rs : List (C × Value)} {r : Nat} {w2 w3 w4 w5 : World} (M : Mid W d v v1 (l ++ y) w2) (u23 : Up w2 w3) (u34 : Up w3 w4) (F : Fr d w4 w5) (hR : RowsM (fun b => w3.heap.size ≤ b ∧ lv.ownBlock ≠ some b) w3.heap.size w4 lv rs)
    (dec : Dec msgT (fn (l ++ y)) (l ++ y).length 0 (rs.map (·.1)) r e) (st : (e = 0 → Dcr w5 d v' ((l ++ y).drop r) false) ∧ (e ≠ 0 → Dcr w5 d v' [] true)) (old : ∀ b, v'.ownBlock = some b → v.ownBlock = some b ∨ W.heap.size ≤ b) (hva : ∀ b, v'.ownBlock = some b → b < w3.heap.size ∨ w4.heap.size ≤ b) : Fed W d v l y lv e v' rs r w5 := by
  have h0 := M.lt
  have h1 := M.size
  have h2 := u23.size
  have h3 := u34.size
  have hlv : ∀ b, lv.ownBlock = some b → w3.heap.size ≤ b ∧ b < w4.heap.size := fun b hb => hR.own.lt b hb
  refine ⟨dec, st, ⟨?_, fun x hx => ?_⟩, fun b hb hb' => ?_, old, F.os.trans (u34.os.trans (u23.os.trans M.os)), F.output.trans (u34.output.trans (u23.output.trans M.output)), by have := F.size; omega, fun b hb hn hv => ?_⟩
  · refine own_base (ownsRow_block hR.own fun g hg => F.block g (hlv g hg).2 (by have := hlv g hg; omega)) (by omega)
  · refine (hR.dat x hx).keep fun b hb hb2 => ⟨F.block b hb2 (by omega), by omega, hb.2, fun e' => ?_⟩
    have := hva b e'
    omega
  · have := hlv b hb
    have := hva b hb'
    omega
  · exact (F.block b (by omega) hn).trans ((u34.block b (by omega)).trans ((u23.block b (by omega)).trans (M.block b hb hn hv)))
set_option maxRecDepth 100000 in
set_option maxHeartbeats 800000 in
theorem feed_any {d : Nat} {v dv : Value} {l y : List Int} (W : World) (h : Dcr W d v l false) (hs : Src W dv y) (h8 : L8 y) (hl : l.length + y.length ≤ 1099511627776) :
    Calls Try.prog 9 #[.pointer (some ⟨d, 0, none⟩), dv] W fun x w' => ∃ lv e v' rs r, x = .returned (.tuple #[lv, .int .i64 e]) ∧ Fed W d v l y lv e v' rs r w' := by
  have HH : Hid (Dcr W d v l false) := h
  have HS : Hid (Src W dv y) := hs
  have k0 : W.cell? ⟨d, 0, none⟩ = some v := heap_cell h.row rfl
  have k1 : W.cell? ⟨d, 1, none⟩ = some (.bool false) := heap_cell h.row rfl
  have hdl : d < W.heap.size := heap_at h.row
  have HO : Hid (∀ b, v.ownBlock = some b → d + 1 ≤ b ∧ b < W.heap.size) := fun b hb => h.own.lt b hb
  obtain ⟨va, vn, vc, hv⟩ := own_slice3 h.own
  have H8 : Hid (L8 (l ++ y)) := h.u8.append h8
  clear h hs
  subst hv
  go_enter Try.func9, Try.ntmps9
  go_wp2_with (refine wpList_append_bytes rfl _ _ rfl (d + 1) (.slice va vn vc) l rfl HH.out.own dv y rfl HS.out (by omega) (by omega) (fun v1 w1 ho hg hw => ?_)
               have hq : w1.heap[d]? = some (.cells #[.slice va vn vc, .bool false] 50 (0, 0)) := (hg.block d hdl (fun e => by have := HO.out d e.symm; omega)).trans HH.out.row
               have j0 : w1.cell? ⟨d, 0, none⟩ = some (.slice va vn vc) := heap_cell hq rfl
               have z0 : w1.frozen? ⟨d, 0, none⟩ = false := heap_fz hq
               have HG : Hid (W.grownBy w1 (Value.slice va vn vc).ownBlock) := hg
               have HW1 : Hid (v1.ownBlock = (Value.slice va vn vc).ownBlock ∨ v1.ownBlock = some W.heap.size) := hw
               have HO1 : Hid (w1.ownsRow (d + 1) 5 1 v1 (l ++ y).length (u8s (l ++ y))) := ho
               have HQ : Hid (w1.heap[d]? = some (.cells #[.slice va vn vc, .bool false] 50 (0, 0))) := hq
               obtain ⟨va1, vn1, vc1, hv1⟩ := own_slice3 ho
               subst hv1
               clear hq hg hw ho)
  have M2 := mid_mk HH.out HG.out HO1.out H8.out HW1.out
  have k2 : (w1.setCell ⟨d, 0, none⟩ (.slice va1 vn1 vc1)).cell? ⟨d, 0, none⟩ = some (.slice va1 vn1 vc1) := heap_cell M2.row rfl
  have HM2 : Hid (Mid W d (.slice va vn vc) (.slice va1 vn1 vc1) (l ++ y) (w1.setCell ⟨d, 0, none⟩ (.slice va1 vn1 vc1))) := M2
  clear M2 HQ HO1 HW1 HG j0 z0 k0 k1 HS
  generalize (w1.setCell ⟨d, 0, none⟩ (.slice va1 vn1 vc1)) = w2 at *
  have hlen : (l ++ y).length ≤ 1099511627776 := by rw [List.length_append]; exact hl
  have HDec : Hid (∀ (tv : Value) (w3 : World), TabAt w3 tv msgT → Up w2 w3 → Calls Try.prog 18 #[.slice va1 vn1 vc1, tv, .func (.func 20) #[] #[]] w3 (DecM msgT (fn (l ++ y)) (l ++ y).length w3)) := fun tv w3 hT u => decO_any w3 hT (ownsRow_up HM2.out.own u) H8.out hlen
  have hw2 : Up w2 w2.drew := (Up.refl w2).drew
  refine wp_region_held_drew (S := fun w' : World => w'.cell? ⟨d, 0, none⟩ = some (.slice va1 vn1 vc1)) (by kernel_rfl) ?_ (fun hHeld => ?_)
  · (try dsimp only); exact k2
  · skip
    refine wpAnyH_take (i := 0) (v := ?_) (by simp only [List.getElem?_toArray, List.getElem?_cons_zero]; rfl) (by kernel_rfl) (by kernel_rfl) (by kernel_rfl) (by intro _ _ _ h; exact h) (Or.inl ⟨by rfl, ?_⟩) (by assumption) ?_
    rotate_left
    · (intro w hSw; (try dsimp only at hSw); go_simp <;> with_reducible rfl)
    try simp only [Act.put, List.setIfInBounds_toArray, List.set_cons_zero, List.set_cons_succ]
    refine wpAnyH_take (i := 1) (v := ?_) (by simp only [List.getElem?_toArray, List.getElem?_cons_succ, List.getElem?_cons_zero]; rfl) (by kernel_rfl) (by kernel_rfl) (by kernel_rfl) (by intro _ _ _ h; exact h) (Or.inl ⟨by rfl, ?_⟩) (by assumption) ?_
    rotate_left
    · (intro w hSw; (try dsimp only at hSw); go_simp <;> with_reducible rfl)
    try simp only [Act.put, List.setIfInBounds_toArray, List.set_cons_zero, List.set_cons_succ]
    refine wpAnyH_take (i := 2) (v := ?_) (by simp only [List.getElem?_toArray, List.getElem?_cons_succ, List.getElem?_cons_zero]; rfl) (by kernel_rfl) (by kernel_rfl) (by kernel_rfl) (by intro _ _ _ h; exact h) (Or.inl ⟨by rfl, ?_⟩) (by assumption) ?_
    rotate_left
    · (intro w hSw; (try dsimp only at hSw); go_simp <;> with_reducible rfl)
    try simp only [Act.put, List.setIfInBounds_toArray, List.set_cons_zero, List.set_cons_succ]
    refine wpAnyH_take (i := 3) (v := ?_) (by simp only [List.getElem?_toArray, List.getElem?_cons_succ, List.getElem?_cons_zero]; rfl) (by kernel_rfl) (by kernel_rfl) (by kernel_rfl) (by intro _ _ _ h; exact h) (Or.inl ⟨by rfl, ?_⟩) (by assumption) ?_
    rotate_left
    · (intro w hSw; (try dsimp only at hSw); go_simp <;> with_reducible rfl)
    try simp only [Act.put, List.setIfInBounds_toArray, List.set_cons_zero, List.set_cons_succ]
    refine wpAnyH_ready (rs := [4]) (by kernel_rfl) (by simp) ?_
    refine AllReadyH.cons (by simp only [List.getElem?_toArray, List.getElem?_cons_succ, List.getElem?_cons_zero]; rfl) (fun KK hK => ?_) AllReadyH.nil
    go_simp
    refine (messageKinds_any _).mono ?_
    rintro e w3 ⟨tb, rfl, hT3, hU3⟩
    have HT3 : Hid (TabAt w3 (tabMsg tb) msgT) := hT3
    have HU3 : Hid (Up w2 w3) := hw2.trans hU3
    clear hT3 hU3 hw2
    refine hK.out _ _ ?_ (fun hHeld => ?_)
    · (try dsimp only); exact (HU3.out.cell (World.block_lt_of_cell? _ _ k2)).trans k2
    clear hK KK
    try simp only [Act.put, List.setIfInBounds_toArray, List.set_cons_zero, List.set_cons_succ]
    refine wpAnyH_ready (rs := [5]) (by kernel_rfl) (by simp) ?_
    refine AllReadyH.cons (by simp only [List.getElem?_toArray, List.getElem?_cons_succ, List.getElem?_cons_zero]; rfl) (fun KK hK => ?_) AllReadyH.nil
    go_simp
    unfold tabMsg at *
    refine (HDec.out _ _ HT3.out HU3.out).mono ?_
    rintro e w4 ⟨lv, rs, r, er, rfl, hDc, hRw, hU4⟩
    refine hK.out _ _ ?_ (fun hHeld => ?_)
    · (try dsimp only); exact ((HU3.out.trans hU4).cell (World.block_lt_of_cell? _ _ k2)).trans k2
    clear hK KK
    try simp only [Act.put, List.setIfInBounds_toArray, List.set_cons_zero, List.set_cons_succ]
    refine wpAnyH_take (i := 6) (v := ?_) (by simp only [List.getElem?_toArray, List.getElem?_cons_succ, List.getElem?_cons_zero]; rfl) (by kernel_rfl) (by kernel_rfl) (by kernel_rfl) (by intro _ _ _ h; exact h) (Or.inl ⟨by rfl, ?_⟩) (by assumption) ?_
    rotate_left
    · (intro w hSw; (try dsimp only at hSw); go_simp <;> with_reducible rfl)
    try simp only [Act.put, List.setIfInBounds_toArray, List.set_cons_zero, List.set_cons_succ]
    refine wpAnyH_take (i := 7) (v := ?_) (by simp only [List.getElem?_toArray, List.getElem?_cons_succ, List.getElem?_cons_zero]; rfl) (by kernel_rfl) (by kernel_rfl) (by kernel_rfl) (by intro _ _ _ h; exact h) (Or.inl ⟨by rfl, ?_⟩) (by assumption) ?_
    rotate_left
    · (intro w hSw; (try dsimp only at hSw); go_simp <;> with_reducible rfl)
    try simp only [Act.put, List.setIfInBounds_toArray, List.set_cons_zero, List.set_cons_succ]
    refine wpAnyH_take (i := 8) (v := ?_) (by simp only [List.getElem?_toArray, List.getElem?_cons_succ, List.getElem?_cons_zero]; rfl) (by kernel_rfl) (by kernel_rfl) (by kernel_rfl) (by intro _ _ _ h; exact h) (Or.inl ⟨by rfl, ?_⟩) (by assumption) ?_
    rotate_left
    · (intro w hSw; (try dsimp only at hSw); go_simp <;> with_reducible rfl)
    try simp only [Act.put, List.setIfInBounds_toArray, List.set_cons_zero, List.set_cons_succ]
    refine wpAnyH_take (i := 9) (v := ?_) (by simp only [List.getElem?_toArray, List.getElem?_cons_succ, List.getElem?_cons_zero]; rfl) (by kernel_rfl) (by kernel_rfl) (by kernel_rfl) (by intro _ _ _ h; exact h) (Or.inl ⟨by rfl, ?_⟩) (by assumption) ?_
    rotate_left
    · (intro w hSw; (try dsimp only at hSw); go_simp <;> with_reducible rfl)
    try simp only [Act.put, List.setIfInBounds_toArray, List.set_cons_zero, List.set_cons_succ]
    refine wpAnyH_take (i := 10) (v := ?_) (by simp only [List.getElem?_toArray, List.getElem?_cons_succ, List.getElem?_cons_zero]; rfl) (by kernel_rfl) (by kernel_rfl) (by kernel_rfl) (by intro _ _ _ h; exact h) (Or.inl ⟨by rfl, ?_⟩) (by assumption) ?_
    rotate_left
    · (intro w hSw; (try dsimp only at hSw); go_simp <;> with_reducible rfl)
    try simp only [Act.put, List.setIfInBounds_toArray, List.set_cons_zero, List.set_cons_succ]
    refine wpAnyH_take (i := 11) (v := ?_) (by simp only [List.getElem?_toArray, List.getElem?_cons_succ, List.getElem?_cons_zero]; rfl) (by kernel_rfl) (by kernel_rfl) (by kernel_rfl) (by intro _ _ _ h; exact h) (Or.inl ⟨by rfl, ?_⟩) (by assumption) ?_
    rotate_left
    · (intro w hSw; (try dsimp only at hSw); go_simp <;> with_reducible rfl)
    try simp only [Act.put, List.setIfInBounds_toArray, List.set_cons_zero, List.set_cons_succ]
    refine wpAnyH_take (i := 12) (v := ?_) (by simp only [List.getElem?_toArray, List.getElem?_cons_succ, List.getElem?_cons_zero]; rfl) (by kernel_rfl) (by kernel_rfl) (by kernel_rfl) (by intro _ _ _ h; exact h) (Or.inl ⟨by rfl, ?_⟩) (by assumption) ?_
    rotate_left
    · (intro w hSw; (try dsimp only at hSw); go_simp <;> with_reducible rfl)
    try simp only [Act.put, List.setIfInBounds_toArray, List.set_cons_zero, List.set_cons_succ]
    refine wpAnyH_done (by kernel_rfl) ?_ _

    have U24 : Up w2 w4 := HU3.out.trans hU4
    have hq4 : w4.heap[d]? = some (.cells #[.slice va1 vn1 vc1, .bool false] 50 (0, 0)) := (U24.block _ (heap_at HM2.out.row)).trans HM2.out.row
    have m0 : w4.cell? ⟨d, 0, none⟩ = some (.slice va1 vn1 vc1) := heap_cell hq4 rfl
    have m1 : w4.cell? ⟨d, 1, none⟩ = some (.bool false) := heap_cell hq4 rfl
    have z0 : w4.frozen? ⟨d, 0, none⟩ = false := heap_fz hq4
    have z1 : w4.frozen? ⟨d, 1, none⟩ = false := heap_fz hq4
    have HR : Hid (RowsM (fun b => w3.heap.size ≤ b ∧ lv.ownBlock ≠ some b) w3.heap.size w4 lv rs) := hRw
    have HDc : Hid (Dec msgT (fn (l ++ y)) (l ++ y).length 0 (rs.map (·.1)) r er) := hDc
    have HU4 : Hid (Up w3 w4) := hU4
    have HQ4 : Hid (w4.heap[d]? = some (.cells #[.slice va1 vn1 vc1, .bool false] 50 (0, 0))) := hq4
    have HOw : Hid (w4.ownsRow (d + 1) 5 1 (.slice va1 vn1 vc1) (l ++ y).length (u8s (l ++ y))) := ownsRow_up HM2.out.own U24
    obtain ⟨la, ln, lc, hlv⟩ := own_slice3 hRw.own
    subst hlv
    have hrl : r ≤ (l ++ y).length := hDc.le.2 (Nat.zero_le _)
    have HN : Hid (vn1 = (l ++ y).length) := by
      show _ = _
      rcases own_cases HOw.out with ⟨e1, e2, _⟩ | ⟨g, cap, e1, _⟩
      · injection e1 with _ e1 _
        omega
      · injection e1
    have HSz : Hid (w2.heap.size ≤ w3.heap.size ∧ w3.heap.size ≤ w4.heap.size) := ⟨HU3.out.size, hU4.size⟩
    clear hHeld k2 U24 hRw hDc hU4 HT3 HDec hq4
    by_cases he : er = 0
    · subst he
      by_cases hr : r = 0
      · subst hr
        clear m1 z0 z1
        go_wp2_with fail
        go_ret2
        refine ⟨_, _, .slice va1 vn1 vc1, rs, 0, rfl, fed_of HM2.out HU3.out HU4.out (Fr.refl d w4) HR.out HDc.out ⟨fun _ => ⟨HQ4.out, HOw.out, H8.out⟩, fun h => absurd rfl h⟩ (fun b hb => ?_) (fun b hb => ?_)⟩
        · rcases HM2.out.at1 with e1 | e1
          · exact Or.inl (e1 ▸ hb)
          · rw [e1] at hb
            injection hb with hb
            exact Or.inr (by omega)
        · have := HM2.out.own.lt b hb
          have := HSz.out
          omega
      · have hv1 : ∃ g, va1 = some ⟨g, 0, none⟩ ∧ vn1 ≤ vc1 ∧ vc1 ≤ maxLen := by
          rcases own_cases HOw.out with ⟨e1, e2, _⟩ | ⟨g, cap, e1, e2, e3, _⟩
          · have := HN.out
            omega
          · injection e1 with e4 e5 e6
            subst e6
            exact ⟨g, e4, by omega, e3⟩
        obtain ⟨g, rfl, hc1, hc2⟩ := hv1
        have hri : (r : Int) ≤ vn1 := by have := HN.out; omega
        have hr0 : (0 : Int) < r := by omega
        have hrn : r ≤ vn1 := by omega
        have HDr : Hid (∀ k x, ((l ++ y).drop r)[k]? = some x → w4.cell? ⟨g, r + k, none⟩ = some (.int .u8 x)) := fun k x hk => by
          rw [List.getElem?_drop] at hk
          have hlt := (List.getElem?_eq_some_iff.1 hk).1
          have := own_cell (n := (l ++ y).length) (cap := vc1) (g := g) (by have := HOw.out; rw [HN.out] at this; exact this) (r + k) (by omega)
          rw [Nat.zero_add] at this
          rw [this]
          exact u8s_at hk
        have hD8 : L8 ((l ++ y).drop r) := fun x hx => H8.out x (List.mem_of_mem_drop hx)
        have HL8 : Hid (L8 ((l ++ y).drop r)) := hD8
        have HDl : Hid (((l ++ y).drop r).length = vn1 - r) := by show _ = _; rw [List.length_drop, HN.out]
        have HCp : Hid (∀ p c', (0 < vn1 - r → p = r) → Calls Try.prog 21 #[.slice (some ⟨g, p, none⟩) (vn1 - r) c'] w4 fun e w' => ∃ v, e = .returned v ∧ w'.ownsRow w4.heap.size 5 1 v ((l ++ y).drop r).length (u8s ((l ++ y).drop r)) ∧ Up w4 w') := fun p c' hp => copyOf_any ⟨g, p, none⟩ (vn1 - r) c' ((l ++ y).drop r) HDl.out HL8.out (by have := HN.out; omega) w4 (fun k x hk => by
          rw [addr_add, hp (by have := (List.getElem?_eq_some_iff.1 hk).1; rw [HDl.out] at this; omega)]
          exact HDr.out k x hk)
        have HEnd : Hid (∀ (v' : Value) (w5 : World), w5.ownsRow w4.heap.size 5 1 v' ((l ++ y).drop r).length (u8s ((l ++ y).drop r)) → Up w4 w5 → Fed W d (.slice va vn vc) l y (.slice la ln lc) 0 v' rs r (w5.setCell ⟨d, 0, none⟩ v')) := fun v' w5 ho hu => by
          have hd4 := heap_at HQ4.out
          have hq5 := (hu.block _ hd4).trans HQ4.out
          have fr : Fr d w5 (w5.setCell ⟨d, 0, none⟩ v') := (Fr.refl _ _).setCell
          refine fed_of HM2.out HU3.out HU4.out ((Fr.ofUp hu).trans fr) HR.out HDc.out ⟨fun _ => ⟨heap_setCell_same _ _ 0 _ _ _ hq5, own_base (ownsRow_block ho fun g' hg' => fr.block g' (ho.lt g' hg').2 (by have := ho.lt g' hg'; omega)) (by omega), HL8.out⟩, fun h => absurd rfl h⟩ (fun b hb => ?_) (fun b hb => ?_)
          · have := ho.lt b hb
            have := HSz.out
            have := HM2.out.size
            exact Or.inr (by omega)
          · exact Or.inr (ho.lt b hb).1
        have HQ5 : Hid (∀ w5, Up w4 w5 → w5.cell? ⟨d, 0, none⟩ = some (.slice (some ⟨g, 0, none⟩) vn1 vc1) ∧ w5.frozen? ⟨d, 0, none⟩ = false) := fun w5 hu => by
          have hq5 := (hu.block _ (heap_at HQ4.out)).trans HQ4.out
          exact ⟨heap_cell hq5 rfl, heap_fz hq5⟩
        unfold maxLen at hc2
        clear HDr hD8 m1 z0 z1 hr
        by_cases hcr : vc1 = r
        · subst hcr
          have en : vn1 - vc1 = 0 := by omega
          go_wp2_with fail
          rw [en] at HCp
          refine (HCp.out 0 0 (fun h => absurd h (by omega))).mono ?_
          rintro e w5 ⟨v', rfl, ho, hu⟩
          obtain ⟨n0, n1⟩ := HQ5.out w5 hu
          have HE : Hid _ := HEnd.out v' w5 ho hu
          obtain ⟨a', b', c', hv'⟩ := own_slice3 ho
          subst hv'
          clear ho hu
          go_wp2_with fail
          go_ret2
          exact ⟨_, _, _, rs, _, rfl, HE.out⟩
        · go_wp2_with fail
          refine (HCp.out r (vc1 - r) (fun _ => rfl)).mono ?_
          rintro e w5 ⟨v', rfl, ho, hu⟩
          obtain ⟨n0, n1⟩ := HQ5.out w5 hu
          have HE : Hid _ := HEnd.out v' w5 ho hu
          obtain ⟨a', b', c', hv'⟩ := own_slice3 ho
          subst hv'
          clear ho hu
          go_wp2_with fail
          go_ret2
          exact ⟨_, _, _, rs, _, rfl, HE.out⟩
    · have HNe : Hid (¬ er = 0) := he
      go_wp2_with fail
      go_ret2
      have fr : Fr d w4 ((w4.setCell ⟨d, 0, none⟩ (.slice none 0 0)).setCell ⟨d, 1, none⟩ (.bool true)) := ((Fr.refl _ _).setCell).setCell
      refine ⟨_, _, .slice none 0 0, rs, r, rfl, fed_of HM2.out HU3.out HU4.out fr HR.out HDc.out ⟨fun h => absurd h HNe.out, fun _ => ⟨?_, World.ownsRow_nil _ _ _ _, L8.nil⟩⟩ (fun b hb => by cases hb) (fun b hb => by cases hb)⟩
      exact heap_setCell_same _ _ 1 _ _ _ (heap_setCell_same _ _ 0 _ _ _ HQ4.out)
end Go.Proofs.Ytnengokobkehfaa
