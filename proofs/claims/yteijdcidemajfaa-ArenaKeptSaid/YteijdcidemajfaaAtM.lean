/- Arena: acts: a buffer is given back. -/
import Derived.Test.YteijdcidemajfaaAtK
import Derived.Deep.DeepCutAuto
namespace Go.Proofs.Yteijdcidemajfaa
open Go.RowKit
set_option linter.unusedVariables false
set_option linter.unusedSimpArgs false
variable {K K' O : Nat → Prop} {w w' W : World} {pb n : Nat} {P P' : Pl} {lv bv : Value} {ll bl hl L : List Loan} {C : Cx} {q : Int}
/-- the first i of those held, without the k-th -/
def partN (hl : List Loan) (k i : Nat) : List Loan := (hl.take i).eraseIdx k
theorem partN_same (hl : List Loan) (k : Nat) (hk : k < hl.length) : partN hl k (k + 1) = partN hl k k := by
  unfold partN
  rw [List.take_add_one, List.getElem?_eq_getElem hk]
  have hl2 : (hl.take k).length = k := by rw [List.length_take]; omega
  rw [List.eraseIdx_append_of_length_le (by omega), hl2, Nat.sub_self, List.eraseIdx_of_length_le (l := hl.take k) (by omega)]
  show hl.take k ++ [] = hl.take k
  rw [List.append_nil]
theorem partN_more (hl : List Loan) (k i : Nat) {x : Loan} (hx : hl[i]? = some x) (hne : i ≠ k) : partN hl k (i + 1) = partN hl k i ++ [x] := by
  have hil := (List.getElem?_eq_some_iff.1 hx).1
  have hl2 : (hl.take i).length = i := by rw [List.length_take]; omega
  unfold partN
  rw [List.take_add_one, hx]
  show (hl.take i ++ [x]).eraseIdx k = _
  by_cases h : k < i
  · rw [List.eraseIdx_append_of_lt_length (by omega)]
  · rw [List.eraseIdx_of_length_le (l := hl.take i) (by omega), List.eraseIdx_of_length_le (by rw [List.length_append, hl2]; show i + 1 ≤ k; omega)]
theorem partN_all (hl : List Loan) (k : Nat) : partN hl k hl.length = hl.eraseIdx k := by
  unfold partN
  rw [List.take_of_length_le (Nat.le_refl _)]
theorem partN_len (hl : List Loan) (k i : Nat) : (partN hl k i).length ≤ hl.length := by
  unfold partN
  refine Nat.le_trans (List.eraseIdx_sublist _ _).length_le ?_
  rw [List.length_take]
  omega
/-- new rows on their way -/
structure Gr (W : World) (v1 v2 : Value) (ls : List Loan) (w : World) : Prop where
  o1 : w.ownsRow W.heap.size 38 3 v1 ls.length (leaseCells ls)
  o2 : w.ownsRow W.heap.size 45 1 v2 ls.length (byteCells ls)
  up : Up W w
theorem grown_up {w1 : World} {o : Obj} {base n size : Nat} {ty : TypeId} {v : Value} {xs : List Value} (u : Up W w) (h : w.ownsRow W.heap.size ty size v n xs) (g : (w.alloc o).grownBy w1 v.ownBlock) : Up W w1 := by
  have ua := u.alloc o
  refine ⟨g.os.trans ua.os, g.output.trans ua.output, Nat.le_trans ua.size g.size, fun b hb => (g.block b (Nat.lt_of_lt_of_le hb ua.size) (fun e => ?_)).trans (ua.block b hb)⟩
  have := (own_lt0 h e.symm).1
  omega
theorem grown_other {w1 : World} {o : Obj} {n1 n2 s1 s2 : Nat} {t1 t2 : TypeId} {v1 v2 : Value} {x1 x2 : List Value} (h1 : w.ownsRow W.heap.size t1 s1 v1 n1 x1) (h2 : w.ownsRow W.heap.size t2 s2 v2 n2 x2) (ht : t1 ≠ t2) (g : (w.alloc o).grownBy w1 v1.ownBlock) : w1.ownsRow W.heap.size t2 s2 v2 n2 x2 := by
  have ua := (Up.refl w).alloc o
  refine ownsRow_block h2 (fun b hb => ?_)
  have hbl := (own_lt0 h2 hb).2
  exact (g.block b (Nat.lt_of_lt_of_le hbl ua.size) (fun e => own_ty h1 h2 ht e.symm hb)).trans (ua.block b hbl)
set_option maxRecDepth 100000 in
set_option maxHeartbeats 4000000 in
theorem acts_give {kd who sz pk at' by' : Int} (i1 : I64 kd) (i3 : I64 sz) (i4 : I64 pk) (i5 : I64 at') (i6 : I64 by') (eh : C.hb = C.w0.heap.size) (ea : C.ab = C.w0.heap.size + 1) (er : C.rb = C.w0.heap.size + 2) (ev : C.av = #[.int .i64 kd, .int .i64 who, .int .i64 sz, .int .i64 pk, .int .i64 at', .int .i64 by']) (hp : Pb C.W C.K0 C.pb P C.w0) (hh : Ht C.O0 C.w0 lv bv hl hl) (ho : ∀ b, C.O0 b → C.K0 b ∧ C.W.heap.size ≤ b) (ha : P.ars[C.i]? = some (some ⟨q, L⟩)) (hk : keys L = keys hl) (hc : Cs n P) (q0 : 0 ≤ q) (q1 : q ≤ 1000) (hop : ∀ j, j < C.i → ∃ b, P.ars[j]? = some (some b)) (hkd : pickI kd 8 = 4) (h0 : 0 < hl.length) : Calls Try.prog 23 #[.pointer (some ⟨C.pb, 0, none⟩), .agg #[.int .i64 (C.i : Int), lv, bv], .agg C.av, .int .i64 q] C.w0 (Rs C n q P (actF kd sz pk at' by' q P.freeN (nbs hl))) := by
  have hl4 : hl.length ≤ 4096 := by rw [← keys_len hk]; exact hp.ok.loans ha
  have A0 := Ax.begin (i := C.i) (av := C.av) hp hh ho
  have A1 : Hid (Ax C P lv bv hl hl (((C.w0.alloc (.cells #[.int .i64 (C.i : Int), lv, bv] 56)).alloc (.cells C.av 60)).alloc (.cells #[.int .i64 0, .slice none 0 0, .slice none 0 0] 56))) := by
    have e : C = ⟨C.W, C.w0, C.K0, C.O0, C.pb, C.i, C.w0.heap.size, C.w0.heap.size + 1, C.w0.heap.size + 2, C.av⟩ := by
      cases C
      simp only at eh ea er
      subst eh ea er
      rfl
    rw [e]
    exact A0
  clear A0
  rw [ev] at A1
  rw [ev]
  obtain ⟨va, vn, vc, rfl⟩ := own_slice3 hh.lo
  obtain ⟨ua, un, uc, rfl⟩ := own_slice3 hh.bo
  obtain ⟨hvn, hvc1, hvc2⟩ : vn = hl.length ∧ vn ≤ vc ∧ vc ≤ 9223372036854775807 := by
    rcases own_cases hh.lo with ⟨hv, hn0, _⟩ | ⟨g, cap, hv, hc1, hm, _⟩
    · injection hv with _ e2 e3
      exact ⟨by omega, by omega, by omega⟩
    · injection hv with _ e2 e3
      unfold maxLen at hm
      exact ⟨e2, by omega, by omega⟩
  subst hvn
  obtain ⟨hun, huc1, huc2⟩ : un = hl.length ∧ un ≤ uc ∧ uc ≤ 9223372036854775807 := by
    rcases own_cases hh.bo with ⟨hv, hn0, _⟩ | ⟨g, cap, hv, hc1, hm, _⟩
    · injection hv with _ e2 e3
      exact ⟨by omega, by omega, by omega⟩
    · injection hv with _ e2 e3
      unfold maxLen at hm
      exact ⟨e2, by omega, by omega⟩
  subst hun
  have HK8 : Hid (∀ w, Calls Try.prog 11 #[.int .i64 kd, .int .i64 8] w fun e w' => e = .returned (.int .i64 (pickI kd 8)) ∧ w' = w) := fun w => pick_any kd 8 w i1 (by decide) (by decide)
  have HPk : Hid (0 < hl.length → ∀ w, Calls Try.prog 11 #[.int .i64 pk, .int .i64 (hl.length : Int)] w fun e w' => e = .returned (.int .i64 (pickI pk hl.length)) ∧ w' = w) := fun h0 w => pick_any pk hl.length w i4 (by omega) (by omega)
  have HH : Hid (keys L = keys hl ∧ P.ars[C.i]? = some (some ⟨q, L⟩) ∧ Cs n P ∧ (∀ j, j < C.i → ∃ b, P.ars[j]? = some (some b))) := ⟨hk, ha, hc, hop⟩
  have HE : Hid (C.hb = C.w0.heap.size ∧ C.ab = C.w0.heap.size + 1 ∧ C.rb = C.w0.heap.size + 2) := ⟨eh, ea, er⟩
  have HEv : Hid (C.av = #[.int .i64 kd, .int .i64 who, .int .i64 sz, .int .i64 pk, .int .i64 at', .int .i64 by']) := ev
  have HSz : Hid (∀ l ∈ hl, l.size ≤ 65536) := keys_le hk (fun l hl' => (hp.ok.size ha hl').2)
  clear hp hh ho hk ha hc hop eh ea er ev
  have kp1 := pickI_lo pk hl.length (by omega)
  have kp2 := pickI_hi pk hl.length (by omega)
  obtain ⟨k, hkE⟩ := Int.eq_ofNat_of_zero_le kp1
  have hkl : k < hl.length := by omega
  obtain ⟨l, hkL⟩ : ∃ l, hl[k]? = some l := ⟨_, List.getElem?_eq_getElem hkl⟩
  obtain ⟨lm, hlm, hlk⟩ := keys_at HH.out.1.symm hkL
  have hls : 1 ≤ l.size ∧ l.size ≤ 65536 := by
    obtain ⟨K, O, h1, _⟩ := A1.out.at'
    have := h1.ok.size HH.out.2.1 (List.mem_of_getElem? hlm)
    injection hlk with _ hlk
    injection hlk with _ hlk
    injection hlk with e3 _
    omega
  have hlb : l.buf ≤ 100000 := by
    obtain ⟨K, O, h1, _⟩ := A1.out.at'
    obtain ⟨x, hx, _⟩ := h1.ok.ln C.i _ lm HH.out.2.1 (List.mem_of_getElem? hlm)
    have := buf_range h1.ok HH.out.2.1 hlm hx
    have hm := h1.ok.my _ x hx
    injection hlk with e1 _
    omega
  have HK : Hid (hl[k]? = some l ∧ L[k]? = some lm ∧ lm.key = l.key ∧ pickI pk hl.length = (k : Int)) := ⟨hkL, hlm, hlk, hkE⟩
  have e0 : ¬ (hl.length : Int) = 0 := by omega
  have ek : (k : Int) < (hl.length : Int) := by omega
  clear kp1 kp2 hkL hlm hlk hkE
  have HAF : Hid (nbs (hl.eraseIdx k) = actF kd sz pk at' by' q P.freeN (nbs hl)) := by
    show nbs (hl.eraseIdx k) = _
    have hln : (nbs hl).length = hl.length := by unfold nbs; rw [List.length_map]
    unfold actF
    rw [if_neg (by rw [hkd]; decide), if_neg (by rw [hkd]; decide), if_pos hkd, hln, HK.out.2.2.2, Int.toNat_natCast]
    unfold nbs
    rw [List.eraseIdx_eq_take_drop_succ, List.eraseIdx_eq_take_drop_succ]
    simp
  have HGv : Hid (∀ w, Ax C P (.slice va hl.length vc) (.slice ua hl.length uc) hl hl w → Calls Try.prog 18 #[.pointer (some ⟨C.pb, 0, none⟩), .int .i64 (C.i : Int), .int .i64 (l.buf : Int)] w fun e w' => ∃ P2, (e = .returned (.int .i64 0) ∧ ∃ x, P.cls[lm.cls]? = some x ∧ P2 = P.given C.i ⟨q, L⟩ k lm x) ∧ Ax C P2 (.slice va hl.length vc) (.slice ua hl.length uc) hl hl w') := fun w h => h.poolP (fun K hp => by
    have hlmk := HK.out.2.2.1
    injection hlmk with e1 _
    have hpl := place_at hp.ok HH.out.2.2.1 HH.out.2.1 HK.out.2.1
    rw [e1] at hpl
    obtain ⟨x, hx, _⟩ := hp.ok.ln C.i _ lm HH.out.2.1 (List.mem_of_getElem? HK.out.2.1)
    exact (hp.give (b := (l.buf : Int)) ⟨by omega, by omega⟩ HH.out.2.1 hpl HK.out.2.1 hx).mono fun e w' ⟨g1, g2, g3⟩ => ⟨⟨_, ⟨g1, x, hx, rfl⟩, g2⟩, g3⟩)
  have hie : Try.prog.info? 38 = some Try.t38 := by kernel_rfl
  have hie2 : Try.prog.info? 45 = some Try.t45 := by kernel_rfl
  go_enter Try.func23, Try.ntmps23
  go_upto_if 31 with fail
  rw [← HE.out.2.2, ← HE.out.2.1, ← HE.out.1]
  have HAc : Hid (∀ w : World, w.heap[C.ab]? = some (.cells C.av 60 (0, 0)) → w.cell? ⟨C.ab, 0, none⟩ = some (.int .i64 kd) ∧ w.cell? ⟨C.ab, 2, none⟩ = some (.int .i64 sz) ∧ w.cell? ⟨C.ab, 3, none⟩ = some (.int .i64 pk) ∧ w.cell? ⟨C.ab, 4, none⟩ = some (.int .i64 at') ∧ w.cell? ⟨C.ab, 5, none⟩ = some (.int .i64 by')) := fun w h => by
    rw [HEv.out] at h
    exact ⟨heap_cell h rfl, heap_cell h rfl, heap_cell h rfl, heap_cell h rfl, heap_cell h rfl⟩
  generalize World.alloc (World.alloc (World.alloc C.w0 _) _) _ = w1 at A1 ⊢
  go_cut [10] (fun s wx => w1 = wx ∧ ∃ k, s = .int .i64 k ∧ Hid (0 < hl.length → k = pickI pk hl.length))
  case first =>
    have kk3 := (HAc.out w1 A1.out.ba).2.2.1
    have kk1 := A1.out.cells.2.1
    by_cases h0 : 0 < hl.length
    · have e0 : (0 : Int) < (hl.length : Int) := by omega
      clear HK8 HH HE HEv
      go_wp2_with fail
      refine (HPk.out h0 _).mono ?_
      rintro e w' ⟨rfl, hw'⟩
      obtain rfl := hw'.symm
      go_wp2_with fail
      go_meet
      exact ⟨rfl, _, rfl, fun _ => rfl⟩
    · try (exfalso; omega)
      all_goals
        have e0 : ¬ (0 : Int) < (hl.length : Int) := by omega
        clear HK8 HH HE HEv
        go_wp2_with fail
        go_meet
        exact ⟨rfl, _, rfl, fun h => absurd h h0⟩
  case rest =>
  obtain ⟨hwx, KV, rfl, HKV⟩ := hcut
  subst hwx
  have kk0 := (HAc.out w1 A1.out.ba).1
  go_wp2_with fail
  refine (HK8.out _).mono ?_
  rintro e w' ⟨rfl, hw'⟩
  obtain rfl := hw'.symm
  clear HK8 kk0 HPk
  have HKk : Hid (KV = (k : Int)) := (HKV.out h0).trans HK.out.2.2.2
  obtain rfl := HKk.out
  clear HKV HKk HE HEv HAc
  obtain ⟨lg, ug, rfl, rfl, _⟩ := A1.out.kth HK.out.1
  have HKc : Hid (∀ P2 w j y, Ax C P2 (.slice (some ⟨lg, 0, none⟩) hl.length vc) (.slice (some ⟨ug, 0, none⟩) hl.length uc) hl hl w → hl[j]? = some y → w.cell? ⟨lg, j * 3, none⟩ = some (.int .i64 (y.buf : Int)) ∧ w.rangeAt lg (j * 3) [.int .i64 (y.buf : Int), .int .i64 (y.cls : Int), .int .i64 (y.size : Int)] ∧ w.cell? ⟨ug, j, none⟩ = some (.slice (some ⟨y.blk, 0, none⟩) y.size y.size)) := fun P2 w j y h hy => by
    obtain ⟨lg', ug', e1, e2, q1, q2, q3, q4, _⟩ := h.kth hy
    have e1 : (⟨lg, 0, none⟩ : Addr) = ⟨lg', 0, none⟩ := Option.some.inj e1
    injection e1 with e1
    subst e1
    have e2 : (⟨ug, 0, none⟩ : Addr) = ⟨ug', 0, none⟩ := Option.some.inj e2
    injection e2 with e2
    subst e2
    exact ⟨q1, range3 q1 q2 q3, q4⟩
  have HS : Hid (∀ P2 w, Ax C P2 (.slice (some ⟨lg, 0, none⟩) hl.length vc) (.slice (some ⟨ug, 0, none⟩) hl.length uc) hl hl w → w.cell? ⟨C.hb, 0, none⟩ = some (.int .i64 (C.i : Int)) ∧ w.cell? ⟨C.hb, 1, none⟩ = some (.slice (some ⟨lg, 0, none⟩) hl.length vc) ∧ w.cell? ⟨lg, k * 3, none⟩ = some (.int .i64 (l.buf : Int))) := fun P2 w h => ⟨h.cells.1, h.cells.2.1, (HKc.out P2 w k l h HK.out.1).1⟩
  have kl1 := A1.out.cells.2.1
  go_wp2_with fail
  refine wp_region_held_drew (S := fun w : World => w.cell? ⟨C.hb, 0, none⟩ = some (.int .i64 (C.i : Int)) ∧ w.cell? ⟨C.hb, 1, none⟩ = some (.slice (some ⟨lg, 0, none⟩) hl.length vc) ∧ w.cell? ⟨lg, k * 3, none⟩ = some (.int .i64 (l.buf : Int))) (by kernel_rfl) ?_ (fun hHeld => ?_)
  · exact HS.out P _ (A1.out.more (Up.refl w1).drew)
  have A2 : Hid (Ax C P (.slice (some ⟨lg, 0, none⟩) hl.length vc) (.slice (some ⟨ug, 0, none⟩) hl.length uc) hl hl (World.drew w1)) := A1.out.more (Up.refl w1).drew
  clear A1 kl1
  generalize World.drew w1 = wd at A2 hHeld ⊢
  refine wpAnyH_take (i := 0) (v := ?_) (by simp only [List.getElem?_toArray, List.getElem?_cons_zero]; rfl) (by kernel_rfl) (by kernel_rfl) (by kernel_rfl) (by intro _ _ _ h; exact h) (Or.inl ⟨by rfl, ?_⟩) (by assumption) ?_
  rotate_left
  · (intro w hSw; (try dsimp only at hSw); go_simp <;> with_reducible rfl)
  try simp only [Act.put, List.setIfInBounds_toArray, List.set_cons_zero, List.set_cons_succ]
  refine wpAnyH_take (i := 1) (v := ?_) (by simp only [List.getElem?_toArray, List.getElem?_cons_succ, List.getElem?_cons_zero]; rfl) (by kernel_rfl) (by kernel_rfl) (by kernel_rfl) (by intro _ _ _ h; exact h) (Or.inl ⟨by rfl, ?_⟩) (by assumption) ?_
  rotate_left
  · (intro w hSw; (try dsimp only at hSw); go_simp <;> with_reducible rfl)
  try simp only [Act.put, List.setIfInBounds_toArray, List.set_cons_zero, List.set_cons_succ]
  refine wpAnyH_take (i := 2) (v := ?_) (by simp only [List.getElem?_toArray, List.getElem?_cons_succ, List.getElem?_cons_zero]; rfl) (by kernel_rfl) (by kernel_rfl) (by kernel_rfl) (by intro _ _ _ h; exact h) (Or.inl ⟨by rfl, ?_⟩) (by assumption) ?_
  rotate_left
  · (intro w hSw; (try dsimp only at hSw); go_simp <;> with_reducible rfl)
  try simp only [Act.put, List.setIfInBounds_toArray, List.set_cons_zero, List.set_cons_succ]
  refine wpAnyH_take (i := 3) (v := ?_) (by simp only [List.getElem?_toArray, List.getElem?_cons_succ, List.getElem?_cons_zero]; rfl) (by kernel_rfl) (by kernel_rfl) (by kernel_rfl) (by intro _ _ _ h; exact h) (Or.inl ⟨by rfl, ?_⟩) (by assumption) ?_
  rotate_left
  · (intro w hSw; (try dsimp only at hSw); go_simp <;> with_reducible rfl)
  try simp only [Act.put, List.setIfInBounds_toArray, List.set_cons_zero, List.set_cons_succ]
  refine wpAnyH_take (i := 4) (v := ?_) (by simp only [List.getElem?_toArray, List.getElem?_cons_succ, List.getElem?_cons_zero]; rfl) (by kernel_rfl) (by kernel_rfl) (by kernel_rfl) (by intro _ _ _ h; exact h) (Or.inl ⟨by rfl, ?_⟩) (by assumption) ?_
  rotate_left
  · (intro w hSw; (try dsimp only at hSw); go_simp <;> with_reducible rfl)
  try simp only [Act.put, List.setIfInBounds_toArray, List.set_cons_zero, List.set_cons_succ]
  refine wpAnyH_take (i := 5) (v := ?_) (by simp only [List.getElem?_toArray, List.getElem?_cons_succ, List.getElem?_cons_zero]; rfl) (by kernel_rfl) (by kernel_rfl) (by kernel_rfl) (by intro _ _ _ h; exact h) (Or.inl ⟨by rfl, ?_⟩) (by assumption) ?_
  rotate_left
  · (intro w hSw; (try dsimp only at hSw); go_simp <;> with_reducible rfl)
  try simp only [Act.put, List.setIfInBounds_toArray, List.set_cons_zero, List.set_cons_succ]
  refine wpAnyH_take (i := 6) (v := ?_) (by simp only [List.getElem?_toArray, List.getElem?_cons_succ, List.getElem?_cons_zero]; rfl) (by kernel_rfl) (by kernel_rfl) (by kernel_rfl) (by intro _ _ _ h; exact h) (Or.inl ⟨by rfl, ?_⟩) (by assumption) ?_
  rotate_left
  · (intro w hSw; (try dsimp only at hSw); go_simp <;> with_reducible rfl)
  try simp only [Act.put, List.setIfInBounds_toArray, List.set_cons_zero, List.set_cons_succ]
  refine wpAnyH_take (i := 7) (v := ?_) (by simp only [List.getElem?_toArray, List.getElem?_cons_succ, List.getElem?_cons_zero]; rfl) (by kernel_rfl) (by kernel_rfl) (by kernel_rfl) (by intro _ _ _ h; exact h) (Or.inl ⟨by rfl, ?_⟩) (by assumption) ?_
  rotate_left
  · (intro w hSw; (try dsimp only at hSw); go_simp <;> with_reducible rfl)
  try simp only [Act.put, List.setIfInBounds_toArray, List.set_cons_zero, List.set_cons_succ]
  refine wpAnyH_take (i := 8) (v := ?_) (by simp only [List.getElem?_toArray, List.getElem?_cons_succ, List.getElem?_cons_zero]; rfl) (by kernel_rfl) (by kernel_rfl) (by kernel_rfl) (by intro _ _ _ h; exact h) (Or.inl ⟨by rfl, ?_⟩) (by assumption) ?_
  rotate_left
  · (intro w hSw; (try dsimp only at hSw); go_simp <;> with_reducible rfl)
  try simp only [Act.put, List.setIfInBounds_toArray, List.set_cons_zero, List.set_cons_succ]
  refine wpAnyH_ready (rs := [9]) (by kernel_rfl) (by simp) ?_
  refine AllReadyH.cons (by simp only [List.getElem?_toArray, List.getElem?_cons_succ, List.getElem?_cons_zero]; rfl) (fun KK hK => ?_) AllReadyH.nil
  go_simp
  refine (HGv.out wd A2.out).mono ?_
  rintro e w4 ⟨P2, ⟨rfl, hP2⟩, a4⟩
  have A4 : Hid (Ax C P2 (.slice (some ⟨lg, 0, none⟩) hl.length vc) (.slice (some ⟨ug, 0, none⟩) hl.length uc) hl hl w4) := a4
  have HEnd : Hid ((∃ L', P2.ars = P.ars.set C.i (some ⟨q, L'⟩) ∧ keys L' = keys (hl.eraseIdx k)) ∧ Cs n P2 ∧ nbs (hl.eraseIdx k) = actF kd sz pk at' by' q P.freeN (nbs hl)) := by
    obtain ⟨x, hx, rfl⟩ := hP2
    exact ⟨⟨L.eraseIdx k, rfl, keys_erase HH.out.1 k⟩, HH.out.2.2.1.setArn.setFree hx _, HAF.out⟩
  refine hK.out _ _ (HS.out P2 w4 A4.out) (fun hHeld => ?_)
  clear hK KK a4 hP2 HAF HH HGv A2
  try simp only [Act.put, List.setIfInBounds_toArray, List.set_cons_zero, List.set_cons_succ]
  refine wpAnyH_take (i := 10) (v := ?_) (by simp only [List.getElem?_toArray, List.getElem?_cons_succ, List.getElem?_cons_zero]; rfl) (by kernel_rfl) (by kernel_rfl) (by kernel_rfl) (by intro _ _ _ h; exact h) (Or.inl ⟨by rfl, ?_⟩) (by assumption) ?_
  rotate_left
  · (intro w hSw; (try dsimp only at hSw); go_simp <;> with_reducible rfl)
  try simp only [Act.put, List.setIfInBounds_toArray, List.set_cons_zero, List.set_cons_succ]
  refine wpAnyH_done (by kernel_rfl) ?_ _
  clear hHeld HS
  have H0 : Hid (Gr w4 (.slice none 0 0) (.slice none 0 0) (partN hl k 0) w4) := ⟨⟨rfl, Or.inl ⟨rfl, rfl⟩⟩, ⟨rfl, Or.inl ⟨rfl, rfl⟩⟩, Up.refl w4⟩
  go_wp2_with fail
  go_loopw [20, 21, 22] (fun V1 V2 I wr => ∃ i : Nat, i ≤ hl.length ∧ I = .int .i64 i ∧ Hid (Gr w4 V1 V2 (partN hl k i) wr)) (fun _ _ I _ => hl.length - (intOf I).toNat)
  case atStart => exact ⟨0, Nat.zero_le _, rfl, H0⟩
  case round =>
    clear H0
    obtain ⟨i, hi, rfl, M0⟩ := hrel
    obtain ⟨pa, pm, pc, rfl⟩ := own_slice3 M0.out.o1
    obtain ⟨ra, rm, rc, rfl⟩ := own_slice3 M0.out.o2
    have AW : Hid (Ax C P2 (.slice (some ⟨lg, 0, none⟩) hl.length vc) (.slice (some ⟨ug, 0, none⟩) hl.length uc) hl hl wr) := A4.out.more M0.out.up
    have kw1 := AW.out.cells.2.1
    have kw2 := AW.out.cells.2.2
    by_cases hlt : i < hl.length
    · have d1 : (i : Int) < (hl.length : Int) := by omega
      obtain ⟨x, hx⟩ : ∃ x, hl[i]? = some x := ⟨_, List.getElem?_eq_getElem hlt⟩
      by_cases hik : i = k
      · have HM : Hid (Gr w4 (.slice pa pm pc) (.slice ra rm rc) (partN hl k (i + 1)) wr) := by
          have e : partN hl k (i + 1) = partN hl k i := by
            rw [hik]
            exact partN_same hl k (by omega)
          show Gr w4 (.slice pa pm pc) (.slice ra rm rc) (partN hl k (i + 1)) wr
          rw [e]
          exact M0.out
        have d2 : ((i : Int) == (k : Int)) = true := by rw [hik]; simp
        have d3 : (i : Int) = (k : Int) := by omega
        clear M0 AW hx HEnd HK
        go_wp2_with fail
        refine ⟨⟨i + 1, by omega, by first | rfl | (simp; done) | (simp; omega), HM⟩, ?_⟩
        simp [intOf]
        omega
      · have d2 : ((i : Int) == (k : Int)) = false := beq_eq_false_iff_ne.2 (by omega)
        have d3 : ¬ (i : Int) = (k : Int) := by omega
        have HRx : Hid (wr.rangeAt lg (i * 3) [.int .i64 (x.buf : Int), .int .i64 (x.cls : Int), .int .i64 (x.size : Int)]) := (HKc.out P2 wr i x AW.out hx).2.1
        have HLp : Hid ((partN hl k i).length ≤ hl.length) := partN_len hl k i
        have HO1 : Hid ((wr.alloc (Obj.cells #[.int .i64 (x.buf : Int), .int .i64 (x.cls : Int), .int .i64 (x.size : Int)] 38)).ownsRow w4.heap.size 38 3 (.slice pa pm pc) (partN hl k i).length (leaseCells (partN hl k i))) := M0.out.o1.alloc _
        have HN1 : Hid (∀ j u, ([.int .i64 (x.buf : Int), .int .i64 (x.cls : Int), .int .i64 (x.size : Int)] : List Value)[j]? = some u → (wr.alloc (Obj.cells #[.int .i64 (x.buf : Int), .int .i64 (x.cls : Int), .int .i64 (x.size : Int)] 38)).cell? ((⟨wr.heap.size, 0, none⟩ : Addr).add j) = some u) := fun j u hu => by
          rw [Addr.add_lit, Nat.zero_add, cell_of_row _ _ _ _ _ _ (heap_alloc_new wr _)]
          simpa using hu
        have HX1 : Hid (∀ u ∈ ([.int .i64 (x.buf : Int), .int .i64 (x.cls : Int), .int .i64 (x.size : Int)] : List Value), u.oneCell' = true) := fun u hu => by
          simp at hu
          rcases hu with rfl | rfl | rfl <;> rfl
        have HB1 : Hid (w4.heap.size ≤ (wr.alloc (Obj.cells #[.int .i64 (x.buf : Int), .int .i64 (x.cls : Int), .int .i64 (x.size : Int)] 38)).heap.size) := Nat.le_trans M0.out.up.size ((Up.refl wr).alloc _).size
        have HT1 : Hid (∀ v' w', w'.ownsRow w4.heap.size 38 3 v' ((partN hl k i).length + 1) (leaseCells (partN hl k i) ++ [.int .i64 (x.buf : Int), .int .i64 (x.cls : Int), .int .i64 (x.size : Int)]) → (wr.alloc (Obj.cells #[.int .i64 (x.buf : Int), .int .i64 (x.cls : Int), .int .i64 (x.size : Int)] 38)).grownBy w' (Value.slice pa pm pc).ownBlock → w'.ownsRow w4.heap.size 38 3 v' (partN hl k i ++ [x]).length (leaseCells (partN hl k i ++ [x])) ∧ w'.ownsRow w4.heap.size 45 1 (.slice ra rm rc) (partN hl k i).length (byteCells (partN hl k i)) ∧ Up w4 w' ∧ w'.cell? ⟨C.hb, 2, none⟩ = some (.slice (some ⟨ug, 0, none⟩) hl.length uc) ∧ w'.cell? ⟨ug, i, none⟩ = some (.slice (some ⟨x.blk, 0, none⟩) x.size x.size)) := fun v' w' h1 h2 => by
          have hu := grown_up (base := 0) M0.out.up M0.out.o1 h2
          have aw := A4.out.more hu
          exact ⟨by rw [leaseCells_snoc, List.length_append]; exact h1, grown_other M0.out.o1 M0.out.o2 (by decide) h2, hu, aw.cells.2.2, (HKc.out P2 w' i x aw hx).2.2⟩
        have HT2 : Hid (∀ v1 w3 v' w', (w3.ownsRow w4.heap.size 38 3 v1 (partN hl k i ++ [x]).length (leaseCells (partN hl k i ++ [x])) ∧ w3.ownsRow w4.heap.size 45 1 (.slice ra rm rc) (partN hl k i).length (byteCells (partN hl k i)) ∧ Up w4 w3) → w'.ownsRow w4.heap.size 45 1 v' ((partN hl k i).length + 1) (byteCells (partN hl k i) ++ [.slice (some ⟨x.blk, 0, none⟩) x.size x.size]) → (w3.alloc (Obj.cells #[.slice (some ⟨x.blk, 0, none⟩) x.size x.size] 45)).grownBy w' (Value.slice ra rm rc).ownBlock → Gr w4 v1 v' (partN hl k (i + 1)) w') := fun v1 w3 v' w' h0 h1 h2 => by
          rw [partN_more hl k i hx hik]
          exact ⟨grown_other h0.2.1 h0.1 (by decide) h2, by rw [byteCells_snoc, List.length_append]; exact h1, grown_up (base := 0) h0.2.2 h0.2.1 h2⟩
        have HN2 : Hid (∀ (w3 : World) j u, ([.slice (some ⟨x.blk, 0, none⟩) x.size x.size] : List Value)[j]? = some u → (w3.alloc (Obj.cells #[.slice (some ⟨x.blk, 0, none⟩) x.size x.size] 45)).cell? ((⟨w3.heap.size, 0, none⟩ : Addr).add j) = some u) := fun w3 j u hu => by
          rw [Addr.add_lit, Nat.zero_add, cell_of_row _ _ _ _ _ _ (heap_alloc_new w3 _)]
          simpa using hu
        have HX2 : Hid (∀ u ∈ ([.slice (some ⟨x.blk, 0, none⟩) x.size x.size] : List Value), u.oneCell' = true) := fun u hu => by simp at hu; subst hu; rfl
        clear M0 AW hx HEnd HK A4 HKc
        generalize (partN hl k i).length = PL at *
        have hPL := HLp.out
        go_wp2_with (first
          | (refine wpList_load_mid rfl 38 _ rfl lg (i * 3) rfl [.int .i64 (x.buf : Int), .int .i64 (x.cls : Int), .int .i64 (x.size : Int)] _ HRx.out Try.underlying38 rfl (by kernel_rfl) ?_)
          | (at_builtin
             refine wpList_append_own_at2 _ rfl _ _ 41 41 rfl w4.heap.size 38 Try.t38 (.agg #[.int .i64 0, .int .i64 0, .int .i64 0]) 3 24 Try.underlying41 Try.underlying41 hie rfl rfl rfl rfl (by decide) (.slice pa pm pc) PL (leaseCells (partN hl k i)) rfl HO1.out ⟨wr.heap.size, 0, none⟩ 1 1 [.int .i64 (x.buf : Int), .int .i64 (x.cls : Int), .int .i64 (x.size : Int)] rfl rfl HN1.out HX1.out (by unfold maxLen; omega) (by omega) HB1.out ?_
             intro v' w3 hown hgrow hat
             have T1 : Hid _ := HT1.out v' w3 hown hgrow
             obtain ⟨pa', pm', pc', rfl⟩ := own_slice3 hown
             have kt2 := T1.out.2.2.2.1
             have kt3 := T1.out.2.2.2.2
             have HO2 : Hid ((w3.alloc (Obj.cells #[.slice (some ⟨x.blk, 0, none⟩) x.size x.size] 45)).ownsRow w4.heap.size 45 1 (.slice ra rm rc) PL (byteCells (partN hl k i))) := T1.out.2.1.alloc _
             have HB2 : Hid (w4.heap.size ≤ (w3.alloc (Obj.cells #[.slice (some ⟨x.blk, 0, none⟩) x.size x.size] 45)).heap.size) := Nat.le_trans T1.out.2.2.1.size ((Up.refl w3).alloc _).size
             clear hown hgrow hat HO1 HN1 HX1 HB1 HT1 HRx kw1 kw2)
          | (at_builtin
             refine wpList_append_own_at2 _ rfl _ _ 54 54 rfl w4.heap.size 45 Try.t45 (.slice none 0 0) 1 24 Try.underlying54 Try.underlying54 hie2 rfl rfl rfl rfl (by decide) (.slice ra rm rc) PL (byteCells (partN hl k i)) rfl HO2.out ⟨w3.heap.size, 0, none⟩ 1 1 [.slice (some ⟨x.blk, 0, none⟩) x.size x.size] rfl rfl (HN2.out w3) HX2.out (by unfold maxLen; omega) (by omega) HB2.out ?_
             intro v'' w5 hown hgrow hat
             have T2 : Hid _ := HT2.out _ w3 v'' w5 ⟨T1.out.1, T1.out.2.1, T1.out.2.2.1⟩ hown hgrow
             obtain ⟨ra', rm', rc', rfl⟩ := own_slice3 hown
             clear hown hgrow hat HO2 HN2 HX2 HB2 HT2 T1 kt2 kt3))
        refine ⟨⟨i + 1, by omega, by first | rfl | (simp; done), T2⟩, ?_⟩
        simp [intOf]
        omega
    · have d1 : ¬ (i : Int) < (hl.length : Int) := by omega
      obtain rfl : i = hl.length := by omega
      have zw1 := AW.out.fz 1
      have A9 : Hid (Ax C P2 (.slice pa pm pc) (.slice ra rm rc) (hl.eraseIdx k) (hl.eraseIdx k) ((wr.setCell ⟨C.hb, 1, none⟩ (.slice pa pm pc)).setCell ⟨C.hb, 2, none⟩ (.slice ra rm rc))) := by
        have m := M0.out
        rw [partN_all] at m
        exact A4.out.rows m.up m.o1 m.o2 (List.eraseIdx_sublist _ _) (fun b hb => own_ty m.o1 m.o2 (by decide) hb)
      have h21 := heap_setCell_same wr C.hb 1 _ _ (.slice pa pm pc) AW.out.bh
      have kw3 : (wr.setCell ⟨C.hb, 1, none⟩ (.slice pa pm pc)).cell? ⟨C.hb, 2, none⟩ = some (.slice (some ⟨ug, 0, none⟩) hl.length uc) := heap_cell h21 rfl
      have zw3 : (wr.setCell ⟨C.hb, 1, none⟩ (.slice pa pm pc)).frozen? ⟨C.hb, 2, none⟩ = false := heap_fz h21
      clear h21 AW M0 A4 HKc HK
      have HR : Hid (((wr.setCell ⟨C.hb, 1, none⟩ (.slice pa pm pc)).setCell ⟨C.hb, 2, none⟩ (.slice ra rm rc)).rangeAt C.hb 0 [.int .i64 (C.i : Int), .slice pa pm pc, .slice ra rm rc]) := range3 A9.out.cells.1 A9.out.cells.2.1 A9.out.cells.2.2
      have HB : Hid (((wr.setCell ⟨C.hb, 1, none⟩ (.slice pa pm pc)).setCell ⟨C.hb, 2, none⟩ (.slice ra rm rc)).heap[C.rb]? = some (.cells #[.int .i64 0, .slice none 0 0, .slice none 0 0] 56 (0, 0))) := A9.out.br
      go_wp2_with (first
        | (refine wpList_load_mid rfl 56 _ rfl C.hb 0 rfl [.int .i64 (C.i : Int), .slice pa pm pc, .slice ra rm rc] _ HR.out Try.underlying56 rfl (by kernel_rfl) ?_)
        | (refine wpList_store_rowTo rfl 56 _ _ rfl rfl C.rb #[.int .i64 (C.i : Int), .slice pa pm pc, .slice ra rm rc] rfl rfl 56 _ HB.out (by kernel_rfl) rfl (by simp [Value.oneCell']) ?_))
      have fr := (Fr.refl C.rb ((wr.setCell ⟨C.hb, 1, none⟩ (.slice pa pm pc)).setCell ⟨C.hb, 2, none⟩ (.slice ra rm rc))).setRow (cs := #[.int .i64 (C.i : Int), .slice pa pm pc, .slice ra rm rc])
      refine bodyPost_ret (v := .tuple #[.agg _, .bool true]) (results_row_tmp Try.results23 _ _ _ 56 _ (0, 0) _ rfl (setRow_heap _ _ _ _ _ _ HB.out) Try.underlying56 rfl (by kernel_rfl)) rfl ?_
      exact ⟨_, _, hl.eraseIdx k, P2, rfl, A9.out.done fr, HEnd.out⟩
end Go.Proofs.Yteijdcidemajfaa
