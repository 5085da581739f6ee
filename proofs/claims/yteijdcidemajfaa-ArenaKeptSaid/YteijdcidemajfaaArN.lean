/- Arena: a buffer is laid back. -/
import Derived.Test.YteijdcidemajfaaArL
import Derived.StillTailTactics
namespace Go.Proofs.Yteijdcidemajfaa
open Go.RowKit Go.Lib
set_option linter.unusedVariables false
theorem still_of_quiet {P : Program} {ops : Array Oper} {w0 : World} {Q : Act → Prop} : ∀ (l : List Oper) (a : Act), wpQuiet P ops (fun w' => w' = w0) Q l a → wpStill P ops w0 Q l a
  | [], a, h => h
  | o :: rest, a, h => by
    unfold wpQuiet at h
    unfold wpStill
    split
    · rename_i hw
      rw [if_pos hw] at h
      obtain ⟨v, h1, h2⟩ := h
      have h3 := h1 w0 rfl
      have h4 := still_of_quiet rest _ h2
      unfold Oper.quietAt at h3
      unfold Oper.still
      generalize (execOp a.eval o).run P w0 = r at *
      cases r with
      | ok n w' =>
        cases n <;> simp only [Oper.quietUpon] at h3 <;> simp only [Oper.stillUpon]
        case value u =>
          obtain ⟨e1, e2⟩ := h3
          subst e2
          exact ⟨e1, h4⟩
        case skip =>
          obtain ⟨e1, e2⟩ := h3
          subst e2
          exact ⟨e1, h4⟩
        case enter f args =>
          exact ⟨h3.1, v, h3.2, h4⟩
      | _ => simp only [Oper.quietUpon] at h3
    · rename_i hw
      rw [if_neg hw] at h
      exact still_of_quiet rest _ h
theorem wp_still2 {P : Program} {id : Nat} {Q : Exit → Act → World → Prop} {a : Act} {w : World} {l : List Oper} (n : Nat) (hm : P.follows .mixedOrders = true) (hB : Region.lexTailB .any l.toArray n = true)
    (h : ∀ w1, w1 = w.drew → wpQuiet P l.toArray (fun w' => w' = w1) (fun a' => wpList P l.toArray Q (l.drop n) a' w1) (l.take n) a) : (Code.region id l.toArray true).wp P Q a w :=
  wp_region_still_tail n hm hB (still_of_quiet _ _ (h w.drew rfl))
set_option maxRecDepth 100000 in
set_option maxHeartbeats 2000000 in
theorem insI_last {W : World} {g n cap vb : Nat} {xs : List Value} {x : Value} (own : W.ownsRow 0 3 1 (.slice (some ⟨g, 0, none⟩) n cap) n xs) (hroom : n + 1 ≤ cap) (hv : W.heap[vb]? = some (.cells #[x] 3 (0, 0))) (hvb : vb ≠ g) (h1 : x.oneCell' = true) :
    Calls Try.prog 63 #[.slice (some ⟨g, 0, none⟩) n cap, .int .i64 n, .slice (some ⟨vb, 0, none⟩) 1 1] W fun e w' => e = .returned (.slice (some ⟨g, 0, none⟩) (n + 1) cap) ∧ w'.ownsRow 0 3 1 (.slice (some ⟨g, 0, none⟩) (n + 1) cap) (n + 1) (xs ++ [x]) ∧ Fr g W w' := by
  obtain ⟨cur, hg, hb, hc, hm, hs, ht, hl⟩ := own_open own
  rw [Nat.mul_one] at hs hl ht
  have hm2 : cap ≤ 9223372036854775807 := by unfold maxLen at hm; omega
  have hcur : ∀ k, k < n → cur[k]? = xs[k]? := fun k hk => own_at (size := 1) (by rw [Nat.mul_one]; exact ht) k (by omega)
  have HC : Hid (∀ j, j < [x].length → (W.cell? ⟨g, 0 + n + j, none⟩).isSome = true) := fun j hj => by
    simp at hj
    rw [cell_of_row _ _ _ _ _ _ hg, Array.getElem?_eq_getElem (by omega)]
    rfl
  have HF : Hid (∀ j, j < [x].length → W.frozen? ⟨g, 0 + n + j, none⟩ = false) := fun j hj => by simp [World.frozen?, hg]
  have HS : Hid (Src Try.prog 1 22 (.slice (some ⟨vb, 0, none⟩) 1 1) 1 [x] W) := Src.ofSlice W Try.underlying22 ⟨vb, 0, none⟩ 1 1 [x] rfl (fun j u hj => by
    match j, hj with
    | 0, hj =>
      rw [Addr.add_lit, cell_of_row _ _ _ _ _ _ hv]
      simpa using hj
    | j + 1, hj => simp at hj) (by intro u hu; simp at hu; subst hu; exact h1)
  have HE : Hid ((W.setCells g (0 + n) [x]).ownsRow 0 3 1 (.slice (some ⟨g, 0, none⟩) (n + 1) cap) (n + 1) (xs ++ [x]) ∧ Fr g W (W.setCells g (0 + n) [x])) := by
    refine ⟨own_of (cur := putL cur n [x]) ?_ hb hroom hm (by rw [putL_size, hs, Nat.mul_one]) (by simp; omega) (fun k hk => ?_), fr_setCells g [x] (0 + n) W⟩
    · rw [show 0 + n = n by omega]
      exact heap_setCells_same g _ _ _ _ W hg
    · rw [Nat.mul_one] at hk
      rw [putL_at _ _ _ _ (by simp; omega)]
      simp only [List.length_cons, List.length_nil]
      by_cases e : k = n
      · subst e
        rw [if_pos (by omega), Nat.sub_self, List.getElem?_append_right (by omega), hl, Nat.sub_self]
      · rw [if_neg (by omega), hcur k (by omega), List.getElem?_append_left (by omega)]
  clear own hg hb hs ht hl hcur hv h1 hm hvb
  go_enter Try.func63, Try.ntmps63
  go_wp2_with (at_builtin; refine wpList_append_room1 _ rfl _ _ 92 22 rfl 3 (.int .i64 0) 8 Try.underlying92 (by kernel_rfl) g 0 n cap rfl _ rfl 1 [x] HS.out hroom HC.out HF.out ?_)
  all_goals
    go_ret
    have he := HE.out
    rw [Nat.zero_add] at he
    exact ⟨rfl, he⟩
set_option maxRecDepth 100000 in
set_option maxHeartbeats 1000000 in
/-- put where there is room, wherever -/
theorem putI_room {W : World} {q o x i g cap : Nat} {l : List Nat} {cs : Array Value} {ty : TypeId} (hq : W.heap[q]? = some (.cells cs ty (0, 0))) (ho : cs[o]? = some (.slice (some ⟨g, 0, none⟩) l.length cap)) (own : W.ownsRow 0 3 1 (.slice (some ⟨g, 0, none⟩) l.length cap) l.length (nums l)) (hb : g ≠ q) (hi : i ≤ l.length) (hr : l.length + 1 ≤ cap) :
    Calls Try.prog 32 #[.pointer (some ⟨q, o, none⟩), .int .i64 (i : Int), .int .i64 (x : Int)] W fun e w' => e = .returned (.tuple #[]) ∧ Chg W w' q o (.slice (some ⟨g, 0, none⟩) l.length cap) (.slice (some ⟨g, 0, none⟩) (l.length + 1) cap) ∧ w'.ownsRow 0 3 1 (.slice (some ⟨g, 0, none⟩) (l.length + 1) cap) (l.length + 1) (nums (l.take i ++ x :: l.drop i)) := by
  by_cases hlt : i < l.length
  · exact putI_mid hq ho own hb hlt hr
  · obtain rfl : i = l.length := by omega
    have hql := heap_at hq
    have hgl : g < W.heap.size := by
      obtain ⟨cur, hg, _⟩ := own_open own
      exact heap_at hg
    have HW : Hid (W.heap[q]? = some (.cells cs ty (0, 0)) ∧ cs[o]? = some (.slice (some ⟨g, 0, none⟩) l.length cap) ∧ W.ownsRow 0 3 1 (.slice (some ⟨g, 0, none⟩) l.length cap) l.length (nums l) ∧ g ≠ q) := ⟨hq, ho, own, hb⟩
    have kq := heap_cell hq ho
    clear hq ho own hb
    go_enter Try.func32, Try.ntmps32
    go_wp2_with fail
    have ua : Up W (W.alloc (Obj.cells #[.int .i64 (x : Int)] 3)) := (Up.refl W).alloc _
    have ka : (W.alloc (Obj.cells #[.int .i64 (x : Int)] 3)).heap[W.heap.size]? = some (.cells #[.int .i64 (x : Int)] 3 (0, 0)) := heap_alloc_new W _
    have HI : Hid _ := insI_last (ownsRow_up HW.out.2.2.1 ua) hr ka (by omega) rfl
    have HU : Hid (Up W (W.alloc (Obj.cells #[.int .i64 (x : Int)] 3))) := ua
    clear ua ka
    generalize World.alloc W _ = Wa at HI HU ⊢
    generalize W.heap.size = sz at HI ⊢
    refine Calls.mono HI.out ?_
    rintro e w1 ⟨rfl, hown, hf⟩
    have HG : Hid (w1.ownsRow 0 3 1 (.slice (some ⟨g, 0, none⟩) (l.length + 1) cap) (l.length + 1) (nums (l.take l.length ++ x :: l.drop l.length)) ∧ Chg W (w1.setCell ⟨q, o, none⟩ (.slice (some ⟨g, 0, none⟩) (l.length + 1) cap)) q o (.slice (some ⟨g, 0, none⟩) l.length cap) (.slice (some ⟨g, 0, none⟩) (l.length + 1) cap)) := ⟨by rw [List.take_length, List.drop_length, ← nums_append]; exact hown, Chg.fr HU.out hf (heap_at HW.out.1) HW.out.2.2.2⟩
    have hq1 : w1.heap[q]? = some (.cells cs ty (0, 0)) := (hf.block q (Nat.lt_of_lt_of_le (heap_at HW.out.1) HU.out.size) (fun e => HW.out.2.2.2 e.symm)).trans ((HU.out.block q (heap_at HW.out.1)).trans HW.out.1)
    have k1 := heap_cell hq1 HW.out.2.1
    have z1 : w1.frozen? ⟨q, o, none⟩ = false := heap_fz hq1
    clear hown hf HI hq1
    go_wp2_with fail
    go_end0
    refine ⟨rfl, HG.out.2, ?_⟩
    exact ownsRow_block HG.out.1 (fun g' hg => ((Fr.refl q w1).setCell).block g' (HG.out.1.lt g' hg).2 (fun e => HW.out.2.2.2 (by have := Option.some.inj (show some g = some g' from hg); omega)))
variable {R : Nat → Option Role} {K K' : Nat → Prop} {w w' W : World} {pb : Nat} {A : Ad} {P : Pl}
/-- a number laid among rising ones -/
def insN (b : Nat) (f : List Nat) : List Nat := f.take (f.findIdx (fun y => decide (b < y))) ++ b :: f.drop (f.findIdx (fun y => decide (b < y)))
theorem insN_len (b : Nat) (f : List Nat) : (insN b f).length = f.length + 1 := by
  unfold insN
  have : f.findIdx (fun y => decide (b < y)) ≤ f.length := List.findIdx_le_length
  simp
  omega
set_option maxRecDepth 100000 in
set_option maxHeartbeats 2000000 in
theorem release_any {l : Loan} {x : Cls} (h : PlR R K W pb A P) (hx : P.cls[l.cls]? = some x) (hr : x.free.length + 1 ≤ x.many) (hc : P.cls.length ≤ 8) :
    Calls Try.prog 34 #[.pointer (some ⟨pb, 0, none⟩), .agg l.cells.toArray] W fun e w' => e = .returned (.tuple #[]) ∧ (∃ R' A', PlR R' K w' pb A' (P.setFree l.cls x (insN l.buf x.free)) ∧ A'.ar = A.ar ∧ A'.lv = A.lv ∧ A'.ab = A.ab ∧ A'.cb = A.cb ∧ (∀ b r, R b = some r → R' b = some r)) ∧ FK K W w' := by
  obtain ⟨f1, f2, f3⟩ := h.free l.cls x hx
  have hcl := (List.getElem?_eq_some_iff.1 hx).1
  obtain ⟨g, cap, hv, hnc, hm, hg, hob⟩ : ∃ g cap, A.fv l.cls = .slice (some ⟨g, 0, none⟩) x.free.length cap ∧ x.free.length ≤ cap ∧ cap ≤ maxLen ∧ g < W.heap.size ∧ (A.fv l.cls).ownBlock = some g := by
    rcases own_cases f1 with ⟨hv, hn, _⟩ | ⟨g, cap, hv, h2, h3, h4, h5⟩
    · rw [hv] at f3
      have f3 : x.many ≤ 0 := f3
      omega
    · exact ⟨g, cap, hv, h2, h3, h4, h5⟩
  have hroom : x.free.length + 1 ≤ cap := by
    rw [hv] at f3
    have f3 : x.many ≤ cap := f3
    omega
  have hrg := f2 g hob
  have hgc : g ≠ A.cb := fun e => by rw [e, h.rc] at hrg; cases hrg
  obtain ⟨cs, c1, c2⟩ := h.cls
  have c3 := (c2 l.cls x hx).2
  rw [hv] at f1 c3
  have hnc2 := h.nc
  have HH : Hid (PlR R K W pb A P ∧ P.cls[l.cls]? = some x ∧ A.fv l.cls = .slice (some ⟨g, 0, none⟩) x.free.length cap ∧ x.many ≤ cap) := ⟨h, hx, hv, by rw [hv] at f3; exact f3⟩
  have ua : Up W (W.alloc (Obj.cells l.cells.toArray 104)) := (Up.refl W).alloc _
  have ka : (W.alloc (Obj.cells l.cells.toArray 104)).heap[W.heap.size]? = some (.cells l.cells.toArray 104 (0, 0)) := heap_alloc_new W _
  have HU : Hid (∀ w, Up (W.alloc (Obj.cells l.cells.toArray 104)) w → Up W w ∧ w.cell? ⟨pb, 0, none⟩ = some (.slice (some ⟨A.cb, 0, none⟩) P.cls.length A.nc) ∧ w.cell? ⟨W.heap.size, 0, none⟩ = some (.int .i64 (l.buf : Int)) ∧ w.cell? ⟨W.heap.size, 1, none⟩ = some (.int .i64 (l.cls : Int)) ∧ w.cell? ⟨A.cb, l.cls * 2 + 1, none⟩ = some (.slice (some ⟨g, 0, none⟩) x.free.length cap) ∧ w.heap[A.cb]? = some (.cells cs 94 (0, 0)) ∧ w.ownsRow 0 3 1 (.slice (some ⟨g, 0, none⟩) x.free.length cap) x.free.length (nums x.free)) := fun w u => by
    have uw := ua.trans u
    have kb := (u.block _ (heap_at ka)).trans ka
    exact ⟨uw, heap_cell ((uw.block pb (heap_at h.pool)).trans h.pool) rfl, heap_cell kb rfl, heap_cell kb rfl, heap_cell ((uw.block _ (heap_at c1)).trans c1) c3, (uw.block _ (heap_at c1)).trans c1, ownsRow_up f1 uw⟩
  have HC3 : Hid (cs[l.cls * 2 + 1]? = some (.slice (some ⟨g, 0, none⟩) x.free.length cap)) := c3
  have hcap2 : A.nc ≤ 9223372036854775807 := by have := hnc2.2; unfold maxLen at this; omega
  have hcap1 := hnc2.1
  have d1 : (l.cls : Int) < (P.cls.length : Int) := by omega
  have hfi : x.free.findIdx (fun y => decide (l.buf < y)) ≤ x.free.length := List.findIdx_le_length
  have HE : Hid (∀ w w' : World, Up W w → Chg w w' A.cb (l.cls * 2 + 1) (.slice (some ⟨g, 0, none⟩) x.free.length cap) (.slice (some ⟨g, 0, none⟩) (x.free.length + 1) cap) → w'.ownsRow 0 3 1 (.slice (some ⟨g, 0, none⟩) (x.free.length + 1) cap) (x.free.length + 1) (nums (insN l.buf x.free)) → (∃ R' A', PlR R' K w' pb A' (P.setFree l.cls x (insN l.buf x.free)) ∧ A'.ar = A.ar ∧ A'.lv = A.lv ∧ A'.ab = A.ab ∧ A'.cb = A.cb ∧ (∀ b r, R b = some r → R' b = some r)) ∧ FK K W w') := fun w w' u ch ow => by
    have hp := h.up u
    rw [← hv] at ch
    have := hp.free_chg (v' := .slice (some ⟨g, 0, none⟩) (x.free.length + 1) cap) (f := insN l.buf x.free) hx ch (by rw [insN_len]; exact ow) HH.out.2.2.2
    refine ⟨⟨_, _, this.1, rfl, rfl, rfl, rfl, fun b r hr => roleAt_old hr (fun e => ?_)⟩, (FK.ofUp u).trans this.2⟩
    injection e with e
    rw [← e, hrg] at hr
    injection hr with hr
    exact hr.symm
  have hsb : W.heap.size ≠ A.cb := by have := heap_at c1; omega
  clear h hx f1 f2 f3 hob hrg c1 c2 c3 hv hm hg hnc hnc2 ka ua
  unfold Loan.cells at *
  go_enter Try.func34, Try.ntmps34
  go_wp2_with fail
  generalize World.alloc W _ = Wa at HU ⊢
  generalize W.heap.size = lb at *
  obtain ⟨u0, k0, k1, k2, k3, k4, k5⟩ := HU.out Wa (Up.refl Wa)
  clear u0 k4 k5
  go_quiet (fail)
  have uq := Up.drewN Wa nq
  generalize Wa.drewN nq = Wb at uq ⊢
  go_wp2_with fail
  refine wp_still2 9 (by kernel_rfl) (by decide +kernel) ?_
  intro w1 hw1
  have u1 : Up Wa w1 := by rw [hw1]; exact uq.drew
  clear hw1 uq k0 k1 k2 k3
  obtain ⟨u2, k0, k1, k2, k3, k4, k5⟩ := HU.out w1 u1
  have HF : Hid _ := findI_any k5 k1
  have HP : Hid _ := putI_room (x := l.buf) k4 HC3.out k5 hgc hfi hroom
  have HU2 : Hid (Up W w1) := u2
  clear k4 k5 u2 u1
  simp only [List.take_succ_cons, List.take_zero, List.drop_succ_cons, List.drop_zero]
  repeat (go_big_quiet_step (fail))
  go_big_quiet_want
  go_big_quiet_op
  refine ⟨_, HF.out, ?_⟩
  go_big_quiet_on
  repeat (go_big_quiet_step (fail))
  refine wpQuiet_nil ?_
  go_wp2_with fail
  refine Calls.mono HP.out ?_
  rintro e w2 ⟨rfl, ch, ow⟩
  have HG : Hid _ := HE.out w1 w2 HU2.out ch ow
  clear ch ow HP HF
  go_wp2_with fail
  go_end0
  exact ⟨rfl, HG.out⟩
end Go.Proofs.Yteijdcidemajfaa
