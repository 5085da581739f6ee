/- Arena: a take, what it uses. -/
import Derived.Test.YteijdcidemajfaaAtF
import Derived.Test.YteijdcidemajfaaArY
import Derived.Deep.DeepCutAuto
import Derived.StillTailTactics
namespace Go.Proofs.Yteijdcidemajfaa
open Go.RowKit
set_option linter.unusedVariables false
set_option linter.unusedSimpArgs false
variable {K K' O : Nat → Prop} {w w' W : World} {pb n : Nat} {P P' : Pl} {lv bv : Value} {ll bl hl L : List Loan} {C : Cx} {q : Int}
theorem own_ty {t1 t2 : TypeId} {s1 s2 n1 n2 g1 g2 : Nat} {v1 v2 : Value} {x1 x2 : List Value} (h1 : w.ownsRow g1 t1 s1 v1 n1 x1) (h2 : w.ownsRow g2 t2 s2 v2 n2 x2) (ht : t1 ≠ t2) {b : Nat} (e1 : v1.ownBlock = some b) : v2.ownBlock ≠ some b := fun e2 => by
  rcases h1.2 with ⟨rfl, _⟩ | ⟨g, cap, cur, rfl, _, hg, _⟩
  · cases e1
  · rcases h2.2 with ⟨rfl, _⟩ | ⟨g', cap', cur', rfl, _, hg', _⟩
    · cases e2
    · have e1 : g = b := Option.some.inj (show some g = some b from e1)
      have e2 : g' = b := Option.some.inj (show some g' = some b from e2)
      subst e1 e2
      rw [hg] at hg'
      injection hg' with hg'
      injection hg' with _ h
      exact ht h
theorem own_not {t1 t2 : TypeId} {s1 n1 g1 b : Nat} {v1 : Value} {x1 : List Value} {cs : Array Value} (h1 : w.ownsRow g1 t1 s1 v1 n1 x1) (hb : w.heap[b]? = some (.cells cs t2 (0, 0))) (ht : t1 ≠ t2) : v1.ownBlock ≠ some b := fun e => by
  rcases h1.2 with ⟨rfl, _⟩ | ⟨g, cap, cur, rfl, _, hg, _⟩
  · cases e
  · have e : g = b := Option.some.inj (show some g = some b from e)
    subst e
    rw [hg] at hb
    injection hb with hb
    injection hb with _ h
    exact ht h
theorem Ax.rowsOf (h : Ax C P lv bv ll bl w) : w.ownsRow 0 38 3 lv ll.length (leaseCells ll) ∧ w.ownsRow 0 45 1 bv bl.length (byteCells bl) := by
  obtain ⟨K, O, _, h2, _⟩ := h.at'
  exact ⟨h2.lo, h2.bo⟩
theorem Ax.leaseEq {l2 : List Loan} (h : Ax C P lv bv ll bl w) (e : leaseCells ll = leaseCells l2) (el : ll.length = l2.length) : Ax C P lv bv l2 bl w := by
  obtain ⟨K, O, h1, h2, h3⟩ := h.at'
  exact ⟨⟨K, O, h1, ⟨by rw [← e, ← el]; exact h2.lo, h2.bo, h2.by', h2.ol, h2.ob, h2.oy, h2.n1, h2.n2, h2.n3⟩, h3⟩, h.bh, h.ba, h.br, h.fk, h.z, h.zw, h.k0, h.d1, h.d2, h.d3⟩
/-- beside an act: the lease that was taken, and the list of those that were free -/
structure Be (xb : Nat) (X : List Nat) (fv : Value) (buf c has : Nat) (w : World) : Prop where
  x : w.heap[xb]? = some (.cells #[.int .i64 (buf : Int), .int .i64 (c : Int), .int .i64 (has : Int)] 38 (0, 0))
  f : w.ownsRow 0 3 1 fv X.length (nums X)
theorem Be.up {xb buf c has : Nat} {X : List Nat} {fv : Value} (h : Be xb X fv buf c has w) (u : Up w w') : Be xb X fv buf c has w' := ⟨(u.block _ (heap_at h.x)).trans h.x, ownsRow_up h.f u⟩
theorem Be.lease {xb buf c has : Nat} {X : List Nat} {fv : Value} {w1 : World} {o : Obj} {v' : Value} (h : Be xb X fv buf c has w) (A : Ax C P lv bv ll bl w) (hx : lv.ownBlock ≠ some xb) (hxb : xb ≠ C.hb) (gr : (w.alloc o).grownBy w1 lv.ownBlock) : Be xb X fv buf c has (w1.setCell ⟨C.hb, 1, none⟩ v') := by
  have ua := (Up.refl w).alloc o
  have hf : Fr C.hb w1 (w1.setCell ⟨C.hb, 1, none⟩ v') := (Fr.refl C.hb w1).setCell
  have g1 : ∀ b, b < w.heap.size → lv.ownBlock ≠ some b → w1.heap[b]? = w.heap[b]? := fun b hb hn => (gr.block b (Nat.lt_of_lt_of_le hb ua.size) (fun e => hn e.symm)).trans (ua.block b hb)
  have sz : w.heap.size ≤ w1.heap.size := Nat.le_trans ua.size gr.size
  have hxl := heap_at h.x
  refine ⟨(hf.block _ (Nat.lt_of_lt_of_le hxl sz) hxb).trans ((g1 _ hxl hx).trans h.x), ownsRow_block h.f (fun b hb => ?_)⟩
  have hbl := (own_lt0 h.f hb).2
  refine (hf.block b (Nat.lt_of_lt_of_le hbl sz) (fun e => ?_)).trans (g1 b hbl (fun e => own_ty A.rowsOf.1 h.f (by decide) e hb))
  exact own_not h.f (e ▸ A.bh) (by decide) hb
theorem Be.bytes {xb buf c has : Nat} {X : List Nat} {fv : Value} {wz w1 : World} {o : Obj} {v' : Value} (h : Be xb X fv buf c has w) (A : Ax C P lv bv ll bl w) (u : Up w wz) (hxb : xb ≠ C.hb) (gr : (wz.alloc o).grownBy w1 bv.ownBlock) : Be xb X fv buf c has (w1.setCell ⟨C.hb, 2, none⟩ v') := by
  have ua := u.alloc o
  have hf : Fr C.hb w1 (w1.setCell ⟨C.hb, 2, none⟩ v') := (Fr.refl C.hb w1).setCell
  have g1 : ∀ b, b < w.heap.size → bv.ownBlock ≠ some b → w1.heap[b]? = w.heap[b]? := fun b hb hn => (gr.block b (Nat.lt_of_lt_of_le hb ua.size) (fun e => hn e.symm)).trans (ua.block b hb)
  have sz : w.heap.size ≤ w1.heap.size := Nat.le_trans ua.size gr.size
  have hxl := heap_at h.x
  refine ⟨(hf.block _ (Nat.lt_of_lt_of_le hxl sz) hxb).trans ((g1 _ hxl (own_not A.rowsOf.2 h.x (by decide))).trans h.x), ownsRow_block h.f (fun b hb => ?_)⟩
  have hbl := (own_lt0 h.f hb).2
  refine (hf.block b (Nat.lt_of_lt_of_le hbl sz) (fun e => ?_)).trans (g1 b hbl (fun e => own_ty A.rowsOf.2 h.f (by decide) e hb))
  exact own_not h.f (e ▸ A.bh) (by decide) hb
theorem own_base {ty : TypeId} {size n base : Nat} {v : Value} {xs : List Value} (h : w.ownsRow 0 ty size v n xs) (hb : ∀ b, v.ownBlock = some b → base ≤ b) : w.ownsRow base ty size v n xs :=
  ⟨h.1, h.2.imp id fun ⟨g, cap, cur, q1, _, q3⟩ => ⟨g, cap, cur, q1, hb g (by rw [q1]; rfl), q3⟩⟩
theorem own_zero {ty : TypeId} {size n base : Nat} {v : Value} {xs : List Value} (h : w.ownsRow base ty size v n xs) : w.ownsRow 0 ty size v n xs :=
  ⟨h.1, h.2.imp id fun ⟨g, cap, cur, q1, _, q3⟩ => ⟨g, cap, cur, q1, Nat.zero_le _, q3⟩⟩
set_option maxRecDepth 100000 in
theorem free_new {R : Nat → Option Role} {A : Ad} {c : Nat} {x : Cls} (h : PlR R K W pb A P) (ok : Ok P) (hx : P.cls[c]? = some x) :
    Calls Try.prog 25 #[.pointer (some ⟨pb, 0, none⟩), .int .i64 (c : Int)] W fun e w' => ∃ v, e = .returned v ∧ w'.ownsRow W.heap.size 3 1 v x.free.length (nums x.free) ∧ Up W w' := by
  have hcl := (List.getElem?_eq_some_iff.1 hx).1
  have nc := ok.nc
  have hfm : x.free.length ≤ 512 := by
    have := (ok.pm c x hx).length_eq
    have h2 := (ok.my c x hx).1
    rw [List.length_append, List.length_range'] at this
    omega
  obtain ⟨f1, f2, f3⟩ := h.free c x hx
  obtain ⟨cs, c1, c2⟩ := h.cls
  have c3 := c2 c x hx
  have k0 : W.cell? ⟨pb, 0, none⟩ = some (.slice (some ⟨A.cb, 0, none⟩) P.cls.length A.nc) := heap_cell h.pool rfl
  have hnc1 := h.nc.1
  have hnc2 : A.nc ≤ 9223372036854775807 := by have := h.nc.2; unfold maxLen at this; omega
  have d1 : (c : Int) < (P.cls.length : Int) := by omega
  have d2 : ¬ (c : Int) < 0 := by omega
  have d3 : ¬ (P.cls.length : Int) ≤ (c : Int) := by omega
  rcases own_cases f1 with ⟨hv, hn, hxs⟩ | ⟨g, cap, hv, hc1, hc2, hg, hgo⟩
  · have k1 : W.cell? ⟨A.cb, c * 2 + 1, none⟩ = some (.slice none 0 0) := by
      have := c3.2
      rw [hv] at this
      exact heap_cell c1 this
    have HC : Hid (Calls Try.prog 46 #[.slice none 0 0] W fun e w' => e = .returned (.slice none 0 0) ∧ w' = W) := Go.Proofs.AnyE.slices_Clone_nil cloI 0 0 W
    have HE : Hid (W.ownsRow W.heap.size 3 1 (.slice none 0 0) x.free.length (nums x.free) ∧ Up W W) := ⟨own_base (hv ▸ f1) (fun b e => by cases e), Up.refl W⟩
    clear h ok hx f1 f2 f3 c1 c2 c3 hv hn hxs
    go_enter Try.func25, Try.ntmps25
    go_wp2_with fail
    refine Calls.mono HC.out ?_
    rintro e w' ⟨rfl, hw'⟩
    obtain rfl := hw'.symm
    go_wp2_with fail
    go_ret
    exact ⟨_, by first | rfl | (simp; done), HE.out⟩
  · have k1 : W.cell? ⟨A.cb, c * 2 + 1, none⟩ = some (.slice (some ⟨g, 0, none⟩) x.free.length cap) := by
      have := c3.2
      rw [hv] at this
      exact heap_cell c1 this
    rw [hv] at f1
    have HC : Hid _ := cloneI_any (cap := cap) rfl (by omega) (fun k hk => own_cell f1 k (by omega))
    have hcm : cap ≤ 9223372036854775807 := by unfold maxLen at hc2; omega
    clear h ok hx f1 f2 f3 c1 c2 c3 hv hgo hc2
    go_enter Try.func25, Try.ntmps25
    go_wp2_with fail
    refine Calls.mono HC.out ?_
    rintro e w2 ⟨g', cap', rfl, hg', ho, uu⟩
    have HE : Hid (w2.ownsRow W.heap.size 3 1 (.slice (some ⟨g', 0, none⟩) x.free.length cap') x.free.length (nums x.free) ∧ Up W w2) := ⟨own_base ho (fun b e => by have := Option.some.inj (show some g' = some b from e); omega), uu⟩
    clear ho uu hg'
    go_wp2_with fail
    go_ret
    exact ⟨_, by first | rfl | (simp; done), HE.out⟩
/-- a call on the pool, behind which blocks that were made just now are as they were -/
theorem Ax.poolN {f : Nat} {args : Array Value} {Q : Ending → Pl → Prop} {w1 : World} (h : Ax C P lv bv ll bl w1) (u : Up w1 w) (c : ∀ K, Pb C.W K C.pb P w → Calls Try.prog f args w fun e w' => (∃ P', Q e P' ∧ Pb C.W K C.pb P' w') ∧ FK K w w') :
    Calls Try.prog f args w fun e w' => ∃ P', Q e P' ∧ Ax C P' lv bv ll bl w' ∧ ∀ b, w1.heap.size ≤ b → b < w.heap.size → w'.heap[b]? = w.heap[b]? := by
  obtain ⟨K, O, h1, h2, h3, h4, h5, h6⟩ := h.at'
  have A2 := h.more u
  have p2 : Pb C.W (fun b => K b ∨ (w1.heap.size ≤ b ∧ b < w.heap.size)) C.pb P w := h1.moreK u (fun b hb => hb) (fun b hb => Or.inl (h1.ko b hb))
  have h22 := h2.same (w' := w) (fun b hb _ => u.block b hb)
  refine (c _ p2).mono fun e w' ⟨⟨P', q1, q2⟩, q3⟩ => ⟨P', q1, ⟨⟨_, O, q2, h22.same (fun b hb ho => q3.block b hb (Or.inl (h3 b ho).1)), fun b hb => ⟨Or.inl (h3 b hb).1, (h3 b hb).2⟩, fun b hb => ⟨Or.inl (h4 b hb).1, (h4 b hb).2⟩, h5, fun b hb => Or.inl (h6 b hb)⟩, ?_, ?_, ?_, ?_, h.z, h.zw, h.k0, h.d1, h.d2, h.d3⟩, fun b hb1 hb2 => q3.block b hb2 (Or.inr ⟨hb1, hb2⟩)⟩
  · exact (q3.block _ (heap_at A2.bh) (Or.inl (h4 _ (Or.inl rfl)).1)).trans A2.bh
  · exact (q3.block _ (heap_at A2.ba) (Or.inl (h4 _ (Or.inr (Or.inl rfl))).1)).trans A2.ba
  · exact (q3.block _ (heap_at A2.br) (Or.inl (h4 _ (Or.inr (Or.inr rfl))).1)).trans A2.br
  · exact A2.fk.trans (q3.mono (fun b _ hb => Or.inl (h6 b hb.1)))
end Go.Proofs.Yteijdcidemajfaa
