/- Arena: New. -/
import Derived.Test.YteijdcidemajfaaArP
namespace Go.Proofs.Yteijdcidemajfaa
open Go.RowKit
set_option linter.unusedVariables false
theorem wp_append_at {P : Program} (w : World) {o : Oper} {a : Act} {K : Act → World → Prop} {Q : Exit → Act → World → Prop} (s x : Operand) (t : TypeId)
    (ho : o.op = .call { callee := .builtin .append, args := #[s, x], argTypes := #[t, t] })
    (base : Nat) (e : TypeId) (i : TypeInfo) (z : Value) (size bytes : Nat) (ht : P.underlying t = some (.slice e)) (hi : P.info? e = some i) (hz : i.zero = some z)
    (hsize : i.size = size) (hby : i.bytes = bytes) (hzs : z.cells.size = size) (hsz : 0 < size)
    (v : Value) (n : Nat) (xs : List Value) (hs : a.eval s = v) (hown : w.ownsRow base e size v n xs)
    (ad : Addr) (m c : Nat) (news : List Value) (hx : a.eval x = .slice (some ad) m c) (hl : news.length = m * size) (hnews : ∀ j u, news[j]? = some u → w.cell? (ad.add j) = some u) (h1 : ∀ u ∈ news, u.oneCell' = true)
    (h63 : n + m ≤ maxLen) (hbytes : (n + m) * bytes ≤ 140737488355328) (hbase : base ≤ w.heap.size)
    (h : ∀ v' w', w'.ownsRow base e size v' (n + m) (xs ++ news) → w.grownBy w' v.ownBlock → (v'.ownBlock = v.ownBlock ∨ v'.ownBlock = some w.heap.size) → K (a.put o.dst v') w') : o.wp P a w K Q := by
  obtain ⟨v', w', hr, h2, h3, _, h5⟩ := run_append_own_at (P := P) w base t o.type e i z size bytes ht hi hz hsize hby hzs hsz v n xs hown ad m c news hl hnews h1 h63 hbytes hbase
  unfold Oper.wp execOp
  simp only [ho, resolve, invoke, builtin, Sem.run_bind, Sem.run_pure, Result.andThen_ok, List.map_toArray, List.map_cons, List.map_nil, hs, hx, hr]
  exact h v' w' h2 h3 h5
variable {W : World}
/-- classes by their configuration: all free -/
def mkCls : Nat → List (Nat × Nat) → List Cls
  | _, [] => []
  | s, x :: r => ⟨x.1, s, x.2, List.range' s x.2⟩ :: mkCls (s + x.2) r
def manyOf (cf : List (Nat × Nat)) : Nat := (cf.map (·.2)).sum
theorem mkCls_len : ∀ (s : Nat) (cf : List (Nat × Nat)), (mkCls s cf).length = cf.length
  | _, [] => rfl
  | s, x :: r => by simp [mkCls, mkCls_len]
theorem mkCls_snoc : ∀ (s : Nat) (cf : List (Nat × Nat)) (x : Nat × Nat), mkCls s (cf ++ [x]) = mkCls s cf ++ [⟨x.1, s + manyOf cf, x.2, List.range' (s + manyOf cf) x.2⟩]
  | s, [], x => by simp [mkCls, manyOf]
  | s, y :: r, x => by
    show _ :: mkCls (s + y.2) (r ++ [x]) = _ :: (mkCls (s + y.2) r ++ _)
    rw [mkCls_snoc]
    simp [manyOf, Nat.add_assoc]
theorem manyOf_snoc (cf : List (Nat × Nat)) (x : Nat × Nat) : manyOf (cf ++ [x]) = manyOf cf + x.2 := by unfold manyOf; simp
def Pl.new (cf : List (Nat × Nat)) (m : Nat) : Pl := ⟨mkCls 0 cf, List.replicate m none⟩
/-- the cells of the classes -/
def stockCells (cls : List Cls) (fv : Nat → Value) : List Value := (cls.mapIdx fun c x => [.int .i64 (x.size : Int), fv c]).flatten
theorem stockCells_snoc (cls : List Cls) (x : Cls) (fv : Nat → Value) (v : Value) : stockCells (cls ++ [x]) (fun k => if k = cls.length then v else fv k) = stockCells cls fv ++ [.int .i64 (x.size : Int), v] := by
  unfold stockCells
  rw [List.mapIdx_append]
  simp only [List.mapIdx_cons, List.mapIdx_nil, List.flatten_append, Nat.zero_add, if_true, List.flatten_cons, List.flatten_nil, List.append_nil]
  congr 2
  refine List.ext_getElem? fun c => ?_
  rw [List.getElem?_mapIdx, List.getElem?_mapIdx]
  cases h : cls[c]? with
  | none => rfl
  | some y =>
    have := (List.getElem?_eq_some_iff.1 h).1
    simp only [Option.map_some]
    rw [if_neg (by omega)]
theorem stockCells_at (cls : List Cls) (fv : Nat → Value) (c : Nat) (x : Cls) (h : cls[c]? = some x) : (stockCells cls fv)[c * 2]? = some (.int .i64 (x.size : Int)) ∧ (stockCells cls fv)[c * 2 + 1]? = some (fv c) := by
  unfold stockCells
  induction cls generalizing c fv with
  | nil => simp at h
  | cons y r ih =>
    rw [List.mapIdx_cons, List.flatten_cons]
    cases c with
    | zero =>
      simp at h
      subst h
      exact ⟨rfl, rfl⟩
    | succ c =>
      have := ih (fun k => fv (k + 1)) c (by simpa using h)
      rw [List.getElem?_append_right (by simp; omega), List.getElem?_append_right (by simp; omega)]
      simp only [List.length_cons, List.length_nil]
      rw [show (c + 1) * 2 - (0 + 1 + 1) = c * 2 by omega, show (c + 1) * 2 + 1 - (0 + 1 + 1) = c * 2 + 1 by omega]
      exact this
theorem stockCells_len (cls : List Cls) (fv : Nat → Value) : (stockCells cls fv).length = cls.length * 2 := by
  unfold stockCells
  induction cls generalizing fv with
  | nil => rfl
  | cons y r ih =>
    rw [List.mapIdx_cons, List.flatten_cons, List.length_append, ih (fun k => fv (k + 1))]
    simp
    omega
/-- a pool that is being made: its classes so far -/
structure Nw (R : Nat → Option Role) (W : World) (pb ab m : Nat) (cv : Value) (fv : Nat → Value) (cls : List Cls) (w : World) : Prop where
  up : Up W w
  ge : ∀ b r, R b = some r → W.heap.size ≤ b ∧ b < w.heap.size
  rp : R pb = some .pool
  pool : w.heap[pb]? = some (.cells #[cv, .slice (some ⟨ab, 0, none⟩) m m] 91 (0, 0))
  own : w.ownsRow 0 94 2 cv cls.length (stockCells cls fv)
  rc : ∀ g, cv.ownBlock = some g → R g = some .cls
  ra : R ab = some .ars
  ars : w.heap[ab]? = some (.cells (Array.replicate m (.pointer none)) 96 (0, 0))
  free : ∀ (c : Nat) x, cls[c]? = some x → w.ownsRow 0 3 1 (fv c) x.free.length (nums x.free) ∧ (∀ g, (fv c).ownBlock = some g → R g = some (.free c)) ∧ x.many ≤ capOf (fv c)
theorem Nw.more {R : Nat → Option Role} {pb ab m : Nat} {cv : Value} {fv : Nat → Value} {cls : List Cls} {w w' : World} (h : Nw R W pb ab m cv fv cls w) (u : Up w w') : Nw R W pb ab m cv fv cls w' :=
  ⟨h.up.trans u, fun b r hr => ⟨(h.ge b r hr).1, Nat.lt_of_lt_of_le (h.ge b r hr).2 u.size⟩, h.rp, (u.block _ (heap_at h.pool)).trans h.pool, ownsRow_up h.own u, h.rc, h.ra, (u.block _ (heap_at h.ars)).trans h.ars, fun c x hx => ⟨ownsRow_up (h.free c x hx).1 u, (h.free c x hx).2⟩⟩
/-- one class more -/
theorem Nw.add {R : Nat → Option Role} {pb ab m : Nat} {cv cv' v : Value} {fv : Nat → Value} {cls : List Cls} {x : Cls} {w w' : World} (h : Nw R W pb ab m cv fv cls w) (ch : Chg w w' pb 0 cv cv') (ow : w'.ownsRow 0 94 2 cv' (cls.length + 1) (stockCells cls fv ++ [.int .i64 (x.size : Int), v]))
    (hv : w.ownsRow 0 3 1 v x.free.length (nums x.free)) (hr : ∀ g, v.ownBlock = some g → W.heap.size ≤ g ∧ R g = none) (hcap : x.many ≤ capOf v) :
    Nw (roleAt (roleAt R cv'.ownBlock .cls) v.ownBlock (.free cls.length)) W pb ab m cv' (fun k => if k = cls.length then v else fv k) (cls ++ [x]) w' := by
  have hO : ∀ b s, R b = some s → cv'.ownBlock = some b → s = .cls := fun b s hb e => by
    rcases ch.own with e2 | ⟨g, e2, hg⟩
    · rw [e2] at e
      have := h.rc b e
      rw [hb] at this
      injection this
    · rw [e2] at e
      injection e with e
      have := (h.ge b s hb).2
      omega
  have hvw : ∀ g, v.ownBlock = some g → g < w.heap.size := fun g hg => (hv.lt g hg).2
  have hR : ∀ b s, R b = some s → roleAt (roleAt R cv'.ownBlock .cls) v.ownBlock (.free cls.length) b = some s := fun b s hb => roleAt_old (roleAt_old hb (hO b s hb)) (fun e => by have := (hr b e).2; rw [hb] at this; cases this)
  have hcv : ∀ g, cv'.ownBlock = some g → v.ownBlock ≠ some g := fun g hg e => by
    have h1 := (hr g e).2
    have h2 := hvw g e
    rcases ch.own with e2 | ⟨g', e2, hg'⟩
    · rw [e2] at hg
      have := h.rc g hg
      rw [h1] at this
      cases this
    · rw [e2] at hg
      injection hg with hg
      omega
  have hB : ∀ b s, R b = some s → s ≠ .pool → s ≠ .cls → w'.heap[b]? = w.heap[b]? := fun b s hb n1 n2 => by
    refine ch.block b (h.ge b s hb).2 (fun e => n1 ?_) (fun e => n2 ?_)
    · rw [e, h.rp] at hb
      injection hb with hb
      exact hb.symm
    · have := h.rc b e
      rw [hb] at this
      injection this
  have hVB : ∀ g, v.ownBlock = some g → w'.heap[g]? = w.heap[g]? := fun g hg => by
    refine ch.block g (hvw g hg) (fun e => ?_) (fun e => ?_)
    · have := (hr g hg).2
      rw [e, h.rp] at this
      cases this
    · have := (hr g hg).2
      rw [h.rc g e] at this
      cases this
  refine ⟨⟨ch.os.trans h.up.os, ch.output.trans h.up.output, Nat.le_trans h.up.size ch.size, fun b hb => ?_⟩, fun b r hb => ?_, hR _ _ h.rp, ?_, ?_, fun g hg => ?_, hR _ _ h.ra, ?_, fun c y hy => ?_⟩
  · refine (ch.block b (Nat.lt_of_lt_of_le hb h.up.size) (fun e => ?_) (fun e => ?_)).trans (h.up.block b hb)
    · have := (h.ge pb _ h.rp).1
      omega
    · have := (h.ge b _ (h.rc b e)).1
      omega
  · unfold roleAt at hb
    by_cases e : v.ownBlock = some b
    · exact ⟨(hr b e).1, Nat.lt_of_lt_of_le (hvw b e) ch.size⟩
    · rw [if_neg e] at hb
      by_cases e2 : cv'.ownBlock = some b
      · refine ⟨?_, (ow.lt b e2).2⟩
        rcases ch.own with e3 | ⟨g', e3, hg'⟩
        · rw [e3] at e2
          exact (h.ge b _ (h.rc b e2)).1
        · rw [e3] at e2
          injection e2 with e2
          have := h.up.size
          omega
      · rw [if_neg e2] at hb
        exact ⟨(h.ge b r hb).1, Nat.lt_of_lt_of_le (h.ge b r hb).2 ch.size⟩
  · have := ch.cellq _ _ h.pool
    exact this
  · rw [stockCells_snoc, List.length_append]
    exact ow
  · exact roleAt_old (roleAt_new hg) (fun e => absurd e (hcv g hg))
  · exact (hB _ _ h.ra (by simp) (by simp)).trans h.ars
  · by_cases e : c = cls.length
    · subst e
      rw [List.getElem?_append_right (Nat.le_refl _), Nat.sub_self] at hy
      injection hy with hy
      subst hy
      rw [if_pos rfl]
      exact ⟨ownsRow_block hv hVB, fun g hg => roleAt_new hg, hcap⟩
    · rw [if_neg e]
      have hc : c < cls.length := by
        have := (List.getElem?_eq_some_iff.1 hy).1
        rw [List.length_append] at this
        simp at this
        omega
      rw [List.getElem?_append_left hc] at hy
      obtain ⟨g1, g2, g3⟩ := h.free c y hy
      exact ⟨ownsRow_block g1 (fun g hg => hB g _ (g2 g hg) (by simp) (by simp)), fun g hg => hR _ _ (g2 g hg), g3⟩
/-- a pool that is made -/
theorem Nw.done {R : Nat → Option Role} {K : Nat → Prop} {pb ab m : Nat} {cv : Value} {fv : Nat → Value} {cls : List Cls} {w : World} (h : Nw R W pb ab m cv fv cls w) (hc : 1 ≤ cls.length) (hk : ∀ b, K b → b < W.heap.size) : PlAt K w pb ⟨cls, List.replicate m none⟩ := by
  rcases own_cases h.own with ⟨_, hn, _⟩ | ⟨g, cap, hv, h1, h2, h3, h4⟩
  · omega
  · have hp := h.pool
    have ow := h.own
    rw [hv] at hp ow
    obtain ⟨cur, c1, c2, c3, c4, c5, c6, c7⟩ := own_open ow
    refine ⟨R, ⟨g, cap, ab, fv, fun _ => 0, fun _ => .slice none 0 0⟩, ⟨fun b hb => ?_, fun b hb => Nat.lt_of_lt_of_le (hk b hb) h.up.size, fun b r hr => (h.ge b r hr).2, h.rp, ?_, ⟨h1, h2⟩, h.rc g h4, ⟨cur, c1, fun c x hx => ?_⟩, h.ra, ⟨_, h.ars, by simp, fun i a ha => ?_⟩, h.free, fun i a ha => ?_, fun i a l ha hl => ?_, fun i a ha => ?_⟩⟩
    · cases hr : R b with
      | none => rfl
      | some r =>
        have := (h.ge b r hr).1
        have := hk b hb
        omega
    · rw [List.length_replicate]
      exact hp
    · have hcl : c < cls.length := (List.getElem?_eq_some_iff.1 hx).1
      have := stockCells_at cls fv c x hx
      rw [own_at c6 _ (by omega), own_at c6 _ (by omega)]
      exact this
    · rw [List.getElem?_replicate] at ha
      split at ha
      · injection ha with ha
        subst ha
        rw [Array.getElem?_replicate, if_pos (by assumption)]
        rfl
      · cases ha
    · rw [List.getElem?_replicate] at ha
      split at ha <;> cases ha
    · rw [List.getElem?_replicate] at ha
      split at ha <;> cases ha
    · rw [List.getElem?_replicate] at ha
      split at ha <;> cases ha
end Go.Proofs.Yteijdcidemajfaa
