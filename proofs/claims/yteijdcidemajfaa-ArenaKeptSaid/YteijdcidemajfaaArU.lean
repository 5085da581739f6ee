/- Arena: Take. -/
import Derived.Test.YteijdcidemajfaaArT
namespace Go.Proofs.Yteijdcidemajfaa
open Go.RowKit
set_option linter.unusedVariables false
variable {R : Nat → Option Role} {K K' : Nat → Prop} {w w' W : World} {pb : Nat} {A : Ad} {P : Pl}
set_option maxRecDepth 100000 in
theorem rest_any (c n : Int) (w : World) (hc : I64 c) (hn : 0 < n) (hn2 : n ≤ 1099511627776) :
    Calls Try.prog 40 #[.int .i64 c, .int .i64 n] w fun e w' => e = .returned (.int .i64 (pickI c n)) ∧ w' = w := by
  obtain ⟨hc1, hc2⟩ := hc
  by_cases h : c < 0
  · go_enter Try.func40, Try.ntmps40
    go_wp2
    go_ret
    exact ⟨ret1 (by unfold pickI; rw [if_pos h, ← Int.neg_tmod, Int.tmod_eq_emod_of_nonneg (by omega)]), rfl⟩
  · go_enter Try.func40, Try.ntmps40
    go_wp2
    go_ret
    exact ⟨ret1 (by unfold pickI; rw [if_neg (by omega)]), rfl⟩
/-- the class that has room -/
def Pl.classFor (P : Pl) (size : Int) : Nat := P.cls.findIdx (fun x => decide (size ≤ (x.size : Int)))
theorem classFor_any {q : Nat} {size : Int} (h : PlR R K W pb A P) (hq : W.cell? ⟨q, 0, none⟩ = some (.int .i64 size)) :
    Calls Try.prog 37 #[.slice (some ⟨A.cb, 0, none⟩) P.cls.length A.nc, .func (.func 38) #[] #[.pointer (some ⟨q, 0, none⟩)]] W fun e w' => e = .returned (.int .i64 (idxI (P.classFor size) P.cls.length)) ∧ Up W w' := by
  obtain ⟨cs, c1, c2⟩ := h.cls
  have := idxS_any (W := W) (g := A.cb) (cap := A.nc) (ls := P.cls.mapIdx fun c x => ((x.size : Int), A.fv c)) (q := q) (b := size) (by rw [List.length_mapIdx]; exact h.nc.1) h.nc.2 (fun w u j l hj => by
    rw [List.getElem?_mapIdx] at hj
    cases hx : P.cls[j]? with
    | none => rw [hx] at hj; cases hj
    | some x =>
      rw [hx] at hj
      injection hj with hj
      subst hj
      have hb := (u.block _ (heap_at c1)).trans c1
      exact range2 (heap_cell hb (c2 j x hx).1) (heap_cell hb (c2 j x hx).2)) hq
  rw [List.length_mapIdx] at this
  have e : (P.cls.mapIdx fun c x => ((x.size : Int), A.fv c)).findIdx (fun l => decide (size ≤ l.1)) = P.classFor size := by
    unfold Pl.classFor
    have g : ∀ (f : Nat → Cls → Int × Value), (∀ c x, (f c x).1 = (x.size : Int)) → ∀ l : List Cls, (l.mapIdx f).findIdx (fun l => decide (size ≤ l.1)) = l.findIdx (fun x => decide (size ≤ (x.size : Int))) := by
      intro f hf l
      induction l generalizing f with
      | nil => rfl
      | cons x r ih => rw [List.mapIdx_cons, List.findIdx_cons, List.findIdx_cons, hf, ih (fun i => f (i + 1)) (fun i a => hf _ a)]
    exact g _ (fun c x => rfl) P.cls
  rw [e] at this
  exact this
def Pl.taken (P : Pl) (i : Nat) (a : Arn) (c : Nat) (x : Cls) (r : Nat) (l : Loan) : Pl := (P.setFree c x (x.free.eraseIdx r)).setArn i (some { a with loans := a.loans ++ [l] })
theorem made_nm (w : World) (n : Nat) : NmAt (w.alloc (.cells (madeCells #[.int .u8 0] n) 5)) w.heap.size n (fun _ => 0) := by
  refine ⟨_, _, heap_alloc_new w _, by simp [madeCells], fun k hk => ?_⟩
  simp [madeCells, hk, Nat.mod_one]
/-- behind the draw: the lease in its block -/
structure Tk (W : World) (K : Nat → Prop) (A : Ad) (pb : Nat) (P : Pl) (lb buf c size : Nat) (w : World) : Prop where
  at' : ∃ R A', PlR R K w pb A' P ∧ A'.ar = A.ar ∧ A'.lv = A.lv ∧ A'.cb = A.cb ∧ ∀ b, W.heap.size ≤ b → R b = none
  fk : FK K W w
  ge : W.heap.size ≤ lb
  blk : w.heap[lb]? = some (.cells #[.int .i64 (buf : Int), .int .i64 (c : Int), .int .i64 (size : Int)] 38 (0, 0))
theorem PlR.fr1 {lb : Nat} (h : PlR R K w pb A P) (f : Fr lb w w') (hn : R lb = none) : PlR R K w' pb A P :=
  h.same f.size (fun b r hr => f.block b (h.lt b r hr) (fun e => by rw [e, hn] at hr; cases hr)) h.kn (fun b hb => Nat.lt_of_lt_of_le (h.kb b hb) f.size)
theorem there3 {g : Nat} {x y z : Value} {t : TypeId} (h : w.heap[g]? = some (.cells #[x, y, z] t (0, 0))) : w.there g 0 3 := by
  intro j hj
  have hj' : j = 0 ∨ j = 1 ∨ j = 2 := by omega
  refine ⟨?_, by unfold World.frozen?; rw [show w.heap[(⟨g, 0 + j, none⟩ : Addr).block]? = _ from h]; simp⟩
  rw [cell_of_row _ _ _ _ _ _ h]
  rcases hj' with rfl | rfl | rfl <;> rfl
theorem set3 {g : Nat} {x y z x' y' z' : Value} {t : TypeId} (h : w.heap[g]? = some (.cells #[x, y, z] t (0, 0))) : (w.setCells g 0 [x', y', z']).heap[g]? = some (.cells #[x', y', z'] t (0, 0)) := heap_setCells_same g t [x', y', z'] 0 _ w h
theorem range3 {g o : Nat} {x y z : Value} (h0 : w.cell? ⟨g, o, none⟩ = some x) (h1 : w.cell? ⟨g, o + 1, none⟩ = some y) (h2 : w.cell? ⟨g, o + 2, none⟩ = some z) : w.rangeAt g o [x, y, z] := by
  intro k v hv
  match k with
  | 0 => simp at hv; rw [← hv]; exact h0
  | 1 => simp at hv; rw [← hv]; exact h1
  | 2 => simp at hv; rw [← hv]; exact h2
  | k + 3 => simp at hv
theorem Tk.mk' {lb buf c size : Nat} {wc w5 w7 : World} {R' : Nat → Option Role} {A' : Ad} {P' : Pl} (u : Up W wc) (hk : ∀ b, K b → b < W.heap.size) (hp : PlR R' K w5 pb A' P') (e1 : A'.ar = A.ar) (e2 : A'.lv = A.lv) (e3 : A'.cb = A.cb) (hn : ∀ b, W.heap.size ≤ b → R' b = none) (hf : FK K wc w5) (f7 : Fr lb w5 w7) (hl : W.heap.size ≤ lb) (hb : w7.heap[lb]? = some (.cells #[.int .i64 (buf : Int), .int .i64 (c : Int), .int .i64 (size : Int)] 38 (0, 0))) : Tk W K A pb P' lb buf c size w7 :=
  ⟨⟨R', A', hp.fr1 f7 (hn lb hl), e1, e2, e3, hn⟩, ((FK.ofUp u).trans hf).trans (FK.ofFr f7 (fun k => by have := hk lb k; omega)), hl, hb⟩
theorem PlR.clsCell {c : Nat} {y : Cls} (h : PlR R K w pb A P) (hy : P.cls[c]? = some y) : w.cell? ⟨A.cb, c * 2, none⟩ = some (.int .i64 (y.size : Int)) := by
  obtain ⟨cs, c1, c2⟩ := h.cls
  exact heap_cell c1 (c2 c y hy).1
theorem setFree_at {c : Nat} {x : Cls} (h : P.cls[c]? = some x) (f : List Nat) : (P.setFree c x f).cls[c]? = some { x with free := f } := by
  unfold Pl.setFree
  dsimp only
  rw [List.getElem?_set, if_pos rfl, if_pos (List.getElem?_eq_some_iff.1 h).1]
theorem Tk.lvAt {lb buf c size i : Nat} {a : Arn} (h : Tk W K A pb P lb buf c size w) (ha : P.ars[i]? = some (some a)) : w.heap[A.ar i]? = some (.cells #[.int .i64 a.quota, A.lv i] 102 (0, 0)) ∧ w.ownsRow 0 104 4 (A.lv i) a.loans.length (loanCells a.loans) := by
  obtain ⟨R', A', g1, g2, g3, g4, g5⟩ := h.at'
  obtain ⟨a1, a2, a3, a4⟩ := g1.arn i a ha
  rw [g2, g3] at a2
  rw [g3] at a3
  exact ⟨a2, a3⟩
theorem Tk.put {lb buf c rb i sz bb : Nat} {a : Arn} {w8 : World} (h : Tk W K A pb P lb buf c sz w) (ha : P.ars[i]? = some (some a)) (hn : a.loans.length ≤ 4096) (u : Up w w8) (nb : NmAt w8 bb sz (fun _ => 0)) (hbb : w.heap.size ≤ bb) (hk : ∀ b, K b → b < W.heap.size) (hrb : W.heap.size ≤ rb) (hrb7 : rb < w.heap.size) :
    Calls Try.prog 41 #[.pointer (some ⟨A.ar i, 1, none⟩), .int .i64 (a.loans.length : Int), .agg (Loan.cells ⟨buf, c, sz, bb, fun _ => 0⟩).toArray] w8 fun e w' => e = .returned (.tuple #[]) ∧ (∃ R A', PlR R K w' pb A' (P.setArn i (some { a with loans := a.loans ++ [⟨buf, c, sz, bb, fun _ => 0⟩] })) ∧ R rb = none) ∧ FK K W w' ∧ w'.heap[lb]? = w8.heap[lb]? ∧ w'.heap[rb]? = w8.heap[rb]? ∧ w'.heap[A.cb]? = w8.heap[A.cb]? := by
  obtain ⟨R', A', g1, g2, g3, g4, g5⟩ := h.at'
  have hWw := h.fk.size
  have hlb := heap_at h.blk
  obtain ⟨a1, a2, a3, a4⟩ := g1.arn i a ha
  have p8 := g1.up u
  have a2' := (u.block _ (heap_at a2)).trans a2
  have a3' := ownsRow_up a3 u
  have hne : ∀ g, (A'.lv i).ownBlock = some g → g ≠ A'.ar i := fun g hg e => by
    have := a4 g hg
    rw [e, a1] at this
    cases this
  rw [← g2]
  refine (putL_end (l := ⟨buf, c, sz, bb, fun _ => 0⟩) a2' rfl a3' (fun e => hne _ e rfl) (by omega)).mono fun e w' ⟨e1, v', e2, e3⟩ => ⟨e1, ?_⟩
  have hRb : R' bb = none := g5 bb (by omega)
  have pt := p8.take (b := bb) (r := .byt i) nb.lt (fun k => by have := hk bb k; omega) hRb
  have hl : ∀ l ∈ a.loans ++ [(⟨buf, c, sz, bb, fun _ => 0⟩ : Loan)], roleAt R' (some bb) (.byt i) l.blk = some (.byt i) ∧ NmAt w8 l.blk l.size l.f := fun l hl => by
    rcases List.mem_append.1 hl with hl | hl
    · exact pt.byt i a l ha hl
    · rw [List.mem_singleton] at hl
      subst hl
      exact ⟨roleAt_new rfl, nb⟩
  have hnod : ((a.loans ++ [(⟨buf, c, sz, bb, fun _ => 0⟩ : Loan)]).map (·.blk)).Nodup := by
    rw [List.map_append, List.nodup_append]
    refine ⟨g1.nod i a ha, by simp, fun b hb b' hb' e => ?_⟩
    obtain ⟨l, hl1, hl2⟩ := List.mem_map.1 hb
    simp at hb'
    have h1 := (g1.byt i a l ha hl1).1
    rw [hl2, e, hb', hRb] at h1
    cases h1
  have ht := pt.loans_chg (ls := a.loans ++ [⟨buf, c, sz, bb, fun _ => 0⟩]) ha e2 e3 hl hnod
  have hvo : ∀ b, W.heap.size ≤ b → b < w8.heap.size → v'.ownBlock ≠ some b := fun b h1 h2 e => by
    rcases e2.own with q | ⟨g', q, hg'⟩
    · rw [q] at e
      have := a4 b e
      rw [g5 b h1] at this
      cases this
    · rw [q] at e
      injection e with e
      omega
  have hbl : ∀ b, W.heap.size ≤ b → b < w8.heap.size → w'.heap[b]? = w8.heap[b]? := fun b h1 h2 => by
    refine e2.block b h2 (fun e => ?_) (fun e => ?_)
    · have := a1
      rw [← e, g5 b h1] at this
      cases this
    · have := a4 b e
      rw [g5 b h1] at this
      cases this
  have hu := u.size
  refine ⟨⟨_, _, ht.1, roleAt_none (roleAt_none (g5 rb hrb) (fun e => by injection e with e; omega)) (hvo rb hrb (by omega))⟩, (h.fk.trans (FK.ofUp u)).trans ht.2, hbl lb h.ge (by omega), hbl rb hrb (by omega), ?_⟩
  rw [← g4]
  refine e2.block _ (Nat.lt_of_lt_of_le (g1.lt _ _ g1.rc) hu) (fun e => ?_) (fun e => ?_)
  · have := g1.rc
    rw [e, a1] at this
    cases this
  · have := a4 _ e
    rw [g1.rc] at this
    cases this
end Go.Proofs.Yteijdcidemajfaa
