/- Arena: Open, Used. -/
import Derived.Test.YteijdcidemajfaaArK
namespace Go.Proofs.Yteijdcidemajfaa
open Go.RowKit
set_option linter.unusedVariables false
variable {R : Nat → Option Role} {K K' : Nat → Prop} {w w' W : World} {pb : Nat} {A : Ad} {P : Pl}
/-- the buffers of a class that arenas have -/
def lentOf (c : Nat) : Option Arn → List Nat
  | none => []
  | some a => (a.loans.filter (fun l => l.cls == c)).map (·.buf)
def lent (ars : List (Option Arn)) (c : Nat) : List Nat := ars.flatMap (lentOf c)
/-- what always holds of a pool -/
structure Ok (P : Pl) : Prop where
  nc : P.cls.length ≤ 8
  na : P.ars.length ≤ 64
  sz : ∀ (c : Nat) x, P.cls[c]? = some x → 1 ≤ x.size ∧ x.size ≤ 65536
  my : ∀ (c : Nat) x, P.cls[c]? = some x → x.many ≤ 512 ∧ x.start ≤ 4096
  pm : ∀ (c : Nat) x, P.cls[c]? = some x → (x.free ++ lent P.ars c).Perm (List.range' x.start x.many)
  ln : ∀ (i : Nat) a l, P.ars[i]? = some (some a) → l ∈ a.loans → ∃ x, P.cls[l.cls]? = some x ∧ l.size = x.size
  so : ∀ (c : Nat) x, P.cls[c]? = some x → x.free.Pairwise (· ≤ ·)
/-- the first arena that is not open -/
def Pl.next (P : Pl) : Nat := P.ars.findIdx (fun a => a.isNone)
theorem map_none_ar (A : Ad) (ars : List (Option Arn)) : (ars.mapIdx fun i a => a.map fun _ => A.ar i).findIdx (fun p => p.isNone) = ars.findIdx (fun a => a.isNone) := by
  have e : ∀ (f : Nat → Option Arn → Option Nat), (∀ i a, (f i a).isNone = a.isNone) → ∀ l : List (Option Arn), (l.mapIdx f).findIdx (fun p => p.isNone) = l.findIdx (fun a => a.isNone) := by
    intro f hf l
    induction l generalizing f with
    | nil => rfl
    | cons x r ih =>
      rw [List.mapIdx_cons, List.findIdx_cons, List.findIdx_cons, hf, ih (fun i => f (i + 1)) (fun i a => hf _ a)]
  exact e _ (fun i a => by cases a <;> rfl) ars
theorem nextIdx_any (h : PlR R K W pb A P) (ok : Ok P) :
    Calls Try.prog 36 #[.slice (some ⟨A.ab, 0, none⟩) P.ars.length P.ars.length, .pointer none] W fun e w' => e = .returned (.int .i64 (idxI P.next P.ars.length)) ∧ w' = W := by
  obtain ⟨cs, c1, c2, c3⟩ := h.ars
  have := index_any (W := W) (g := A.ab) (ps := P.ars.mapIdx fun i a => a.map fun _ => A.ar i) (by rw [List.length_mapIdx]; have := ok.na; omega) (fun j p hj => by
    rw [List.getElem?_mapIdx] at hj
    cases hx : P.ars[j]? with
    | none => rw [hx] at hj; cases hj
    | some a =>
      rw [hx] at hj
      injection hj with hj
      rw [← hj]
      exact heap_cell c1 (c3 j a hx))
  rw [map_none_ar, List.length_mapIdx] at this
  exact this
set_option maxRecDepth 100000 in
theorem open_low {q : Int} (hq : I64 q) (h0 : q < 0) : Calls Try.prog 14 #[.pointer (some ⟨pb, 0, none⟩), .int .i64 q] W fun e w' => e = .returned (.tuple #[.int .i64 0, .int .i64 92]) ∧ w' = W := by
  go_enter Try.func14, Try.ntmps14
  go_wp2_with fail
  go_ret2
  exact ⟨by first | rfl | (simp; done), rfl⟩
set_option maxRecDepth 100000 in
theorem open_many {q : Int} (hq : I64 q) (h0 : 0 ≤ q) (h : PlR R K W pb A P) (ok : Ok P) (hn : ¬ P.next < P.ars.length) : Calls Try.prog 14 #[.pointer (some ⟨pb, 0, none⟩), .int .i64 q] W fun e w' => e = .returned (.tuple #[.int .i64 0, .int .i64 93]) ∧ w' = W := by
  have HI : Hid _ := nextIdx_any h ok
  rw [idxI_no hn] at HI
  have kp : W.cell? ⟨pb, 1, none⟩ = some (.slice (some ⟨A.ab, 0, none⟩) P.ars.length P.ars.length) := heap_cell h.pool rfl
  clear h ok hn hq
  go_enter Try.func14, Try.ntmps14
  go_wp2_with fail
  refine Calls.mono HI.out ?_
  rintro e w' ⟨rfl, hw'⟩
  obtain rfl := hw'.symm
  go_wp2_with fail
  go_ret2
  exact ⟨by first | rfl | (simp; done), rfl⟩
def Pl.opened (P : Pl) (q : Int) : Pl := P.setArn P.next (some ⟨q, []⟩)
set_option maxRecDepth 100000 in
set_option maxHeartbeats 1000000 in
theorem open_ok {q : Int} (hq : I64 q) (h0 : 0 ≤ q) (h : PlAt K W pb P) (ok : Ok P) (hn : P.next < P.ars.length) : Calls Try.prog 14 #[.pointer (some ⟨pb, 0, none⟩), .int .i64 q] W fun e w' => e = .returned (.tuple #[.int .i64 (P.next : Int), .int .i64 0]) ∧ PlAt K w' pb (P.opened q) ∧ FK K W w' := by
  obtain ⟨R, A, h⟩ := h
  have HI : Hid _ := nextIdx_any h ok
  rw [idxI_lt hn] at HI
  have kp : W.cell? ⟨pb, 1, none⟩ = some (.slice (some ⟨A.ab, 0, none⟩) P.ars.length P.ars.length) := heap_cell h.pool rfl
  have na := ok.na
  have HH : Hid (PlR R K W pb A P) := h
  obtain ⟨cs, c1, c2, c3⟩ := h.ars
  have hpl := heap_at h.pool
  have hal := heap_at c1
  have HC : Hid (W.heap[A.ab]? = some (.cells cs 96 (0, 0)) ∧ cs.size = P.ars.length) := ⟨c1, c2⟩
  have d1 : (P.next : Int) < (P.ars.length : Int) := by omega
  have HE : Hid (∀ i, i = P.next → PlAt K ((W.alloc (Obj.cells #[.int .i64 q, .slice none 0 0] 102)).setCell ⟨A.ab, i, none⟩ (.pointer (some ⟨W.heap.size, 0, none⟩))) pb (P.opened q) ∧ FK K W ((W.alloc (Obj.cells #[.int .i64 q, .slice none 0 0] 102)).setCell ⟨A.ab, i, none⟩ (.pointer (some ⟨W.heap.size, 0, none⟩)))) := fun i hi => by
    subst hi
    have ua := (Up.refl W).alloc (Obj.cells #[.int .i64 q, .slice none 0 0] 102)
    have ka : (W.alloc (Obj.cells #[.int .i64 q, .slice none 0 0] 102)).heap[W.heap.size]? = some (.cells #[.int .i64 q, .slice none 0 0] 102 (0, 0)) := heap_alloc_new W _
    have ht := (h.up ua).take (b := W.heap.size) (r := .ar P.next) (heap_at ka) (fun hk => by have := h.kb _ hk; omega) (by
      cases hr : R W.heap.size with
      | none => rfl
      | some r => have := h.lt _ _ hr; omega)
    have := ht.ars_set (i := P.next) (o := some (W.heap.size, q)) hn ((Fr.refl A.ab _).setCell (k := P.next) (v := .pointer (some ⟨W.heap.size, 0, none⟩))) (fun cs ty e => heap_setCell_same _ _ _ _ _ _ e) (fun b q' e => by
      injection e with e
      injection e with e1 e2
      subst e1 e2
      exact ⟨roleAt_new rfl, ka⟩)
    exact ⟨⟨_, _, this.1⟩, (FK.ofUp ua).trans this.2⟩
  clear h ok c1 c2 c3 hn
  generalize hnx : P.next = nx at *
  have ka : (W.alloc (Obj.cells #[.int .i64 q, .slice none 0 0] 102)).heap[A.ab]? = some (.cells cs 96 (0, 0)) := (((Up.refl W).alloc _).block _ hal).trans HC.out.1
  obtain ⟨u, kc⟩ : ∃ u, W.cell? ⟨A.ab, nx, none⟩ = some u := by
    rw [cell_of_row _ _ _ _ _ _ HC.out.1, Array.getElem?_eq_getElem (by have := HC.out.2; omega)]
    exact ⟨_, rfl⟩
  have kc2 : (W.alloc (Obj.cells #[.int .i64 q, .slice none 0 0] 102)).cell? ⟨A.ab, nx, none⟩ = some u := (((Up.refl W).alloc _).cell hal).trans kc
  have kf : (W.alloc (Obj.cells #[.int .i64 q, .slice none 0 0] 102)).frozen? ⟨A.ab, nx, none⟩ = false := heap_fz ka
  have kf0 : W.frozen? ⟨A.ab, nx, none⟩ = false := heap_fz HC.out.1
  have HNX : Hid (P.next = nx) := hnx
  clear hnx ka
  go_enter Try.func14, Try.ntmps14
  go_wp2_with fail
  refine Calls.mono HI.out ?_
  rintro e w' ⟨rfl, hw'⟩
  obtain rfl := hw'.symm
  go_wp2_with fail
  go_ret2
  have he := HE.out nx rfl
  rw [World.setCell_alloc_past _ _ _ _ hal] at he
  exact ⟨by first | rfl | (simp; done), he⟩
/-- Used -/
theorem lent_len {ars : List (Option Arn)} {c i : Nat} {a : Arn} (h : ars[i]? = some (some a)) : (a.loans.filter (fun l => l.cls == c)).length ≤ (lent ars c).length := by
  induction ars generalizing i with
  | nil => simp at h
  | cons x r ih =>
    have e : lent (x :: r) c = lentOf c x ++ lent r c := by unfold lent; rw [List.flatMap_cons]
    rw [e, List.length_append]
    cases i with
    | zero =>
      simp at h
      subst h
      simp [lentOf]
    | succ i =>
      have := ih (i := i) (by simpa using h)
      omega
theorem sum_zero (n : Nat) : ((List.range n).map fun _ => 0).sum = 0 := by
  induction n with
  | zero => rfl
  | succ n ih =>
    rw [List.range_succ, List.map_append, List.sum_append, ih]
    rfl
theorem filter_sum (ls : List Loan) (n : Nat) (h : ∀ l ∈ ls, l.cls < n) : ls.length = ((List.range n).map fun c => (ls.filter (fun l => l.cls == c)).length).sum := by
  induction ls with
  | nil => exact (sum_zero n).symm
  | cons x r ih =>
    have hx := h x (by simp)
    have ih := ih (fun l hl => h l (by simp [hl]))
    have e : ∀ m, ((List.range m).map fun c => ((x :: r).filter (fun l => l.cls == c)).length).sum = ((List.range m).map fun c => (r.filter (fun l => l.cls == c)).length).sum + if x.cls < m then 1 else 0 := by
      intro m
      induction m with
      | zero => simp
      | succ m ihm =>
        rw [List.range_succ, List.map_append, List.map_append, List.sum_append, List.sum_append, ihm]
        simp only [List.map_cons, List.map_nil, List.sum_cons, List.sum_nil]
        rw [List.filter_cons]
        by_cases q : x.cls = m
        · simp [q]
          omega
        · simp [q]
          by_cases q2 : x.cls < m
          · simp [q2, show x.cls < m + 1 by omega]
            omega
          · simp [q2, show ¬ x.cls < m + 1 by omega]
    rw [e n, if_pos hx, List.length_cons, ← ih]
theorem Ok.loans (ok : Ok P) {i : Nat} {a : Arn} (h : P.ars[i]? = some (some a)) : a.loans.length ≤ 4096 := by
  rw [filter_sum a.loans 8 (fun l hl => by
    obtain ⟨x, hx, _⟩ := ok.ln i a l h hl
    have := (List.getElem?_eq_some_iff.1 hx).1
    have := ok.nc
    omega)]
  have b : ∀ c, (a.loans.filter (fun l => l.cls == c)).length ≤ 512 := fun c => by
    have h1 := lent_len (c := c) h
    cases hx : P.cls[c]? with
    | none =>
      have : a.loans.filter (fun l => l.cls == c) = [] := by
        rw [List.filter_eq_nil_iff]
        intro l hl e
        obtain ⟨x, hx2, _⟩ := ok.ln i a l h hl
        have e : l.cls = c := by simpa using e
        rw [e, hx] at hx2
        cases hx2
      rw [this]
      simp
    | some x =>
      have h2 := (ok.pm c x hx).length_eq
      rw [List.length_append, List.length_range'] at h2
      have := (ok.my c x hx).1
      omega
  simp only [List.range_succ, List.range_zero, List.nil_append, List.cons_append, List.map_cons, List.map_nil, List.sum_cons, List.sum_nil]
  have := b 0; have := b 1; have := b 2; have := b 3; have := b 4; have := b 5; have := b 6; have := b 7
  omega
theorem Ok.size (ok : Ok P) {i : Nat} {a : Arn} {l : Loan} (h : P.ars[i]? = some (some a)) (hl : l ∈ a.loans) : 1 ≤ l.size ∧ l.size ≤ 65536 := by
  obtain ⟨x, hx, e⟩ := ok.ln i a l h hl
  rw [e]
  exact ok.sz _ x hx
end Go.Proofs.Yteijdcidemajfaa
