/- Arena: a pool in memory. -/
import Derived.Test.YteijdcidemajfaaArI
namespace Go.Proofs.Yteijdcidemajfaa
open Go.RowKit
set_option linter.unusedVariables false
/-- what a block is to a pool -/
inductive Role where
  | pool | cls | ars
  | free (c : Nat)
  | ar (i : Nat)
  | loans (i : Nat)
  | byt (i : Nat)
/-- where its parts lie -/
structure Ad where
  cb : Nat
  nc : Nat
  ab : Nat
  fv : Nat → Value
  ar : Nat → Nat
  lv : Nat → Value
def capOf : Value → Nat
  | .slice _ _ c => c
  | _ => 0
structure PlR (R : Nat → Option Role) (K : Nat → Prop) (w : World) (pb : Nat) (A : Ad) (P : Pl) : Prop where
  kn : ∀ b, K b → R b = none
  kb : ∀ b, K b → b < w.heap.size
  lt : ∀ b r, R b = some r → b < w.heap.size
  rp : R pb = some .pool
  pool : w.heap[pb]? = some (.cells #[.slice (some ⟨A.cb, 0, none⟩) P.cls.length A.nc, .slice (some ⟨A.ab, 0, none⟩) P.ars.length P.ars.length] 91 (0, 0))
  nc : P.cls.length ≤ A.nc ∧ A.nc ≤ maxLen
  rc : R A.cb = some .cls
  cls : ∃ cs, w.heap[A.cb]? = some (.cells cs 94 (0, 0)) ∧ ∀ (c : Nat) x, P.cls[c]? = some x → cs[c * 2]? = some (.int .i64 (x.size : Int)) ∧ cs[c * 2 + 1]? = some (A.fv c)
  ra : R A.ab = some .ars
  ars : ∃ cs, w.heap[A.ab]? = some (.cells cs 96 (0, 0)) ∧ cs.size = P.ars.length ∧ ∀ (i : Nat) a, P.ars[i]? = some a → cs[i]? = some (ptr (a.map fun _ => A.ar i))
  free : ∀ (c : Nat) x, P.cls[c]? = some x → w.ownsRow 0 3 1 (A.fv c) x.free.length (nums x.free) ∧ (∀ g, (A.fv c).ownBlock = some g → R g = some (.free c)) ∧ x.many ≤ capOf (A.fv c)
  arn : ∀ (i : Nat) a, P.ars[i]? = some (some a) → R (A.ar i) = some (.ar i) ∧ w.heap[A.ar i]? = some (.cells #[.int .i64 a.quota, A.lv i] 102 (0, 0)) ∧ w.ownsRow 0 104 4 (A.lv i) a.loans.length (loanCells a.loans) ∧ (∀ g, (A.lv i).ownBlock = some g → R g = some (.loans i))
  byt : ∀ (i : Nat) a l, P.ars[i]? = some (some a) → l ∈ a.loans → R l.blk = some (.byt i) ∧ NmAt w l.blk l.size l.f
  nod : ∀ (i : Nat) a, P.ars[i]? = some (some a) → (a.loans.map (·.blk)).Nodup
def PlAt (K : Nat → Prop) (w : World) (pb : Nat) (P : Pl) : Prop := ∃ R A, PlR R K w pb A P
variable {R : Nat → Option Role} {K K' : Nat → Prop} {w w' W : World} {pb : Nat} {A : Ad} {P : Pl}
/-- nothing of the pool's own has changed -/
theorem PlR.same (h : PlR R K w pb A P) (sz : w.heap.size ≤ w'.heap.size) (hb : ∀ b r, R b = some r → w'.heap[b]? = w.heap[b]?) (kn : ∀ b, K' b → R b = none) (kb : ∀ b, K' b → b < w'.heap.size) : PlR R K' w' pb A P := by
  refine ⟨kn, kb, fun b r hr => Nat.lt_of_lt_of_le (h.lt b r hr) sz, h.rp, (hb _ _ h.rp).trans h.pool, h.nc, h.rc, ?_, h.ra, ?_, fun c x hx => ?_, fun i a ha => ?_, fun i a l ha hl => ?_, h.nod⟩
  · obtain ⟨cs, h1, h2⟩ := h.cls
    exact ⟨cs, (hb _ _ h.rc).trans h1, h2⟩
  · obtain ⟨cs, h1, h2⟩ := h.ars
    exact ⟨cs, (hb _ _ h.ra).trans h1, h2⟩
  · obtain ⟨h1, h2, h3⟩ := h.free c x hx
    exact ⟨ownsRow_block h1 (fun g hg => hb g _ (h2 g hg)), h2, h3⟩
  · obtain ⟨h1, h2, h3, h4⟩ := h.arn i a ha
    exact ⟨h1, (hb _ _ h1).trans h2, ownsRow_block h3 (fun g hg => hb g _ (h4 g hg)), h4⟩
  · obtain ⟨h1, h2⟩ := h.byt i a l ha hl
    exact ⟨h1, h2.of_block (hb _ _ h1)⟩
theorem PlR.up (h : PlR R K w pb A P) (u : Up w w') : PlR R K w' pb A P :=
  h.same u.size (fun b r hr => u.block b (h.lt b r hr)) h.kn (fun b hb => Nat.lt_of_lt_of_le (h.kb b hb) u.size)
theorem PlAt.up (h : PlAt K w pb P) (u : Up w w') : PlAt K w' pb P := by
  obtain ⟨R, A, h⟩ := h
  exact ⟨R, A, h.up u⟩
/-- new blocks are none of the pool's -/
theorem PlAt.upK (h : PlAt K w pb P) (u : Up w w') (hk : ∀ b, K' b → K b ∨ (w.heap.size ≤ b ∧ b < w'.heap.size)) : PlAt K' w' pb P := by
  obtain ⟨R, A, h⟩ := h
  refine ⟨R, A, h.same u.size (fun b r hr => u.block b (h.lt b r hr)) (fun b hb => ?_) (fun b hb => ?_)⟩
  · rcases hk b hb with e | e
    · exact h.kn b e
    · cases hr : R b with
      | none => rfl
      | some r => have := h.lt b r hr; omega
  · rcases hk b hb with e | e
    · exact Nat.lt_of_lt_of_le (h.kb b e) u.size
    · exact e.2
theorem PlAt.mono (h : PlAt K w pb P) (hk : ∀ b, K' b → K b) : PlAt K' w pb P := h.upK (Up.refl w) (fun b hb => Or.inl (hk b hb))
/-- blocks that are not the pool's may change -/
theorem PlAt.fr (h : PlAt K w pb P) (sz : w.heap.size ≤ w'.heap.size) (hb : ∀ b, b < w.heap.size → ¬ K b → w'.heap[b]? = w.heap[b]?) : PlAt K w' pb P := by
  obtain ⟨R, A, h⟩ := h
  refine ⟨R, A, h.same sz (fun b r hr => hb b (h.lt b r hr) (fun k => ?_)) h.kn (fun b hb => Nat.lt_of_lt_of_le (h.kb b hb) sz)⟩
  have := h.kn b k
  rw [this] at hr
  cases hr
theorem PlAt.frB {c : Nat} (h : PlAt K w pb P) (f : Fr c w w') (hc : K c) : PlAt K w' pb P := h.fr f.size (fun b hb hk => f.block b hb (fun e => hk (e ▸ hc)))
/-- an arena that is open -/
def Pl.arn (P : Pl) (id : Int) : Option Arn := if 0 ≤ id then (P.ars[id.toNat]?).join else none
theorem Pl.arn_nat {i : Nat} {a : Arn} (h : P.ars[i]? = some (some a)) : P.arn (i : Int) = some a := by
  unfold Pl.arn
  rw [if_pos (by omega), Int.toNat_natCast, h]
  rfl
theorem Pl.arn_some {id : Int} {a : Arn} (h : P.arn id = some a) : ∃ i : Nat, id = (i : Int) ∧ P.ars[i]? = some (some a) := by
  unfold Pl.arn at h
  split at h
  · refine ⟨id.toNat, by omega, ?_⟩
    cases hx : P.ars[id.toNat]? with
    | none => rw [hx] at h; cases h
    | some x => rw [hx] at h; exact congrArg some h
  · cases h
set_option maxRecDepth 100000 in
theorem opened_yes {i : Nat} {a : Arn} (h : PlR R K W pb A P) (ha : P.ars[i]? = some (some a)) (hm : P.ars.length ≤ 1000) :
    Calls Try.prog 33 #[.pointer (some ⟨pb, 0, none⟩), .int .i64 (i : Int)] W fun e w' => e = .returned (.tuple #[.pointer (some ⟨A.ar i, 0, none⟩), .int .i64 0]) ∧ w' = W := by
  have hi := (List.getElem?_eq_some_iff.1 ha).1
  obtain ⟨cs, c1, c2, c3⟩ := h.ars
  have kp : W.cell? ⟨pb, 1, none⟩ = some (.slice (some ⟨A.ab, 0, none⟩) P.ars.length P.ars.length) := heap_cell h.pool rfl
  have ka : W.cell? ⟨A.ab, i, none⟩ = some (.pointer (some ⟨A.ar i, 0, none⟩)) := heap_cell c1 (c3 i _ ha)
  have d1 : ¬ ((i : Int) < 0) := by omega
  have d2 : (i : Int) < (P.ars.length : Int) := by omega
  have d3 : decide ((P.ars.length : Int) ≤ (i : Int)) = false := decide_eq_false (by omega)
  clear h ha c1 c2 c3
  go_enter Try.func33, Try.ntmps33
  go_wp2_with fail
  go_ret2
  exact ⟨by first | rfl | (simp; done), rfl⟩
set_option maxRecDepth 100000 in
theorem opened_no {id : Int} (hid : I64 id) (h : PlR R K W pb A P) (ha : P.arn id = none) (hm : P.ars.length ≤ 1000) :
    Calls Try.prog 33 #[.pointer (some ⟨pb, 0, none⟩), .int .i64 id] W fun e w' => e = .returned (.tuple #[.pointer none, .int .i64 94]) ∧ w' = W := by
  obtain ⟨cs, c1, c2, c3⟩ := h.ars
  obtain ⟨i1, i2⟩ := hid
  have kp : W.cell? ⟨pb, 1, none⟩ = some (.slice (some ⟨A.ab, 0, none⟩) P.ars.length P.ars.length) := heap_cell h.pool rfl
  by_cases hn : id < 0
  · clear h c1 c2 c3 ha
    go_enter Try.func33, Try.ntmps33
    go_wp2_with fail
    go_ret2
    exact ⟨by first | rfl | (simp; done), rfl⟩
  · obtain ⟨i, rfl⟩ := Int.eq_ofNat_of_zero_le (show 0 ≤ id by omega)
    by_cases hl : i < P.ars.length
    · have ka : W.cell? ⟨A.ab, i, none⟩ = some (.pointer none) := by
        cases hx : P.ars[i]? with
        | none => have := List.getElem?_eq_none_iff.1 hx; omega
        | some x =>
          cases x with
          | none => exact heap_cell c1 (c3 i _ hx)
          | some a => rw [Pl.arn_nat hx] at ha; cases ha
      have d2 : (i : Int) < (P.ars.length : Int) := by omega
      have d3 : decide ((P.ars.length : Int) ≤ (i : Int)) = false := decide_eq_false (by omega)
      clear h c1 c2 c3 ha
      go_enter Try.func33, Try.ntmps33
      go_wp2_with fail
      go_ret2
      exact ⟨by first | rfl | (simp; done), rfl⟩
    · have d2 : (P.ars.length : Int) ≤ (i : Int) := by omega
      have d3 : decide ((P.ars.length : Int) ≤ (i : Int)) = true := decide_eq_true (by omega)
      clear h c1 c2 c3 ha
      go_enter Try.func33, Try.ntmps33
      go_wp2_with fail
      go_ret2
      exact ⟨by first | rfl | (simp; done), rfl⟩
def sizes (ls : List Loan) : Nat := (ls.map (·.size)).sum
theorem sizes_take {ls : List Loan} {k : Nat} {l : Loan} (h : ls[k]? = some l) : sizes (ls.take (k + 1)) = sizes (ls.take k) + l.size := by
  unfold sizes
  rw [List.take_add_one, h]
  simp
theorem sizes_le {ls : List Loan} (h : ∀ l ∈ ls, l.size ≤ 65536) : sizes ls ≤ 65536 * ls.length := by
  induction ls with
  | nil => exact Nat.le_refl _
  | cons x r ih =>
    have h1 := h x (by simp)
    have h2 := ih (fun l hl => h l (by simp [hl]))
    unfold sizes at *
    simp only [List.map_cons, List.sum_cons, List.length_cons]
    omega
set_option maxRecDepth 100000 in
set_option maxHeartbeats 1000000 in
theorem used_raw {ab : Nat} {lv : Value} {a : Arn} (hb : W.heap[ab]? = some (.cells #[.int .i64 a.quota, lv] 102 (0, 0))) (own : W.ownsRow 0 104 4 lv a.loans.length (loanCells a.loans)) (hs : ∀ l ∈ a.loans, l.size ≤ 65536) (hn : a.loans.length ≤ 100000) :
    Calls Try.prog 35 #[.pointer (some ⟨ab, 0, none⟩)] W fun e w' => e = .returned (.int .i64 (sizes a.loans : Nat)) ∧ Up W w' := by
  have kl : W.cell? ⟨ab, 1, none⟩ = some lv := heap_cell hb rfl
  have HS : Hid (∀ k, sizes (a.loans.take k) ≤ 65536 * 100000) := fun k => by
    have := sizes_le (ls := a.loans.take k) (fun l hl => hs l (List.mem_of_mem_take hl))
    have := List.length_take_le k a.loans
    have h3 : (a.loans.take k).length ≤ a.loans.length := by rw [List.length_take]; omega
    omega
  have H0 : Hid (Up W W) := Up.refl W
  rcases own_cases own with ⟨hv, hn0, _⟩ | ⟨g, cap, hv, hc, hm, hg, _⟩
  · rw [hv] at kl
    have hz : a.loans = [] := List.length_eq_zero_iff.1 hn0
    rw [hz]
    clear hs hb own HS hz
    go_enter Try.func35, Try.ntmps35
    go_wp2_with fail
    go_loopw [3, 5, 11] (fun s _ k wr => s = .int .i64 0 ∧ k = .int .i64 0 ∧ Hid (Up W wr)) (fun _ _ _ _ => 0)
    case atStart => exact ⟨rfl, rfl, H0⟩
    case round =>
      obtain ⟨rfl, rfl, M0⟩ := hrel
      go_wp2_with fail
      go_ret
      exact ⟨rfl, M0.out⟩
  · rw [hv] at kl own
    have hm2 : cap ≤ 9223372036854775807 := by unfold maxLen at hm; omega
    have HR : Hid (∀ w, Up W w → ∀ k l, a.loans[k]? = some l → w.rangeAt g (k * 4) l.cells) := fun w u k l hk => loan_range (ownsRow_up own u) hk
    clear hs hb own hv hm hg
    generalize a.loans = ls at *
    go_enter Try.func35, Try.ntmps35
    go_wp2_with fail
    go_loopw [3, 5, 11] (fun s _ K wr => ∃ k : Nat, k ≤ ls.length ∧ s = .int .i64 (sizes (ls.take k) : Nat) ∧ K = .int .i64 k ∧ Hid (Up W wr)) (fun _ _ K _ => ls.length - (intOf K).toNat)
    case atStart => exact ⟨0, Nat.zero_le _, rfl, rfl, H0⟩
    case round =>
      clear H0 kl
      obtain ⟨k, hk, rfl, rfl, M0⟩ := hrel
      by_cases hlt : k < ls.length
      · have d1 : (k : Int) < (ls.length : Int) := by omega
        obtain ⟨l, hy⟩ : ∃ y, ls[k]? = some y := ⟨_, List.getElem?_eq_getElem hlt⟩
        have HRk : Hid _ := HR.out wr M0.out k l hy
        have HSk : Hid (sizes (ls.take (k + 1)) = sizes (ls.take k) + l.size) := sizes_take hy
        have b1 := HS.out k
        have b2 : sizes (ls.take k) + l.size ≤ 65536 * 100000 := by rw [← HSk.out]; exact HS.out (k + 1)
        have HA : Hid (∀ o, (wr.alloc o).heap[wr.heap.size]? = some o) := fun o => heap_alloc_new wr o
        have HU : Hid (∀ w old, (wr.alloc (Obj.cells old 104)).setRow wr.heap.size l.cells.toArray = w → Up W w ∧ w.cell? ⟨wr.heap.size, 2, none⟩ = some (.int .i64 (l.size : Int))) := by
          rintro w old rfl
          refine ⟨(M0.out.alloc _).setRow M0.out.size _, ?_⟩
          rw [cell_of_row _ _ _ _ _ _ (setRow_heap _ _ _ _ _ _ (heap_alloc_new wr _))]
          rfl
        clear hy HR
        go_wp2_with (first
          | (refine wpList_load_mid rfl 104 _ rfl g (k * 4) rfl l.cells _ HRk.out Try.underlying104 rfl (by kernel_rfl) ?_)
          | (refine wpList_store_rowTo rfl 104 _ _ rfl rfl wr.heap.size l.cells.toArray rfl rfl 104 _ (HA.out _) (by kernel_rfl) rfl l.one ?_
             generalize hW3 : World.setRow _ _ _ = w3
             obtain ⟨hU, hA⟩ := HU.out _ _ hW3
             have H3 : Hid (Up W w3) := hU
             clear hW3 hU))
        refine ⟨⟨k + 1, by omega, ?_, by first | rfl | (simp; done), H3⟩, ?_⟩
        · rw [HSk.out]
          simp
        · simp [intOf]
          omega
      · have d1 : ¬ (k : Int) < (ls.length : Int) := by omega
        have HT : Hid (ls.take k = ls) := List.take_of_length_le (by omega)
        go_wp2_with fail
        go_ret
        exact ⟨by rw [HT.out]; rfl, M0.out⟩
theorem used_any {i : Nat} {a : Arn} (h : PlR R K W pb A P) (ha : P.ars[i]? = some (some a)) (hs : ∀ l ∈ a.loans, l.size ≤ 65536) (hn : a.loans.length ≤ 100000) :
    Calls Try.prog 35 #[.pointer (some ⟨A.ar i, 0, none⟩)] W fun e w' => e = .returned (.int .i64 (sizes a.loans : Nat)) ∧ Up W w' := by
  obtain ⟨_, hb, own, _⟩ := h.arn i a ha
  exact used_raw hb own hs hn
end Go.Proofs.Yteijdcidemajfaa
