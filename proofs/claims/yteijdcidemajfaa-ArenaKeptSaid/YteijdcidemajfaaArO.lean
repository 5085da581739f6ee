/- Arena: Close, Used. -/
import Derived.Test.YteijdcidemajfaaArN
namespace Go.Proofs.Yteijdcidemajfaa
open Go.RowKit
set_option linter.unusedVariables false
variable {R : Nat → Option Role} {K K' : Nat → Prop} {w w' W : World} {pb : Nat} {A : Ad} {P : Pl}
/-- loans of one class, laid back one behind the other -/
def relF (c : Nat) (ls : List Loan) (f : List Nat) : List Nat := ls.foldl (fun f l => if l.cls = c then insN l.buf f else f) f
theorem relF_snoc (c : Nat) (ls : List Loan) (l : Loan) (f : List Nat) : relF c (ls ++ [l]) f = if l.cls = c then insN l.buf (relF c ls f) else relF c ls f := by
  unfold relF
  rw [List.foldl_append]
  rfl
theorem relF_len (c : Nat) (ls : List Loan) (f : List Nat) : (relF c ls f).length = f.length + (ls.filter (fun l => l.cls == c)).length := by
  induction ls generalizing f with
  | nil => rfl
  | cons x r ih =>
    show (relF c r (if x.cls = c then insN x.buf f else f)).length = _
    rw [ih, List.filter_cons]
    by_cases e : x.cls = c
    · rw [if_pos e, insN_len]
      simp [e]
      omega
    · rw [if_neg e]
      simp [e]
def Pl.relAll (P : Pl) (ls : List Loan) : Pl := { P with cls := P.cls.mapIdx fun c x => { x with free := relF c ls x.free } }
theorem relAll_at {c : Nat} {x : Cls} (h : P.cls[c]? = some x) (ls : List Loan) : (P.relAll ls).cls[c]? = some { x with free := relF c ls x.free } := by
  unfold Pl.relAll
  dsimp only
  rw [List.getElem?_mapIdx, h]
  rfl
theorem relAll_nil (P : Pl) : P.relAll [] = P := by
  unfold Pl.relAll
  have : (P.cls.mapIdx fun c x => { x with free := relF c [] x.free }) = P.cls := by
    refine List.ext_getElem? fun c => ?_
    rw [List.getElem?_mapIdx]
    cases h : P.cls[c]? <;> rfl
  rw [this]
theorem relAll_snoc {l : Loan} {x : Cls} (h : P.cls[l.cls]? = some x) (ls : List Loan) : (P.relAll ls).setFree l.cls { x with free := relF l.cls ls x.free } (insN l.buf (relF l.cls ls x.free)) = P.relAll (ls ++ [l]) := by
  have hl := (List.getElem?_eq_some_iff.1 h).1
  unfold Pl.setFree
  have : (P.relAll ls).cls.set l.cls { x with free := insN l.buf (relF l.cls ls x.free) } = (P.relAll (ls ++ [l])).cls := by
    refine List.ext_getElem? fun c => ?_
    unfold Pl.relAll
    dsimp only
    rw [List.getElem?_set, List.getElem?_mapIdx, List.getElem?_mapIdx, List.length_mapIdx]
    by_cases e : l.cls = c
    · subst e
      rw [if_pos rfl, if_pos hl, h]
      simp only [Option.map_some]
      rw [relF_snoc, if_pos rfl]
    · rw [if_neg e]
      cases hc : P.cls[c]? with
      | none => rfl
      | some y =>
        simp only [Option.map_some]
        rw [relF_snoc, if_neg e]
  unfold Pl.relAll at *
  dsimp only at *
  rw [this]
/-- there is room for all that an arena gives back -/
theorem Ok.room (ok : Ok P) {i k : Nat} {a : Arn} {l : Loan} {x : Cls} (ha : P.ars[i]? = some (some a)) (hk : a.loans[k]? = some l) (hx : P.cls[l.cls]? = some x) : (relF l.cls (a.loans.take k) x.free).length + 1 ≤ x.many := by
  rw [relF_len]
  have h1 := lent_len (c := l.cls) ha
  have h2 := (ok.pm _ x hx).length_eq
  rw [List.length_append, List.length_range'] at h2
  have hkl := (List.getElem?_eq_some_iff.1 hk).1
  have h3 : ((a.loans.take (k + 1)).filter (fun m => m.cls == l.cls)).length ≤ (a.loans.filter (fun m => m.cls == l.cls)).length := ((List.take_sublist (k + 1) a.loans).filter _).length_le
  rw [List.take_add_one, hk, List.filter_append, List.length_append] at h3
  have h4 : ([l].filter (fun m => m.cls == l.cls)).length = 1 := by simp
  simp only [Option.toList] at h3
  omega
def Pl.closed (P : Pl) (i : Nat) (a : Arn) : Pl := (P.relAll a.loans).setArn i none
set_option maxRecDepth 100000 in
theorem close_none {id : Int} (hid : I64 id) (h : PlR R K W pb A P) (ok : Ok P) (ha : P.arn id = none) :
    Calls Try.prog 13 #[.pointer (some ⟨pb, 0, none⟩), .int .i64 id] W fun e w' => e = .returned (.tuple #[.int .i64 0, .int .i64 94]) ∧ w' = W := by
  have HO : Hid _ := opened_no hid h ha (by have := ok.na; omega)
  clear h ok ha hid
  go_enter Try.func13, Try.ntmps13
  go_wp2_with fail
  refine Calls.mono HO.out ?_
  rintro e w' ⟨rfl, hw'⟩
  obtain rfl := hw'.symm
  go_wp2_with fail
  go_ret2
  exact ⟨by first | rfl | (simp; done), rfl⟩
set_option maxRecDepth 100000 in
theorem used_none {id : Int} (hid : I64 id) (h : PlR R K W pb A P) (ok : Ok P) (ha : P.arn id = none) :
    Calls Try.prog 16 #[.pointer (some ⟨pb, 0, none⟩), .int .i64 id] W fun e w' => e = .returned (.tuple #[.int .i64 0, .int .i64 94]) ∧ w' = W := by
  have HO : Hid _ := opened_no hid h ha (by have := ok.na; omega)
  clear h ok ha hid
  go_enter Try.func16, Try.ntmps16
  go_wp2_with fail
  refine Calls.mono HO.out ?_
  rintro e w' ⟨rfl, hw'⟩
  obtain rfl := hw'.symm
  go_wp2_with fail
  go_ret2
  exact ⟨by first | rfl | (simp; done), rfl⟩
set_option maxRecDepth 100000 in
theorem used_ok {i : Nat} {a : Arn} (h : PlR R K W pb A P) (ok : Ok P) (ha : P.ars[i]? = some (some a)) :
    Calls Try.prog 16 #[.pointer (some ⟨pb, 0, none⟩), .int .i64 (i : Int)] W fun e w' => e = .returned (.tuple #[.int .i64 (sizes a.loans : Nat), .int .i64 0]) ∧ Up W w' := by
  have HO : Hid _ := opened_yes h ha (by have := ok.na; omega)
  have HV : Hid _ := used_any h ha (fun l hl => (ok.size ha hl).2) (by have := ok.loans ha; omega)
  clear h ok ha
  go_enter Try.func16, Try.ntmps16
  go_wp2_with fail
  refine Calls.mono HO.out ?_
  rintro e w' ⟨rfl, hw'⟩
  obtain rfl := hw'.symm
  go_wp2_with fail
  refine Calls.mono HV.out ?_
  rintro e w2 ⟨rfl, u2⟩
  have HU : Hid (Up W w2) := u2
  clear u2
  go_wp2_with fail
  go_ret2
  exact ⟨by first | rfl | (simp; done), HU.out⟩
/-- under way in Close: k loans are laid back -/
structure Cl (W : World) (K : Nat → Prop) (R : Nat → Option Role) (A : Ad) (pb : Nat) (P : Pl) (ls : List Loan) (w : World) : Prop where
  at' : ∃ R' A', PlR R' K w pb A' (P.relAll ls) ∧ A'.ar = A.ar ∧ A'.lv = A.lv ∧ A'.ab = A.ab ∧ A'.cb = A.cb
  fk : FK K W w
theorem Cl.up {ls : List Loan} (h : Cl W K R A pb P ls w) (u : Up w w') : Cl W K R A pb P ls w' := by
  obtain ⟨R', A', h1, h2⟩ := h.at'
  exact ⟨⟨R', A', h1.up u, h2⟩, h.fk.trans (FK.ofUp u)⟩
theorem FK.trans' {x y z : World} (h : FK K x y) (k : FK K y z) : FK K x z := h.trans k
theorem Cl.release {k i : Nat} {a : Arn} {l : Loan} (h : Cl W K R A pb P (a.loans.take k) w) (ok : Ok P) (ha : P.ars[i]? = some (some a)) (hk : a.loans[k]? = some l) :
    Calls Try.prog 34 #[.pointer (some ⟨pb, 0, none⟩), .agg l.cells.toArray] w fun e w' => e = .returned (.tuple #[]) ∧ Cl W K R A pb P (a.loans.take (k + 1)) w' := by
  obtain ⟨R', A', h1, h2, h3, h4, h5⟩ := h.at'
  obtain ⟨x, hx, _⟩ := ok.ln i a l ha (List.mem_of_getElem? hk)
  refine (release_any h1 (relAll_at hx _) (ok.room ha hk hx) (by unfold Pl.relAll; simp; exact ok.nc)).mono fun e w' ⟨g1, ⟨R2, A2, g2, g3, g4, g5, g6, _⟩, g7⟩ => ⟨g1, ⟨⟨R2, A2, ?_, g3.trans h2, g4.trans h3, g5.trans h4, g6.trans h5⟩, h.fk.trans g7⟩⟩
  have e2 : a.loans.take (k + 1) = a.loans.take k ++ [l] := by rw [List.take_add_one, hk]; rfl
  rw [e2, ← relAll_snoc hx]
  exact g2
set_option maxRecDepth 100000 in
set_option maxHeartbeats 2000000 in
theorem close_ok {i : Nat} {a : Arn} (h : PlAt K W pb P) (ok : Ok P) (ha : P.ars[i]? = some (some a)) :
    Calls Try.prog 13 #[.pointer (some ⟨pb, 0, none⟩), .int .i64 (i : Int)] W fun e w' => e = .returned (.tuple #[.int .i64 (sizes a.loans : Nat), .int .i64 0]) ∧ PlAt K w' pb (P.closed i a) ∧ FK K W w' := by
  obtain ⟨R, A, h⟩ := h
  have hil := (List.getElem?_eq_some_iff.1 ha).1
  have na := ok.na
  have HO : Hid _ := opened_yes h ha (by omega)
  have HOk : Hid (Ok P ∧ P.ars[i]? = some (some a)) := ⟨ok, ha⟩
  have hn := ok.loans ha
  -- whatever has been laid back, the arena is as it was
  have HA : Hid (∀ w ls, Cl W K R A pb P ls w → w.cell? ⟨A.ar i, 1, none⟩ = some (A.lv i) ∧ w.ownsRow 0 104 4 (A.lv i) a.loans.length (loanCells a.loans) ∧ w.cell? ⟨pb, 1, none⟩ = some (.slice (some ⟨A.ab, 0, none⟩) P.ars.length P.ars.length) ∧ (∃ u, w.cell? ⟨A.ab, i, none⟩ = some u) ∧ w.frozen? ⟨A.ab, i, none⟩ = false) := fun w ls hc => by
    obtain ⟨R', A', h1, h2, h3, h4, h5⟩ := hc.at'
    obtain ⟨g1, g2, g3, g4⟩ := h1.arn i a ha
    rw [h2, h3] at g2
    rw [h3] at g3
    obtain ⟨cs, c1, c2, c3⟩ := h1.ars
    have gp := h1.pool
    rw [h4] at gp c1
    exact ⟨heap_cell g2 rfl, g3, heap_cell gp rfl, ⟨_, heap_cell c1 (c3 i _ ha)⟩, heap_fz c1⟩
  have H0 : Hid (Cl W K R A pb P (a.loans.take 0) W) := ⟨⟨R, A, by rw [List.take_zero, relAll_nil]; exact h, rfl, rfl, rfl, rfl⟩, FK.ofUp (Up.refl W)⟩
  have HZ : Hid (∀ w, Cl W K R A pb P a.loans w → PlAt K (w.setCell ⟨A.ab, i, none⟩ (.pointer none)) pb (P.closed i a) ∧ FK K W (w.setCell ⟨A.ab, i, none⟩ (.pointer none)) ∧ Calls Try.prog 35 #[.pointer (some ⟨A.ar i, 0, none⟩)] (w.setCell ⟨A.ab, i, none⟩ (.pointer none)) fun e w' => e = .returned (.int .i64 (sizes a.loans : Nat)) ∧ Up (w.setCell ⟨A.ab, i, none⟩ (.pointer none)) w') := fun w hc => by
    obtain ⟨R', A', h1, h2, h3, h4, h5⟩ := hc.at'
    have ht := h1.ars_set (w' := w.setCell ⟨A.ab, i, none⟩ (.pointer none)) (i := i) (o := none) hil (by rw [h4]; exact (Fr.refl A.ab w).setCell) (fun cs ty e => by rw [h4] at e ⊢; exact heap_setCell_same _ _ _ _ _ _ e) (fun b q e => by cases e)
    refine ⟨⟨_, _, ht.1⟩, hc.fk.trans ht.2, ?_⟩
    obtain ⟨g1, g2, g3, g4⟩ := h1.arn i a ha
    have hne : A'.ar i ≠ A'.ab := fun e => by rw [e, h1.ra] at g1; cases g1
    have fs : Fr A.ab w (w.setCell ⟨A.ab, i, none⟩ (.pointer none)) := (Fr.refl A.ab w).setCell
    rw [← h4] at fs
    rw [h2, h3] at g2
    rw [h2] at hne
    rw [h3] at g3 g4
    refine used_raw (ab := A.ar i) (lv := A.lv i) ((by rw [h4] at fs hne; exact (fs.block _ (heap_at g2) hne).trans g2)) (ownsRow_block g3 (fun g hg => by rw [h4] at fs; exact fs.block g (g3.lt g hg).2 (fun e => by have := g4 g hg; rw [e, ← h4, h1.ra] at this; cases this))) (fun l hl => (ok.size ha hl).2) (by omega)
  clear h ok ha hil
  generalize hlv : A.lv i = lv at *
  have HLV : Hid (A.lv i = lv) := hlv
  clear hlv
  obtain ⟨k1, ow0, _⟩ := HA.out W _ H0.out
  obtain ⟨va, vc, rfl⟩ : ∃ va vc, lv = .slice va a.loans.length vc := by
    rcases own_cases ow0 with ⟨hv, hn, _⟩ | ⟨g, cap, hv, _⟩
    · exact ⟨none, 0, by rw [hv, hn]⟩
    · exact ⟨_, _, hv⟩
  have hcm : vc ≤ 9223372036854775807 := by
    rcases own_cases ow0 with ⟨hv, hn, _⟩ | ⟨g, cap, hv, _, hm, _⟩
    · injection hv with _ _ e
      omega
    · injection hv with _ _ e
      unfold maxLen at hm
      omega
  have hle : a.loans.length ≤ vc ∨ a.loans.length = 0 := by
    rcases own_cases ow0 with ⟨hv, hn, _⟩ | ⟨g, cap, hv, hc, _⟩
    · exact Or.inr hn
    · injection hv with _ _ e
      exact Or.inl (by omega)
  have HG : Hid (0 < a.loans.length → ∃ g, va = some ⟨g, 0, none⟩) := fun hp => by
    rcases own_cases ow0 with ⟨hv, hn, _⟩ | ⟨g, cap, hv, _⟩
    · omega
    · injection hv with e _ _
      exact ⟨g, e⟩
  clear ow0
  go_enter Try.func13, Try.ntmps13
  go_wp2_with fail
  refine Calls.mono HO.out ?_
  rintro e w' ⟨rfl, hw'⟩
  obtain rfl := hw'.symm
  clear HO
  go_wp2_with fail
  go_loopw [9, 24] (fun _ I wr => ∃ k : Nat, k ≤ a.loans.length ∧ I = .int .i64 k ∧ Hid (Cl W K R A pb P (a.loans.take k) wr)) (fun _ I _ => a.loans.length - (intOf I).toNat)
  case atStart => exact ⟨0, Nat.zero_le _, rfl, H0⟩
  case round =>
    clear H0 k1
    obtain ⟨k, hk, rfl, M0⟩ := hrel
    obtain ⟨k1, ow, k2, ⟨u, k3⟩, z3⟩ := HA.out wr _ M0.out
    by_cases hlt : k < a.loans.length
    · have d1 : (k : Int) < (a.loans.length : Int) := by omega
      obtain ⟨l, hy⟩ : ∃ y, a.loans[k]? = some y := ⟨_, List.getElem?_eq_getElem hlt⟩
      obtain ⟨g, rfl⟩ := HG.out (by omega)
      have HRk : Hid _ := loan_range ow hy
      have HA2 : Hid (∀ o, (wr.alloc o).heap[wr.heap.size]? = some o) := fun o => heap_alloc_new wr o
      have HU : Hid (∀ w old, (wr.alloc (Obj.cells old 104)).setRow wr.heap.size l.cells.toArray = w → Cl W K R A pb P (a.loans.take k) w ∧ w.rangeAt wr.heap.size 0 l.cells) := by
        rintro w old rfl
        refine ⟨M0.out.up (((Up.refl wr).alloc _).setRow (Nat.le_refl _) _), fun j v hv => ?_⟩
        rw [cell_of_row _ _ _ _ _ _ (setRow_heap _ _ _ _ _ _ (heap_alloc_new wr _)), Nat.zero_add]
        simpa using hv
      have HRel : Hid (∀ w, Cl W K R A pb P (a.loans.take k) w → Calls Try.prog 34 #[.pointer (some ⟨pb, 0, none⟩), .agg l.cells.toArray] w fun e w' => e = .returned (.tuple #[]) ∧ Cl W K R A pb P (a.loans.take (k + 1)) w') := fun w hc => hc.release HOk.out.1 HOk.out.2 hy
      clear hy ow k2 k3 z3 HA HZ M0
      go_wp2_with (first
        | (refine wpList_load_mid rfl 104 _ rfl g (k * 4) rfl l.cells _ HRk.out Try.underlying104 rfl (by kernel_rfl) ?_)
        | (refine wpList_store_rowTo rfl 104 _ _ rfl rfl wr.heap.size l.cells.toArray rfl rfl 104 _ (HA2.out _) (by kernel_rfl) rfl l.one ?_
           generalize hW3 : World.setRow _ _ _ = w3
           obtain ⟨hU, hA⟩ := HU.out _ _ hW3
           have H3 : Hid (Cl W K R A pb P (a.loans.take k) w3) := hU
           have HR3 : Hid (w3.rangeAt wr.heap.size 0 l.cells) := hA
           clear hW3 hU hA)
        | (refine wpList_load_mid rfl 104 _ rfl wr.heap.size 0 rfl l.cells _ HR3.out Try.underlying104 rfl (by kernel_rfl) ?_))
      refine (HRel.out _ H3.out).mono ?_
      rintro e w4 ⟨rfl, h4⟩
      have H4 : Hid (Cl W K R A pb P (a.loans.take (k + 1)) w4) := h4
      clear h4 H3 HR3 HRk
      go_wp2_with fail
      refine ⟨⟨k + 1, by omega, by first | rfl | (simp; done), H4⟩, ?_⟩
      simp [intOf]
      omega
    · have d1 : ¬ (k : Int) < (a.loans.length : Int) := by omega
      have HT : Hid (a.loans.take k = a.loans) := List.take_of_length_le (by omega)
      have HZ1 : Hid _ := HZ.out wr (by rw [← HT.out]; exact M0.out)
      have d2 : (i : Int) < (P.ars.length : Int) := by have := (List.getElem?_eq_some_iff.1 HOk.out.2).1; omega
      clear HA HZ ow HT M0
      go_wp2_with fail
      refine Calls.mono HZ1.out.2.2 ?_
      rintro e w4 ⟨rfl, u4⟩
      have HE : Hid (PlAt K w4 pb (P.closed i a) ∧ FK K W w4) := ⟨HZ1.out.1.up u4, HZ1.out.2.1.trans (FK.ofUp u4)⟩
      clear u4 HZ1
      go_wp2_with fail
      go_ret2
      exact ⟨by first | rfl | (simp; done), HE.out⟩
end Go.Proofs.Yteijdcidemajfaa
