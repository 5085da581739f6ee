/- Arena: what always holds. -/
import Derived.Test.YteijdcidemajfaaArR
namespace Go.Proofs.Yteijdcidemajfaa
open Go.RowKit
set_option linter.unusedVariables false
variable {K K' : Nat → Prop} {w w' W : World} {pb : Nat} {P : Pl}
theorem insN_perm (b : Nat) (f : List Nat) : (insN b f).Perm (b :: f) := by
  unfold insN
  have h := List.perm_middle (a := b) (l₁ := f.take (f.findIdx (fun y => decide (b < y)))) (l₂ := f.drop (f.findIdx (fun y => decide (b < y))))
  rw [List.take_append_drop] at h
  exact h
theorem relF_perm (c : Nat) (ls : List Loan) (f : List Nat) : (relF c ls f).Perm ((ls.filter (fun l => l.cls == c)).map (·.buf) ++ f) := by
  induction ls generalizing f with
  | nil => exact List.Perm.refl _
  | cons x r ih =>
    show (relF c r (if x.cls = c then insN x.buf f else f)).Perm _
    refine (ih _).trans ?_
    rw [List.filter_cons]
    by_cases e : x.cls = c
    · rw [if_pos e, if_pos (by simpa using e), List.map_cons]
      refine ((insN_perm x.buf f).append_left _).trans ?_
      exact List.perm_middle
    · rw [if_neg e, if_neg (by simpa using e)]
theorem insN_sorted (b : Nat) : ∀ (f : List Nat), f.Pairwise (· ≤ ·) → (insN b f).Pairwise (· ≤ ·)
  | [], _ => by simp [insN]
  | y :: r, h => by
    have h' := List.pairwise_cons.1 h
    by_cases e : b < y
    · have : insN b (y :: r) = b :: y :: r := by
        unfold insN
        rw [List.findIdx_cons]
        simp [e]
      rw [this]
      refine List.pairwise_cons.2 ⟨fun z hz => ?_, h⟩
      rcases List.mem_cons.1 hz with rfl | hz
      · omega
      · have := h'.1 z hz
        omega
    · have : insN b (y :: r) = y :: insN b r := by
        unfold insN
        rw [List.findIdx_cons]
        simp [e]
      rw [this]
      refine List.pairwise_cons.2 ⟨fun z hz => ?_, insN_sorted b r h'.2⟩
      rcases List.mem_cons.1 ((insN_perm b r).mem_iff.1 hz) with rfl | hz
      · omega
      · exact h'.1 z hz
theorem relF_sorted (c : Nat) (ls : List Loan) : ∀ (f : List Nat), f.Pairwise (· ≤ ·) → (relF c ls f).Pairwise (· ≤ ·) := by
  induction ls with
  | nil => intro f h; exact h
  | cons x r ih =>
    intro f h
    show (relF c r (if x.cls = c then insN x.buf f else f)).Pairwise _
    refine ih _ ?_
    split
    · exact insN_sorted _ _ h
    · exact h
theorem range'_sorted (s n : Nat) : (List.range' s n).Pairwise (· ≤ ·) := by
  have h : (List.range' s n).Pairwise (· < ·) := List.pairwise_lt_range'
  exact h.imp (fun h => Nat.le_of_lt h)
theorem lent_set {ars : List (Option Arn)} {i : Nat} {x : Option Arn} (h : ars[i]? = some x) (c : Nat) (y : Option Arn) : (lentOf c y ++ lent ars c).Perm (lentOf c x ++ lent (ars.set i y) c) := by
  induction ars generalizing i with
  | nil => simp at h
  | cons z r ih =>
    have e : ∀ z r, lent (z :: r) c = lentOf c z ++ lent r c := fun z r => by unfold lent; rw [List.flatMap_cons]
    cases i with
    | zero =>
      simp at h
      subst h
      rw [List.set_cons_zero, e, e]
      have h1 : (lentOf c y ++ (lentOf c z ++ lent r c)).Perm ((lentOf c y ++ lentOf c z) ++ lent r c) := by rw [List.append_assoc]
      have h2 : (lentOf c z ++ (lentOf c y ++ lent r c)).Perm ((lentOf c z ++ lentOf c y) ++ lent r c) := by rw [List.append_assoc]
      exact h1.trans ((List.perm_append_comm.append_right _).trans h2.symm)
    | succ i =>
      have h3 := ih (i := i) (by simpa using h)
      rw [List.set_cons_succ, e, e]
      have a1 : (lentOf c y ++ (lentOf c z ++ lent r c)).Perm (lentOf c z ++ (lentOf c y ++ lent r c)) := by
        rw [← List.append_assoc, ← List.append_assoc]
        exact List.perm_append_comm.append_right _
      have a2 : (lentOf c x ++ (lentOf c z ++ lent (r.set i y) c)).Perm (lentOf c z ++ (lentOf c x ++ lent (r.set i y) c)) := by
        rw [← List.append_assoc, ← List.append_assoc]
        exact List.perm_append_comm.append_right _
      exact a1.trans ((h3.append_left _).trans a2.symm)
theorem mkCls_at : ∀ (s : Nat) (cf : List (Nat × Nat)) (c : Nat) (x : Cls), (mkCls s cf)[c]? = some x → ∃ y, cf[c]? = some y ∧ x = ⟨y.1, s + manyOf (cf.take c), y.2, List.range' (s + manyOf (cf.take c)) y.2⟩
  | _, [], c, x, h => by simp [mkCls] at h
  | s, y :: r, 0, x, h => by
    simp [mkCls] at h
    exact ⟨y, rfl, by rw [← h]; simp [manyOf]⟩
  | s, y :: r, c + 1, x, h => by
    obtain ⟨z, h1, h2⟩ := mkCls_at (s + y.2) r c x (by simpa [mkCls] using h)
    refine ⟨z, by simpa using h1, ?_⟩
    rw [h2]
    simp [manyOf, Nat.add_assoc]
theorem lent_none (m c : Nat) : lent (List.replicate m none) c = [] := by
  unfold lent
  induction m with
  | zero => rfl
  | succ m ih => rw [List.replicate_succ, List.flatMap_cons, ih]; rfl
theorem Ok.new {cf : List (Nat × Nat)} {m : Nat} (h : Cfg cf m) : Ok (Pl.new cf m) := by
  have hat : ∀ (c : Nat) x, (Pl.new cf m).cls[c]? = some x → ∃ y, cf[c]? = some y ∧ x = ⟨y.1, manyOf (cf.take c), y.2, List.range' (manyOf (cf.take c)) y.2⟩ := fun c x hx => by
    obtain ⟨y, h1, h2⟩ := mkCls_at 0 cf c x hx
    rw [Nat.zero_add] at h2
    exact ⟨y, h1, h2⟩
  refine ⟨?_, ?_, fun c x hx => ?_, fun c x hx => ?_, fun c x hx => ?_, fun i a l ha hl => ?_, fun c x hx => ?_⟩
  · show (mkCls 0 cf).length ≤ 8
    rw [mkCls_len]
    exact h.n8
  · show (List.replicate m none).length ≤ 64
    rw [List.length_replicate]
    exact h.m64
  · obtain ⟨y, h1, h2⟩ := hat c x hx
    have := h.up c y h1
    rw [h2]
    exact ⟨by show 1 ≤ y.1; omega, this.2.1⟩
  · obtain ⟨y, h1, h2⟩ := hat c x hx
    rw [h2]
    exact ⟨(h.up c y h1).2.2, manyOf_le h c⟩
  · obtain ⟨y, h1, h2⟩ := hat c x hx
    show (x.free ++ lent (List.replicate m none) c).Perm _
    rw [lent_none, List.append_nil, h2]
  · have ha : (List.replicate m none)[i]? = some (some a) := ha
    rw [List.getElem?_replicate] at ha
    split at ha <;> cases ha
  · obtain ⟨y, h1, h2⟩ := hat c x hx
    rw [h2]
    exact range'_sorted _ _
theorem Ok.setArn {i : Nat} {x y : Option Arn} (ok : Ok P) (h : P.ars[i]? = some x) (hl : ∀ c, (lentOf c x).Perm (lentOf c y)) (hn : ∀ a l, y = some a → l ∈ a.loans → ∃ z, P.cls[l.cls]? = some z ∧ l.size = z.size) : Ok (P.setArn i y) := by
  have hi := (List.getElem?_eq_some_iff.1 h).1
  refine ⟨ok.nc, by unfold Pl.setArn; simp; exact ok.na, ok.sz, ok.my, fun c z hz => ?_, fun k a l ha hla => ?_, ok.so⟩
  · refine List.Perm.trans ?_ (ok.pm c z hz)
    have h1 := lent_set h c y
    have h2 : (lentOf c y ++ lent P.ars c).Perm (lentOf c y ++ lent (P.ars.set i y) c) := h1.trans ((hl c).append_right _)
    exact ((List.perm_append_left_iff _).1 h2).symm.append_left _
  · rcases setArn_at hi k _ ha with ⟨rfl, e⟩ | ⟨hk, ha⟩
    · exact hn a l e.symm hla
    · exact ok.ln k a l ha hla
theorem next_at (h : P.next < P.ars.length) : P.ars[P.next]? = some none := by
  unfold Pl.next at *
  have h1 := List.findIdx_getElem (w := h)
  rw [List.getElem?_eq_getElem h]
  cases hx : P.ars[P.ars.findIdx (fun a => a.isNone)] with
  | none => rfl
  | some a => rw [hx] at h1; cases h1
theorem Ok.opened (ok : Ok P) (h : P.next < P.ars.length) (q : Int) : Ok (P.opened q) :=
  ok.setArn (next_at h) (fun c => List.Perm.refl _) (fun a l e hl => by injection e with e; subst e; cases hl)
theorem Ok.closed (ok : Ok P) {i : Nat} {a : Arn} (h : P.ars[i]? = some (some a)) : Ok (P.closed i a) := by
  have hi := (List.getElem?_eq_some_iff.1 h).1
  have hat : ∀ (c : Nat) z, (P.closed i a).cls[c]? = some z → ∃ x, P.cls[c]? = some x ∧ z = { x with free := relF c a.loans x.free } := fun c z hz => by
    have hz : (P.relAll a.loans).cls[c]? = some z := hz
    unfold Pl.relAll at hz
    dsimp only at hz
    rw [List.getElem?_mapIdx] at hz
    cases hx : P.cls[c]? with
    | none => rw [hx] at hz; cases hz
    | some x =>
      rw [hx] at hz
      injection hz with hz
      exact ⟨x, rfl, hz.symm⟩
  refine ⟨?_, by unfold Pl.closed Pl.setArn Pl.relAll; simp; exact ok.na, fun c z hz => ?_, fun c z hz => ?_, fun c z hz => ?_, fun k b l hb hl => ?_, fun c z hz => ?_⟩
  · show ((P.cls.mapIdx _).length) ≤ 8
    rw [List.length_mapIdx]
    exact ok.nc
  · obtain ⟨x, h1, h2⟩ := hat c z hz
    rw [h2]
    exact ok.sz c x h1
  · obtain ⟨x, h1, h2⟩ := hat c z hz
    rw [h2]
    exact ok.my c x h1
  · obtain ⟨x, h1, h2⟩ := hat c z hz
    rw [h2]
    refine List.Perm.trans ?_ (ok.pm c x h1)
    have h3 := lent_set h c none
    have h3 : (lent P.ars c).Perm (lentOf c (some a) ++ lent (P.ars.set i none) c) := h3
    refine ((relF_perm c a.loans x.free).append_right _).trans ?_
    show ((lentOf c (some a) ++ x.free) ++ lent (P.ars.set i none) c).Perm _
    refine (List.perm_append_comm.append_right _).trans ?_
    rw [List.append_assoc]
    exact h3.symm.append_left _
  · rcases setArn_at (P := P.relAll a.loans) hi k _ hb with ⟨rfl, e⟩ | ⟨hk, hb⟩
    · cases e
    · obtain ⟨x, h1, h2⟩ := ok.ln k b l hb hl
      exact ⟨_, relAll_at h1 a.loans, h2⟩
  · obtain ⟨x, h1, h2⟩ := hat c z hz
    rw [h2]
    exact relF_sorted c a.loans _ (ok.so c x h1)
/-- a pool beside what is kept -/
structure Pb (W : World) (K : Nat → Prop) (pb : Nat) (P : Pl) (w : World) : Prop where
  at' : PlAt K w pb P
  ok : Ok P
  up : Up W w
  ko : ∀ b, b < W.heap.size → K b
theorem Up.fk (u : Up W w) (f : FK K w w') (ko : ∀ b, b < W.heap.size → K b) : Up W w' :=
  ⟨f.os.trans u.os, f.output.trans u.output, Nat.le_trans u.size f.size, fun b hb => (f.block b (Nat.lt_of_lt_of_le hb u.size) (ko b hb)).trans (u.block b hb)⟩
theorem Pb.more (h : Pb W K pb P w) (u : Up w w') : Pb W K pb P w' := ⟨h.at'.up u, h.ok, h.up.trans u, h.ko⟩
theorem Pb.moreK (h : Pb W K pb P w) (u : Up w w') (hk : ∀ b, K' b → K b ∨ (w.heap.size ≤ b ∧ b < w'.heap.size)) (ko : ∀ b, b < W.heap.size → K' b) : Pb W K' pb P w' := ⟨h.at'.upK u hk, h.ok, h.up.trans u, ko⟩
theorem Pb.frB {c : Nat} (h : Pb W K pb P w) (f : Fr c w w') (hc : K c) (hw : W.heap.size ≤ c) : Pb W K pb P w' := ⟨h.at'.frB f hc, h.ok, Fr.up h.up hw f, h.ko⟩
theorem Pb.open (h : Pb W K pb P w) {q : Int} (hq : I64 q) (h0 : 0 ≤ q) (hn : P.next < P.ars.length) : Calls Try.prog 14 #[.pointer (some ⟨pb, 0, none⟩), .int .i64 q] w fun e w' => e = .returned (.tuple #[.int .i64 (P.next : Int), .int .i64 0]) ∧ Pb W K pb (P.opened q) w' ∧ FK K w w' :=
  (open_ok hq h0 h.at' h.ok hn).mono fun e w' ⟨h1, h2, h3⟩ => ⟨h1, ⟨h2, h.ok.opened hn q, h.up.fk h3 h.ko, h.ko⟩, h3⟩
theorem Pb.openMany (h : Pb W K pb P w) {q : Int} (hq : I64 q) (h0 : 0 ≤ q) (hn : ¬ P.next < P.ars.length) : Calls Try.prog 14 #[.pointer (some ⟨pb, 0, none⟩), .int .i64 q] w fun e w' => e = .returned (.tuple #[.int .i64 0, .int .i64 93]) ∧ w' = w := by
  obtain ⟨R, A, hp⟩ := h.at'
  exact open_many hq h0 hp h.ok hn
theorem Pb.close (h : Pb W K pb P w) {i : Nat} {a : Arn} (ha : P.ars[i]? = some (some a)) : Calls Try.prog 13 #[.pointer (some ⟨pb, 0, none⟩), .int .i64 (i : Int)] w fun e w' => e = .returned (.tuple #[.int .i64 (sizes a.loans : Nat), .int .i64 0]) ∧ Pb W K pb (P.closed i a) w' ∧ FK K w w' :=
  (close_ok h.at' h.ok ha).mono fun e w' ⟨h1, h2, h3⟩ => ⟨h1, ⟨h2, h.ok.closed ha, h.up.fk h3 h.ko, h.ko⟩, h3⟩
theorem Pb.closeNone (h : Pb W K pb P w) {id : Int} (hid : I64 id) (ha : P.arn id = none) : Calls Try.prog 13 #[.pointer (some ⟨pb, 0, none⟩), .int .i64 id] w fun e w' => e = .returned (.tuple #[.int .i64 0, .int .i64 94]) ∧ w' = w := by
  obtain ⟨R, A, hp⟩ := h.at'
  exact close_none hid hp h.ok ha
theorem Pb.usedNone (h : Pb W K pb P w) {id : Int} (hid : I64 id) (ha : P.arn id = none) : Calls Try.prog 16 #[.pointer (some ⟨pb, 0, none⟩), .int .i64 id] w fun e w' => e = .returned (.tuple #[.int .i64 0, .int .i64 94]) ∧ w' = w := by
  obtain ⟨R, A, hp⟩ := h.at'
  exact used_none hid hp h.ok ha
theorem Pb.used (h : Pb W K pb P w) {i : Nat} {a : Arn} (ha : P.ars[i]? = some (some a)) : Calls Try.prog 16 #[.pointer (some ⟨pb, 0, none⟩), .int .i64 (i : Int)] w fun e w' => e = .returned (.tuple #[.int .i64 (sizes a.loans : Nat), .int .i64 0]) ∧ Up w w' := by
  obtain ⟨R, A, hp⟩ := h.at'
  exact used_ok hp h.ok ha
end Go.Proofs.Yteijdcidemajfaa
