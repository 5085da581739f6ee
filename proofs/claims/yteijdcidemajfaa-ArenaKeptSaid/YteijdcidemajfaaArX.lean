/- Arena: Store; all calls beside what is kept. -/
import Derived.Test.YteijdcidemajfaaArW
import Derived.Test.YteijdcidemajfaaArV
import Derived.Laws.CopyOwn
namespace Go.Proofs.Yteijdcidemajfaa
open Go.RowKit
set_option linter.unusedVariables false
variable {R : Nat → Option Role} {K K' : Nat → Prop} {w w' W : World} {pb : Nat} {A : Ad} {P : Pl}
set_option maxRecDepth 100000 in
theorem store_err {id b at' e0 : Int} {ba : Option Addr} {bl bc : Nat} (hid : I64 id) (hb : I64 b) (hat : I64 at') (hbl : bl ≤ 9223372036854775807) (h : PlR R K W pb A P) (ok : Ok P) (hs : P.span id b at' (bl : Int) = .err e0) :
    Calls Try.prog 19 #[.pointer (some ⟨pb, 0, none⟩), .int .i64 id, .int .i64 b, .int .i64 at', .slice ba bl bc] W fun e w' => e = .returned (.int .i64 e0) ∧ Up W w' := by
  have hbl' : I64 (bl : Int) := ⟨by omega, by omega⟩
  have HS : Hid _ := span_any hid hb hat hbl' h ok
  rw [hs] at HS
  unfold Sp.val at HS
  dsimp only at HS
  clear h ok hs hid hb hat
  go_enter Try.func19, Try.ntmps19
  go_wp2_with fail
  refine Calls.mono HS.out ?_
  rintro e w2 ⟨rfl, u2⟩
  have H2 : Hid (Up W w2) := u2
  clear u2
  go_wp2_with (refine wpList_copy_nothing rfl _ _ 45 45 rfl 5 Try.underlying45 (by kernel_rfl) none ba 0 0 bl bc rfl rfl (by simp) ?_)
  go_ret
  exact ⟨by first | rfl | (simp; done), H2.out⟩
theorem NmAt.setCells {g n : Nat} {f : Nat → Int} (h : NmAt w g n f) (o m : Nat) (h' : Nat → Int) (hm : o + m ≤ n) : NmAt (w.setCells g o ((List.range' 0 m).map (fun k => .int .u8 (h' k)))) g n (fun k => if o ≤ k ∧ k < o + m then h' (k - o) else f k) := by
  obtain ⟨cs, ty, h1, h2, h3⟩ := h.row
  have hl : ((List.range' 0 m).map (fun k => Value.int .u8 (h' k))).length = m := by simp
  refine ⟨_, ty, heap_setCells_same g ty _ o cs w h1, by rw [putL_size, h2], fun k hk => ?_⟩
  rw [putL_at _ _ _ _ (by rw [hl]; omega), hl]
  by_cases e : o ≤ k ∧ k < o + m
  · rw [if_pos e, if_pos e, List.getElem?_map, List.getElem?_range' (by omega)]
    simp
  · rw [if_neg e, if_neg e]
    exact h3 k hk
set_option maxRecDepth 100000 in
set_option maxHeartbeats 1000000 in
theorem store_ok {i p A0 bb bo bl bc : Nat} {a : Arn} {l : Loan} {b : Int} {ba : Option Addr} {fb : Nat → Int} (hb : I64 b) (hA0 : A0 ≤ 65536) (h : PlAt K W pb P) (ok : Ok P) (ha : P.ars[i]? = some (some a)) (hp : a.place b = p) (hl : a.loans[p]? = some l) (hle : A0 + bl ≤ l.size) (D : Byts W ba bb bo bl bc fb) (hk : 0 < bl → K bb) :
    Calls Try.prog 19 #[.pointer (some ⟨pb, 0, none⟩), .int .i64 (i : Int), .int .i64 b, .int .i64 (A0 : Int), .slice ba bl bc] W fun e w' => e = .returned (.int .i64 0) ∧ PlAt K w' pb (P.stored i a p l A0 bl fb) ∧ FK K W w' := by
  obtain ⟨R, A, h⟩ := h
  have hlm := List.mem_of_getElem? hl
  have hsz := ok.size ha hlm
  have hil := (List.getElem?_eq_some_iff.1 ha).1
  have na := ok.na
  have hs : P.span (i : Int) b (A0 : Int) (bl : Int) = .ok l A0 bl := by
    unfold Pl.span
    rw [Pl.arn_nat ha]
    dsimp only
    rw [hp, hl]
    dsimp only
    rw [if_neg (by omega), Int.toNat_natCast, Int.toNat_natCast]
  have hid' : I64 (i : Int) := ⟨by omega, by omega⟩
  have hat' : I64 (A0 : Int) := ⟨by omega, by omega⟩
  have hn' : I64 (bl : Int) := ⟨by omega, by omega⟩
  have HS : Hid _ := span_any hid' hb hat' hn' h ok
  rw [hs] at HS
  unfold Sp.val at HS
  dsimp only at HS
  obtain ⟨hr, hnm⟩ := h.byt i a l ha hlm
  have hbc := D.lc
  have hbm : bc ≤ 9223372036854775807 := by have := D.cm; unfold maxLen at this; omega
  by_cases h0 : bl = 0
  · subst h0
    have HE : Hid (∀ w, Up W w → PlAt K w pb (P.stored i a p l A0 0 fb) ∧ FK K W w) := fun w u => by
      have hq := h.up u
      have ht := hq.byt_set (p := p) (at' := A0) (n := 0) (f := fb) ha hl (Fr.refl l.blk w) ((hnm.of_block (u.block _ hnm.lt)).congr (fun k hk => by
        show l.f k = if A0 ≤ k ∧ k < A0 + 0 then _ else l.f k
        rw [if_neg (by omega)]))
      exact ⟨⟨_, _, ht.1⟩, (FK.ofUp u).trans ht.2⟩
    clear h ok ha hp hl D hk hs hr hnm hlm
    generalize (if l.size = A0 then some (⟨l.blk, 0, none⟩ : Addr) else some ⟨l.blk, A0, none⟩) = da at HS
    go_enter Try.func19, Try.ntmps19
    go_wp2_with fail
    refine Calls.mono HS.out ?_
    rintro e w2 ⟨rfl, u2⟩
    have H2 : Hid (Up W w2) := u2
    clear u2
    go_wp2_with (refine wpList_copy_nothing rfl _ _ 45 45 rfl 5 Try.underlying45 (by kernel_rfl) da ba 0 _ 0 bc rfl rfl (by simp) ?_)
    go_ret
    exact ⟨by first | rfl | (simp; done), HE.out _ H2.out⟩
  · have hne : ¬ l.size = A0 := by omega
    rw [if_neg hne] at HS
    obtain rfl := D.ad (by omega)
    have hkb := hk (by omega)
    have hbb : bb ≠ l.blk := fun e => by
      have := h.kn bb hkb
      rw [e, hr] at this
      cases this
    have HCp : Hid (∀ w, Up W w → ∀ ty, (Builtin.copy_ #[45, 45] ty #[.slice (some ⟨l.blk, A0, none⟩) bl (l.size - A0), .slice (some ⟨bb, bo, none⟩) bl bc]).run Try.prog w = .ok (goInt ((List.range' 0 bl).map (fun k => Value.int .u8 (fb k))).length) (w.setCells l.blk A0 ((List.range' 0 bl).map (fun k => .int .u8 (fb k))))) := fun w u ty => by
      have nw := hnm.of_block (u.block _ hnm.lt)
      refine run_copy_cells w _ _ ty 5 l.blk A0 bl (l.size - A0) ⟨bb, bo, none⟩ bl bc _ Try.underlying45 (by kernel_rfl) (by simp) (fun j v hj => ?_) (fun j hj => ?_) (fun j hj => nw.fz _) (fun v hv => ?_)
      · have hjn : j < bl := by have := (List.getElem?_eq_some_iff.1 hj).1; simpa using this
        rw [List.getElem?_map, List.getElem?_range' hjn] at hj
        simp at hj
        rw [Addr.add_lit, ← hj]
        exact (u.cell (World.block_lt_of_cell? _ _ (D.cell j hjn))).trans (D.cell j hjn)
      · have hjn : j < bl := by simpa using hj
        rw [nw.cell (A0 + j) (by omega)]
        rfl
      · obtain ⟨k, _, rfl⟩ := List.mem_map.1 hv
        rfl
    have HE : Hid (∀ w, Up W w → PlAt K (w.setCells l.blk A0 ((List.range' 0 bl).map (fun k => .int .u8 (fb k)))) pb (P.stored i a p l A0 bl fb) ∧ FK K W (w.setCells l.blk A0 ((List.range' 0 bl).map (fun k => .int .u8 (fb k))))) := fun w u => by
      have hq := h.up u
      have nw := hnm.of_block (u.block _ hnm.lt)
      have ht := hq.byt_set (p := p) (at' := A0) (n := bl) (f := fb) ha hl (fr_setCells l.blk _ A0 w) (nw.setCells A0 bl fb hle)
      exact ⟨⟨_, _, ht.1⟩, (FK.ofUp u).trans ht.2⟩
    clear h ok ha hp hl D hk hs hr hnm hlm hne hkb
    go_enter Try.func19, Try.ntmps19
    go_wp2_with fail
    refine Calls.mono HS.out ?_
    rintro e w2 ⟨rfl, u2⟩
    have H2 : Hid (Up W w2) := u2
    clear u2
    go_wp2_with (refine wpList_copy_runI _ rfl _ _ 45 45 rfl _ _ rfl rfl (HCp.out w2 H2.out _) ?_)
    go_ret
    exact ⟨by first | rfl | (simp; done), HE.out _ H2.out⟩
theorem lentOf_append {c : Nat} {a : Arn} {l : Loan} : lentOf c (some { a with loans := a.loans ++ [l] }) = lentOf c (some a) ++ (if l.cls = c then [l.buf] else []) := by
  unfold lentOf
  dsimp only
  rw [List.filter_append, List.map_append]
  congr 1
  by_cases e : l.cls = c
  · simp [e]
  · simp [e]
theorem perm_erase {l : List Nat} {r b : Nat} (h : l[r]? = some b) : l.Perm (b :: l.eraseIdx r) := by
  obtain ⟨hr, e⟩ := List.getElem?_eq_some_iff.1 h
  rw [List.eraseIdx_eq_take_drop_succ]
  refine List.Perm.trans (List.Perm.of_eq ?_) List.perm_middle
  rw [← e, List.getElem_cons_drop, List.take_append_drop]
theorem Ok.taken (ok : Ok P) {i c r buf : Nat} {a : Arn} {x : Cls} {l : Loan} (ha : P.ars[i]? = some (some a)) (hx : P.cls[c]? = some x) (hb : x.free[r]? = some buf) (h1 : l.buf = buf) (h2 : l.cls = c) (h3 : l.size = x.size) : Ok (P.taken i a c x r l) := by
  have hil := (List.getElem?_eq_some_iff.1 ha).1
  have hcl := (List.getElem?_eq_some_iff.1 hx).1
  have hat : ∀ (k : Nat) z, (P.taken i a c x r l).cls[k]? = some z → (k = c ∧ z = { x with free := x.free.eraseIdx r }) ∨ (k ≠ c ∧ P.cls[k]? = some z) := fun k z hz => by
    have hz : (P.cls.set c { x with free := x.free.eraseIdx r })[k]? = some z := hz
    rw [List.getElem?_set] at hz
    by_cases e : c = k
    · rw [if_pos e, if_pos (by omega)] at hz
      injection hz with hz
      exact Or.inl ⟨e.symm, hz.symm⟩
    · rw [if_neg e] at hz
      exact Or.inr ⟨fun e' => e e'.symm, hz⟩
  refine ⟨by unfold Pl.taken Pl.setArn Pl.setFree; simp; exact ok.nc, by unfold Pl.taken Pl.setArn Pl.setFree; simp; exact ok.na, fun k z hz => ?_, fun k z hz => ?_, fun k z hz => ?_, fun k y m hy hm => ?_, fun k z hz => ?_⟩
  · rcases hat k z hz with ⟨rfl, rfl⟩ | ⟨_, hz⟩
    · exact ok.sz k x hx
    · exact ok.sz k z hz
  · rcases hat k z hz with ⟨rfl, rfl⟩ | ⟨_, hz⟩
    · exact ok.my k x hx
    · exact ok.my k z hz
  · have hs := lent_set ha k (some { a with loans := a.loans ++ [l] })
    rw [lentOf_append] at hs
    show (z.free ++ lent (P.ars.set i (some { a with loans := a.loans ++ [l] })) k).Perm _
    rcases hat k z hz with ⟨rfl, rfl⟩ | ⟨hk, hz⟩
    · rw [if_pos h2, List.append_assoc] at hs
      have h4 := (List.perm_append_left_iff _).1 hs
      refine List.Perm.trans ?_ (ok.pm k x hx)
      refine (h4.symm.append_left _).trans ?_
      show (x.free.eraseIdx r ++ ([l.buf] ++ lent P.ars k)).Perm _
      rw [h1]
      refine List.perm_middle.trans ?_
      exact ((perm_erase hb).symm).append_right _
    · rw [if_neg (fun e => hk (by omega)), List.append_nil] at hs
      have h4 := (List.perm_append_left_iff _).1 hs
      exact (h4.symm.append_left _).trans (ok.pm k z hz)
  · have hcls : ∀ (m : Loan) y, P.cls[m.cls]? = some y → m.size = y.size → ∃ z, (P.taken i a c x r l).cls[m.cls]? = some z ∧ m.size = z.size := fun m y hy he => by
      by_cases e : m.cls = c
      · refine ⟨{ x with free := x.free.eraseIdx r }, ?_, ?_⟩
        · show (P.cls.set c { x with free := x.free.eraseIdx r })[m.cls]? = _
          rw [e, List.getElem?_set, if_pos rfl, if_pos hcl]
        · rw [he]
          rw [e, hx] at hy
          injection hy with hy
          rw [← hy]
      · refine ⟨y, ?_, he⟩
        show (P.cls.set c { x with free := x.free.eraseIdx r })[m.cls]? = _
        rw [List.getElem?_set, if_neg (fun e' => e e'.symm)]
        exact hy
    rcases setArn_at (P := P.setFree c x (x.free.eraseIdx r)) hil k _ hy with ⟨rfl, e⟩ | ⟨hk, hy⟩
    · injection e with e
      subst e
      rcases List.mem_append.1 hm with hm | hm
      · obtain ⟨y, h5, h6⟩ := ok.ln k a m ha hm
        exact hcls m y h5 h6
      · rw [List.mem_singleton] at hm
        subst hm
        exact hcls m x (by rw [h2]; exact hx) h3
    · obtain ⟨z, h5, h6⟩ := ok.ln k y m hy hm
      exact hcls m z h5 h6
  · rcases hat k z hz with ⟨rfl, rfl⟩ | ⟨_, hz⟩
    · exact (ok.so k x hx).sublist (List.eraseIdx_sublist _ _)
    · exact ok.so k z hz
theorem Ok.stored (ok : Ok P) {i p at' n : Nat} {a : Arn} {l : Loan} {f : Nat → Int} (ha : P.ars[i]? = some (some a)) (hl : a.loans[p]? = some l) : Ok (P.stored i a p l at' n f) := by
  have hg : ∀ (ls : List Loan) (p : Nat), ls[p]? = some l → ∀ c, ((ls.set p (l.stored at' n f)).filter (fun m => m.cls == c)).map (·.buf) = (ls.filter (fun m => m.cls == c)).map (·.buf) := by
    intro ls
    induction ls with
    | nil => intro p hp c; simp at hp
    | cons y r ih =>
      intro p hp c
      cases p with
      | zero =>
        simp at hp
        subst hp
        rw [List.set_cons_zero, List.filter_cons, List.filter_cons]
        show List.map _ (if (y.cls == c) = true then _ else _) = _
        split <;> rfl
      | succ p =>
        rw [List.set_cons_succ, List.filter_cons, List.filter_cons]
        split
        · rw [List.map_cons, List.map_cons, ih p (by simpa using hp) c]
        · exact ih p (by simpa using hp) c
  refine ok.setArn ha (fun c => ?_) (fun b m e hm => ?_)
  · show (List.map _ _).Perm (List.map _ _)
    rw [hg a.loans p hl c]
  · injection e with e
    subst e
    obtain ⟨j, hj⟩ := List.mem_iff_getElem?.1 hm
    rw [List.getElem?_set] at hj
    by_cases e : p = j
    · rw [if_pos e] at hj
      split at hj
      · injection hj with hj
        subst hj
        exact ok.ln i a l ha (List.mem_of_getElem? hl)
      · cases hj
    · rw [if_neg e] at hj
      exact ok.ln i a m ha (List.mem_of_getElem? hj)
theorem Pb.take (h : Pb W K pb P w) {i c r buf : Nat} {a : Arn} {x : Cls} {size pk : Int} (hsz : I64 size) (hpk : I64 pk) (ha : P.ars[i]? = some (some a)) (hq : I64 a.quota) (h1 : 1 ≤ size) (hc : P.classFor size = c) (hx : P.cls[c]? = some x) (hqu : (sizes a.loans : Int) + (x.size : Int) ≤ a.quota) (hr : pickI pk x.free.length = (r : Int)) (hbuf : x.free[r]? = some buf) :
    Calls Try.prog 15 #[.pointer (some ⟨pb, 0, none⟩), .int .i64 (i : Int), .int .i64 size, .int .i64 pk] w fun e w' => e = .returned (.tuple #[.agg #[.int .i64 (buf : Int), .int .i64 (c : Int), .int .i64 (x.size : Int)], .int .i64 0]) ∧ (∃ blk, Pb W K pb (P.taken i a c x r ⟨buf, c, x.size, blk, fun _ => 0⟩) w') ∧ FK K w w' :=
  (take_ok hsz hpk h.at' h.ok ha hq h1 hc hx hqu hr hbuf).mono fun e w' ⟨g1, ⟨blk, g2⟩, g3⟩ => ⟨g1, ⟨blk, g2, h.ok.taken ha hx hbuf rfl rfl rfl, h.up.fk g3 h.ko, h.ko⟩, g3⟩
theorem Pb.store (h : Pb W K pb P w) {i p A0 bb bo bl bc : Nat} {a : Arn} {l : Loan} {b : Int} {ba : Option Addr} {fb : Nat → Int} (hb : I64 b) (hA0 : A0 ≤ 65536) (ha : P.ars[i]? = some (some a)) (hp : a.place b = p) (hl : a.loans[p]? = some l) (hle : A0 + bl ≤ l.size) (D : Byts w ba bb bo bl bc fb) (hk : 0 < bl → K bb) :
    Calls Try.prog 19 #[.pointer (some ⟨pb, 0, none⟩), .int .i64 (i : Int), .int .i64 b, .int .i64 (A0 : Int), .slice ba bl bc] w fun e w' => e = .returned (.int .i64 0) ∧ Pb W K pb (P.stored i a p l A0 bl fb) w' ∧ FK K w w' :=
  (store_ok hb hA0 h.at' h.ok ha hp hl hle D hk).mono fun e w' ⟨g1, g2, g3⟩ => ⟨g1, ⟨g2, h.ok.stored ha hl, h.up.fk g3 h.ko, h.ko⟩, g3⟩
theorem Pb.storeErr (h : Pb W K pb P w) {id b at' e0 : Int} {ba : Option Addr} {bl bc : Nat} (hid : I64 id) (hb : I64 b) (hat : I64 at') (hbl : bl ≤ 9223372036854775807) (hs : P.span id b at' (bl : Int) = .err e0) :
    Calls Try.prog 19 #[.pointer (some ⟨pb, 0, none⟩), .int .i64 id, .int .i64 b, .int .i64 at', .slice ba bl bc] w fun e w' => e = .returned (.int .i64 e0) ∧ Up w w' := by
  obtain ⟨R, A, hp⟩ := h.at'
  exact store_err hid hb hat hbl hp h.ok hs
theorem Pb.load (h : Pb W K pb P w) {id b at' n : Int} {l : Loan} {A0 N0 : Nat} (hid : I64 id) (hb : I64 b) (hat : I64 at') (hn : I64 n) (hs : P.span id b at' n = .ok l A0 N0) :
    Calls Try.prog 20 #[.pointer (some ⟨pb, 0, none⟩), .int .i64 id, .int .i64 b, .int .i64 at', .int .i64 n] w fun e w' => ∃ g cap, e = .returned (.tuple #[.slice (some ⟨g, 0, none⟩) N0 cap, .int .i64 0]) ∧ w.heap.size ≤ g ∧ Lst w' g N0 cap (fun k => l.f (A0 + k)) ∧ Up w w' := by
  obtain ⟨R, A, hp⟩ := h.at'
  exact load_ok hid hb hat hn hp h.ok hs
theorem Pb.loadErr (h : Pb W K pb P w) {id b at' n e0 : Int} (hid : I64 id) (hb : I64 b) (hat : I64 at') (hn : I64 n) (hs : P.span id b at' n = .err e0) :
    Calls Try.prog 20 #[.pointer (some ⟨pb, 0, none⟩), .int .i64 id, .int .i64 b, .int .i64 at', .int .i64 n] w fun e w' => e = .returned (.tuple #[.slice none 0 0, .int .i64 e0]) ∧ Up w w' := by
  obtain ⟨R, A, hp⟩ := h.at'
  exact load_err hid hb hat hn hp h.ok hs
end Go.Proofs.Yteijdcidemajfaa
