/- Arena: Give. -/
import Derived.Test.YteijdcidemajfaaArZ
namespace Go.Proofs.Yteijdcidemajfaa
open Go.RowKit
set_option linter.unusedVariables false
variable {R : Nat → Option Role} {K K' : Nat → Prop} {w w' W : World} {pb : Nat} {A : Ad} {P : Pl}
def Pl.given (P : Pl) (i : Nat) (a : Arn) (p : Nat) (l : Loan) (x : Cls) : Pl := (P.setArn i (some { a with loans := a.loans.eraseIdx p })).setFree l.cls x (insN l.buf x.free)
theorem PlR.drawn {i p : Nat} {a : Arn} {l : Loan} (h : PlR R K w pb A P) (ha : P.ars[i]? = some (some a)) (hl : a.loans[p]? = some l) :
    Calls Try.prog 43 #[.pointer (some ⟨A.ar i, 1, none⟩), .int .i64 (p : Int)] w fun e w' => e = .returned (.agg l.cells.toArray) ∧ (∃ R' A', PlR R' K w' pb A' (P.setArn i (some { a with loans := a.loans.eraseIdx p }))) ∧ FK K w w' := by
  have hpl := (List.getElem?_eq_some_iff.1 hl).1
  obtain ⟨m, hm⟩ : ∃ m, a.loans.length = m + 1 := ⟨a.loans.length - 1, by omega⟩
  obtain ⟨g1, g2, g3, g4⟩ := h.arn i a ha
  obtain ⟨g, cap, hv, hgo⟩ : ∃ g cap, A.lv i = .slice (some ⟨g, 0, none⟩) a.loans.length cap ∧ (A.lv i).ownBlock = some g := by
    rcases own_cases g3 with ⟨hv, hn, _⟩ | ⟨g, cap, hv, h2, h3, h4, h5⟩
    · omega
    · exact ⟨g, cap, hv, h5⟩
  have hrg := g4 g hgo
  have ow := g3
  rw [hv, hm] at ow
  have hg2 := g2
  rw [hv, hm] at hg2
  refine (drawL_any (o := 1) hg2 rfl ow (fun e => by rw [e, g1] at hrg; cases hrg) hl hm).mono fun e w' ⟨e1, e2, e3⟩ => ?_
  have hle : (a.loans.eraseIdx p).length = m := by rw [List.length_eraseIdx, if_pos hpl]; omega
  rw [← hm, ← hv] at e2
  have ht := h.loans_chg (ls := a.loans.eraseIdx p) ha e2 (by rw [hle]; exact e3) (fun y hy => h.byt i a y ha (List.mem_of_mem_eraseIdx hy)) (List.Nodup.sublist ((List.eraseIdx_sublist a.loans p).map _) (h.nod i a ha))
  exact ⟨e1, ⟨_, _, ht.1⟩, ht.2⟩
set_option maxRecDepth 100000 in
theorem give_ok {i p : Nat} {a : Arn} {l : Loan} {x : Cls} {b : Int} (hb : I64 b) (h : PlAt K W pb P) (ok : Ok P) (ha : P.ars[i]? = some (some a)) (hp : a.place b = p) (hl : a.loans[p]? = some l) (hx : P.cls[l.cls]? = some x) :
    Calls Try.prog 18 #[.pointer (some ⟨pb, 0, none⟩), .int .i64 (i : Int), .int .i64 b] W fun e w' => e = .returned (.int .i64 0) ∧ PlAt K w' pb (P.given i a p l x) ∧ FK K W w' := by
  obtain ⟨R, A, h⟩ := h
  have hpl := (List.getElem?_eq_some_iff.1 hl).1
  have HH : Hid _ := held_any hb h ok ha
  rw [hp, if_pos hpl] at HH
  have HDr : Hid (∀ w, Up W w → _) := fun w u => (h.up u).drawn ha hl
  have hrm : x.free.length + 1 ≤ x.many := by
    have := ok.room ha hl hx
    rw [relF_len] at this
    omega
  have HRel : Hid (∀ w, (∃ R' A', PlR R' K w pb A' (P.setArn i (some { a with loans := a.loans.eraseIdx p }))) → Calls Try.prog 34 #[.pointer (some ⟨pb, 0, none⟩), .agg l.cells.toArray] w fun e w' => e = .returned (.tuple #[]) ∧ PlAt K w' pb (P.given i a p l x) ∧ FK K w w') := fun w ⟨R', A', hr⟩ => by
    refine (release_any hr (show (P.setArn i _).cls[l.cls]? = some x from hx) hrm ok.nc).mono fun e w' ⟨e1, ⟨R2, A2, e2, _⟩, e3⟩ => ⟨e1, ⟨R2, A2, e2⟩, e3⟩
  clear h ok ha hl hx hb hp hrm hpl
  generalize l.cells.toArray = la at HDr HRel
  generalize A.ar i = ai at HH HDr
  go_enter Try.func18, Try.ntmps18
  go_wp2_with fail
  refine Calls.mono HH.out ?_
  rintro e w2 ⟨rfl, u2⟩
  have H2 : Hid (Up W w2) := u2
  clear u2
  go_wp2_with fail
  refine Calls.mono (HDr.out w2 H2.out) ?_
  rintro e w3 ⟨rfl, h3, f3⟩
  have H3 : Hid ((∃ R' A', PlR R' K w3 pb A' (P.setArn i (some { a with loans := a.loans.eraseIdx p }))) ∧ FK K W w3) := ⟨h3, (FK.ofUp H2.out).trans f3⟩
  clear h3 f3
  go_wp2_with fail
  refine Calls.mono (HRel.out w3 H3.out.1) ?_
  rintro e w4 ⟨rfl, h4, f4⟩
  have H4 : Hid (PlAt K w4 pb (P.given i a p l x) ∧ FK K W w4) := ⟨h4, H3.out.2.trans f4⟩
  clear h4 f4
  go_wp2_with fail
  go_ret
  exact ⟨by first | rfl | (simp; done), H4.out⟩
set_option maxRecDepth 100000 in
theorem give_err {i : Nat} {a : Arn} {b : Int} (hb : I64 b) (h : PlR R K W pb A P) (ok : Ok P) (ha : P.ars[i]? = some (some a)) (hp : ¬ a.place b < a.loans.length) :
    Calls Try.prog 18 #[.pointer (some ⟨pb, 0, none⟩), .int .i64 (i : Int), .int .i64 b] W fun e w' => e = .returned (.int .i64 97) ∧ Up W w' := by
  have HH : Hid _ := held_any hb h ok ha
  rw [if_neg hp] at HH
  clear h ok ha hb hp
  go_enter Try.func18, Try.ntmps18
  go_wp2_with fail
  refine Calls.mono HH.out ?_
  rintro e w2 ⟨rfl, u2⟩
  have H2 : Hid (Up W w2) := u2
  clear u2
  go_wp2_with fail
  go_ret
  exact ⟨by first | rfl | (simp; done), H2.out⟩
theorem perm_eraseL {l : List Loan} {r : Nat} {b : Loan} (h : l[r]? = some b) : l.Perm (b :: l.eraseIdx r) := by
  obtain ⟨hr, e⟩ := List.getElem?_eq_some_iff.1 h
  rw [List.eraseIdx_eq_take_drop_succ]
  refine List.Perm.trans (List.Perm.of_eq ?_) List.perm_middle
  rw [← e, List.getElem_cons_drop, List.take_append_drop]
theorem Ok.given (ok : Ok P) {i p : Nat} {a : Arn} {l : Loan} {x : Cls} (ha : P.ars[i]? = some (some a)) (hl : a.loans[p]? = some l) (hx : P.cls[l.cls]? = some x) : Ok (P.given i a p l x) := by
  have hil := (List.getElem?_eq_some_iff.1 ha).1
  have hcl := (List.getElem?_eq_some_iff.1 hx).1
  have hat : ∀ (k : Nat) z, (P.given i a p l x).cls[k]? = some z → (k = l.cls ∧ z = { x with free := insN l.buf x.free }) ∨ (k ≠ l.cls ∧ P.cls[k]? = some z) := fun k z hz => by
    have hz : (P.cls.set l.cls { x with free := insN l.buf x.free })[k]? = some z := hz
    rw [List.getElem?_set] at hz
    by_cases e : l.cls = k
    · rw [if_pos e, if_pos (by omega)] at hz
      injection hz with hz
      exact Or.inl ⟨e.symm, hz.symm⟩
    · rw [if_neg e] at hz
      exact Or.inr ⟨fun e' => e e'.symm, hz⟩
  have hlo : ∀ c, (lentOf c (some a)).Perm ((if l.cls = c then [l.buf] else []) ++ lentOf c (some { a with loans := a.loans.eraseIdx p })) := fun c => by
    have := ((perm_eraseL hl).filter (fun l => l.cls == c)).map (·.buf)
    refine List.Perm.trans this (List.Perm.of_eq ?_)
    rw [List.filter_cons]
    by_cases e : l.cls = c
    · rw [if_pos e, if_pos (by simpa using e)]
      rfl
    · rw [if_neg e, if_neg (by simpa using e)]
      rfl
  refine ⟨by unfold Pl.given Pl.setArn Pl.setFree; simp; exact ok.nc, by unfold Pl.given Pl.setArn Pl.setFree; simp; exact ok.na, fun k z hz => ?_, fun k z hz => ?_, fun k z hz => ?_, fun k y m hy hm => ?_, fun k z hz => ?_⟩
  · rcases hat k z hz with ⟨rfl, rfl⟩ | ⟨_, hz⟩
    · exact ok.sz _ x hx
    · exact ok.sz k z hz
  · rcases hat k z hz with ⟨rfl, rfl⟩ | ⟨_, hz⟩
    · exact ok.my _ x hx
    · exact ok.my k z hz
  · have hs := lent_set ha k (some { a with loans := a.loans.eraseIdx p })
    have h3 := hs.trans ((hlo k).append_right _)
    show (z.free ++ lent (P.ars.set i (some { a with loans := a.loans.eraseIdx p })) k).Perm _
    have h4 : (lent P.ars k).Perm ((if l.cls = k then [l.buf] else []) ++ lent (P.ars.set i (some { a with loans := a.loans.eraseIdx p })) k) := by
      refine (List.perm_append_left_iff (lentOf k (some { a with loans := a.loans.eraseIdx p }))).1 (h3.trans ?_)
      rw [← List.append_assoc]
      exact List.perm_append_comm.append_right _
    rcases hat k z hz with ⟨rfl, rfl⟩ | ⟨hk, hz⟩
    · refine List.Perm.trans ?_ (ok.pm _ x hx)
      rw [if_pos rfl] at h4
      refine List.Perm.trans ?_ (h4.symm.append_left _)
      refine ((insN_perm l.buf x.free).append_right _).trans ?_
      exact List.perm_middle.symm
    · rw [if_neg (fun e => hk e.symm)] at h4
      exact (h4.symm.append_left _).trans (ok.pm k z hz)
  · have hcls : ∀ (m : Loan) y, P.cls[m.cls]? = some y → m.size = y.size → ∃ z, (P.given i a p l x).cls[m.cls]? = some z ∧ m.size = z.size := fun m y hy he => by
      by_cases e : m.cls = l.cls
      · refine ⟨{ x with free := insN l.buf x.free }, ?_, ?_⟩
        · show (P.cls.set l.cls { x with free := insN l.buf x.free })[m.cls]? = _
          rw [e, List.getElem?_set, if_pos rfl, if_pos hcl]
        · rw [he]
          rw [e, hx] at hy
          injection hy with hy
          rw [← hy]
      · refine ⟨y, ?_, he⟩
        show (P.cls.set l.cls { x with free := insN l.buf x.free })[m.cls]? = _
        rw [List.getElem?_set, if_neg (fun e' => e e'.symm)]
        exact hy
    rcases setArn_at (P := P) hil k _ hy with ⟨rfl, e⟩ | ⟨hk, hy⟩
    · injection e with e
      subst e
      obtain ⟨y, h5, h6⟩ := ok.ln k a m ha (List.mem_of_mem_eraseIdx hm)
      exact hcls m y h5 h6
    · obtain ⟨z, h5, h6⟩ := ok.ln k y m hy hm
      exact hcls m z h5 h6
  · rcases hat k z hz with ⟨rfl, rfl⟩ | ⟨_, hz⟩
    · exact insN_sorted _ _ (ok.so _ x hx)
    · exact ok.so k z hz
theorem Pb.takeQuota (h : Pb W K pb P w) {i c : Nat} {a : Arn} {x : Cls} {size pk : Int} (hsz : I64 size) (hpk : I64 pk) (ha : P.ars[i]? = some (some a)) (hq : I64 a.quota) (h1 : 1 ≤ size) (hc : P.classFor size = c) (hx : P.cls[c]? = some x) (hqu : a.quota < (sizes a.loans : Int) + (x.size : Int)) :
    Calls Try.prog 15 #[.pointer (some ⟨pb, 0, none⟩), .int .i64 (i : Int), .int .i64 size, .int .i64 pk] w fun e w' => e = .returned (.tuple #[.agg #[.int .i64 0, .int .i64 0, .int .i64 0], .int .i64 92]) ∧ Up w w' := by
  obtain ⟨R, A, hp⟩ := h.at'
  exact take_quota hsz hpk hp h.ok ha hq h1 hc hx hqu
theorem Pb.give (h : Pb W K pb P w) {i p : Nat} {a : Arn} {l : Loan} {x : Cls} {b : Int} (hb : I64 b) (ha : P.ars[i]? = some (some a)) (hp : a.place b = p) (hl : a.loans[p]? = some l) (hx : P.cls[l.cls]? = some x) :
    Calls Try.prog 18 #[.pointer (some ⟨pb, 0, none⟩), .int .i64 (i : Int), .int .i64 b] w fun e w' => e = .returned (.int .i64 0) ∧ Pb W K pb (P.given i a p l x) w' ∧ FK K w w' :=
  (give_ok hb h.at' h.ok ha hp hl hx).mono fun e w' ⟨g1, g2, g3⟩ => ⟨g1, ⟨g2, h.ok.given ha hl hx, h.up.fk g3 h.ko, h.ko⟩, g3⟩
theorem Pb.giveErr (h : Pb W K pb P w) {i : Nat} {a : Arn} {b : Int} (hb : I64 b) (ha : P.ars[i]? = some (some a)) (hp : ¬ a.place b < a.loans.length) :
    Calls Try.prog 18 #[.pointer (some ⟨pb, 0, none⟩), .int .i64 (i : Int), .int .i64 b] w fun e w' => e = .returned (.int .i64 97) ∧ Up w w' := by
  obtain ⟨R, A, h'⟩ := h.at'
  exact give_err hb h' h.ok ha hp
end Go.Proofs.Yteijdcidemajfaa
