/- Arena: held, span, Load, Store, Give. -/
import Derived.Test.YteijdcidemajfaaArS
import Derived.Shelf.SlicesE.Clone
import Derived.Laws.BytesArg
namespace Go.Proofs.Yteijdcidemajfaa
open Go.RowKit
set_option linter.unusedVariables false
variable {R : Nat → Option Role} {K K' : Nat → Prop} {w w' W : World} {pb : Nat} {A : Ad} {P : Pl}
/-- where a buffer stands among an arena's -/
def Arn.place (a : Arn) (b : Int) : Nat := a.loans.findIdx (fun l => (l.buf : Int) == b)
set_option maxRecDepth 100000 in
theorem held_none {id b : Int} (hid : I64 id) (hb : I64 b) (h : PlR R K W pb A P) (ok : Ok P) (ha : P.arn id = none) :
    Calls Try.prog 42 #[.pointer (some ⟨pb, 0, none⟩), .int .i64 id, .int .i64 b] W fun e w' => e = .returned (.tuple #[.pointer none, .int .i64 0, .int .i64 94]) ∧ Up W w' := by
  have HO : Hid (∀ w, Up W w → Calls Try.prog 33 #[.pointer (some ⟨pb, 0, none⟩), .int .i64 id] w fun e w' => e = .returned (.tuple #[.pointer none, .int .i64 94]) ∧ w' = w) := fun w u => opened_no hid (h.up u) ha (by have := ok.na; omega)
  clear h ok ha hid
  go_enter Try.func42, Try.ntmps42
  go_wp2_with fail
  have HU : Hid (Up W (W.alloc (Obj.cells #[.int .i64 b] 3))) := (Up.refl W).alloc _
  generalize World.alloc W _ = Wa at HU ⊢
  refine (HO.out _ HU.out).mono ?_
  rintro e w' ⟨rfl, hw'⟩
  obtain rfl := hw'.symm
  go_wp2_with fail
  refine bodyPost_ret (v := .tuple #[.pointer none, .int .i64 0, .int .i64 94]) ?_ rfl ⟨rfl, HU.out⟩
  simp [results, Try.results42, go_sem]
set_option maxRecDepth 100000 in
set_option maxHeartbeats 1000000 in
theorem held_any {i : Nat} {a : Arn} {b : Int} (hb : I64 b) (h : PlR R K W pb A P) (ok : Ok P) (ha : P.ars[i]? = some (some a)) :
    Calls Try.prog 42 #[.pointer (some ⟨pb, 0, none⟩), .int .i64 (i : Int), .int .i64 b] W fun e w' => e = .returned (if a.place b < a.loans.length then .tuple #[.pointer (some ⟨A.ar i, 0, none⟩), .int .i64 (a.place b : Int), .int .i64 0] else .tuple #[.pointer none, .int .i64 0, .int .i64 97]) ∧ Up W w' := by
  have HO : Hid (∀ w, Up W w → Calls Try.prog 33 #[.pointer (some ⟨pb, 0, none⟩), .int .i64 (i : Int)] w fun e w' => e = .returned (.tuple #[.pointer (some ⟨A.ar i, 0, none⟩), .int .i64 0]) ∧ w' = w) := fun w u => opened_yes (h.up u) ha (by have := ok.na; omega)
  obtain ⟨g1, g2, g3, g4⟩ := h.arn i a ha
  obtain ⟨va, vc, hv⟩ : ∃ va vc, A.lv i = .slice va a.loans.length vc := by
    rcases own_cases g3 with ⟨hv, hn, _⟩ | ⟨g, cap, hv, _⟩
    · exact ⟨none, 0, by rw [hv, hn]⟩
    · exact ⟨_, _, hv⟩
  rw [hv] at g2 g3
  have HF : Hid (∀ w q, Up W w → w.cell? ⟨q, 0, none⟩ = some (.int .i64 b) → Calls Try.prog 68 #[.slice va a.loans.length vc, .func (.func 69) #[] #[.pointer (some ⟨q, 0, none⟩)]] w fun e w' => e = .returned (.int .i64 ((a.place b : Nat) : Int)) ∧ Up w w') := fun w q u hq => findL_any (ownsRow_up g3 u) hq
  have HK : Hid (∀ w, Up W w → w.cell? ⟨A.ar i, 1, none⟩ = some (.slice va a.loans.length vc)) := fun w u => heap_cell ((u.block _ (heap_at g2)).trans g2) rfl
  have hle : a.place b ≤ a.loans.length := List.findIdx_le_length
  have hn := ok.loans ha
  have ka : (W.alloc (Obj.cells #[.int .i64 b] 3)).cell? ⟨W.heap.size, 0, none⟩ = some (.int .i64 b) := heap_cell (heap_alloc_new W _) rfl
  have HU : Hid (Up W (W.alloc (Obj.cells #[.int .i64 b] 3)) ∧ (W.alloc (Obj.cells #[.int .i64 b] 3)).cell? ⟨W.heap.size, 0, none⟩ = some (.int .i64 b)) := ⟨(Up.refl W).alloc _, ka⟩
  clear h ok ha g1 g2 g3 g4 hv ka
  generalize a.place b = pl at *
  generalize a.loans.length = n at *
  by_cases hp : pl < n
  · have d1 : ((pl : Int) == (n : Int)) = false := beq_eq_false_iff_ne.2 (by omega)
    rw [if_pos hp]
    go_enter Try.func42, Try.ntmps42
    go_wp2_with fail
    generalize World.alloc W _ = Wa at HU ⊢
    generalize W.heap.size = q at HU ⊢
    refine (HO.out _ HU.out.1).mono ?_
    rintro e w' ⟨rfl, hw'⟩
    obtain rfl := hw'.symm
    have k1 := HK.out Wa HU.out.1
    go_wp2_with fail
    refine (HF.out _ _ HU.out.1 HU.out.2).mono ?_
    rintro e w2 ⟨rfl, u2⟩
    have H2 : Hid (Up W w2) := HU.out.1.trans u2
    have k2 := HK.out w2 H2.out
    clear u2 k1
    go_wp2_with fail
    refine bodyPost_ret (v := .tuple #[.pointer (some ⟨A.ar i, 0, none⟩), .int .i64 (pl : Int), .int .i64 0]) ?_ rfl ⟨rfl, H2.out⟩
    simp [results, Try.results42, go_sem]
  · obtain rfl : pl = n := by omega
    rw [if_neg hp]
    go_enter Try.func42, Try.ntmps42
    go_wp2_with fail
    generalize World.alloc W _ = Wa at HU ⊢
    generalize W.heap.size = q at HU ⊢
    refine (HO.out _ HU.out.1).mono ?_
    rintro e w' ⟨rfl, hw'⟩
    obtain rfl := hw'.symm
    have k1 := HK.out Wa HU.out.1
    go_wp2_with fail
    refine (HF.out _ _ HU.out.1 HU.out.2).mono ?_
    rintro e w2 ⟨rfl, u2⟩
    have H2 : Hid (Up W w2) := HU.out.1.trans u2
    have k2 := HK.out w2 H2.out
    clear u2 k1
    go_wp2_with fail
    refine bodyPost_ret (v := .tuple #[.pointer none, .int .i64 0, .int .i64 97]) ?_ rfl ⟨rfl, H2.out⟩
    simp [results, Try.results42, go_sem]
/-- what a Load or a Store meets -/
inductive Sp where
  | err (e : Int)
  | ok (l : Loan) (at' n : Nat)
def Pl.span (P : Pl) (id b at' n : Int) : Sp :=
  match P.arn id with
  | none => .err 94
  | some a => match a.loans[a.place b]? with
    | none => .err 97
    | some l => if at' < 0 ∨ n < 0 ∨ (l.size : Int) - at' < n then .err 98 else .ok l at'.toNat n.toNat
def Sp.val : Sp → Value
  | .err e => .tuple #[.slice none 0 0, .int .i64 e]
  | .ok l at' n => .tuple #[.slice (if l.size = at' then some ⟨l.blk, 0, none⟩ else some ⟨l.blk, at', none⟩) n (l.size - at'), .int .i64 0]
set_option maxRecDepth 100000 in
set_option maxHeartbeats 1000000 in
theorem span_any {id b at' n : Int} (hid : I64 id) (hb : I64 b) (hat : I64 at') (hn : I64 n) (h : PlR R K W pb A P) (ok : Ok P) :
    Calls Try.prog 44 #[.pointer (some ⟨pb, 0, none⟩), .int .i64 id, .int .i64 b, .int .i64 at', .int .i64 n] W fun e w' => e = .returned (P.span id b at' n).val ∧ Up W w' := by
  unfold Pl.span
  cases ha : P.arn id with
  | none =>
    dsimp only
    have HH : Hid _ := held_none hid hb h ok ha
    clear h ok ha hid hb hat hn
    go_enter Try.func44, Try.ntmps44
    go_wp2_with fail
    refine Calls.mono HH.out ?_
    rintro e w2 ⟨rfl, u2⟩
    have H2 : Hid (Up W w2) := u2
    clear u2
    go_wp2_with fail
    go_ret2
    exact ⟨by first | rfl | (simp; done), H2.out⟩
  | some a =>
    dsimp only
    obtain ⟨i, rfl, hai⟩ := Pl.arn_some ha
    clear ha
    have ha := hai
    clear hai
    have HH : Hid _ := held_any hb h ok ha
    cases hl : a.loans[a.place b]? with
    | none =>
      dsimp only
      have hnl : ¬ a.place b < a.loans.length := by have := List.getElem?_eq_none_iff.1 hl; omega
      rw [if_neg hnl] at HH
      clear h ok ha hid hb hat hn hl
      go_enter Try.func44, Try.ntmps44
      go_wp2_with fail
      refine Calls.mono HH.out ?_
      rintro e w2 ⟨rfl, u2⟩
      have H2 : Hid (Up W w2) := u2
      clear u2
      go_wp2_with fail
      go_ret2
      exact ⟨by first | rfl | (simp; done), H2.out⟩
    | some l =>
      dsimp only
      have hpl := (List.getElem?_eq_some_iff.1 hl).1
      rw [if_pos hpl] at HH
      obtain ⟨g1, g2, g3, g4⟩ := h.arn i a ha
      obtain ⟨g, cap, hv, hgc, hgm, _⟩ : ∃ g cap, A.lv i = .slice (some ⟨g, 0, none⟩) a.loans.length cap ∧ a.loans.length ≤ cap ∧ cap ≤ maxLen ∧ True := by
        rcases own_cases g3 with ⟨hv, hn0, _⟩ | ⟨g, cap, hv, h1, h2, _⟩
        · omega
        · exact ⟨g, cap, hv, h1, h2, trivial⟩
      rw [hv] at g2 g3
      have HK : Hid (∀ w, Up W w → w.cell? ⟨A.ar i, 1, none⟩ = some (.slice (some ⟨g, 0, none⟩) a.loans.length cap) ∧ w.cell? ⟨g, a.place b * 4 + 3, none⟩ = some (.slice (some ⟨l.blk, 0, none⟩) l.size l.size)) := fun w u => ⟨heap_cell ((u.block _ (heap_at g2)).trans g2) rfl, (loan_range (ownsRow_up g3 u) hl) 3 _ rfl⟩
      have hsz := ok.size ha (List.mem_of_getElem? hl)
      have hln := ok.loans ha
      have hc2 : cap ≤ 9223372036854775807 := by unfold maxLen at hgm; omega
      obtain ⟨i1, i2⟩ := hat
      obtain ⟨i3, i4⟩ := hn
      clear h ok ha hid hb hl g1 g2 g3 g4 hv hgm
      generalize a.place b = pl at *
      have d0 : (pl : Int) < (a.loans.length : Int) := by omega
      obtain ⟨s1, s2⟩ := hsz
      obtain ⟨sz, hsz⟩ : ∃ sz, sz = l.size := ⟨_, rfl⟩
      rw [← hsz] at HK s1 s2 ⊢
      have HSZ : Hid (sz = l.size) := hsz
      clear hsz
      by_cases q1 : at' < 0
      · rw [if_pos (Or.inl q1)]
        go_enter Try.func44, Try.ntmps44
        go_wp2_with fail
        refine Calls.mono HH.out ?_
        rintro e w2 ⟨rfl, u2⟩
        obtain ⟨k1, k2⟩ := HK.out w2 u2
        have H2 : Hid (Up W w2) := u2
        clear u2
        go_wp2_with fail
        go_ret2
        exact ⟨by first | rfl | (simp; done), H2.out⟩
      · by_cases q2 : n < 0
        · rw [if_pos (Or.inr (Or.inl q2))]
          go_enter Try.func44, Try.ntmps44
          go_wp2_with fail
          refine Calls.mono HH.out ?_
          rintro e w2 ⟨rfl, u2⟩
          obtain ⟨k1, k2⟩ := HK.out w2 u2
          have H2 : Hid (Up W w2) := u2
          clear u2
          go_wp2_with fail
          go_ret2
          exact ⟨by first | rfl | (simp; done), H2.out⟩
        · by_cases q3 : (sz : Int) - at' < n
          · rw [if_pos (Or.inr (Or.inr q3))]
            go_enter Try.func44, Try.ntmps44
            go_wp2_with fail
            refine Calls.mono HH.out ?_
            rintro e w2 ⟨rfl, u2⟩
            obtain ⟨k1, k2⟩ := HK.out w2 u2
            have H2 : Hid (Up W w2) := u2
            clear u2
            go_wp2_with fail
            go_ret2
            exact ⟨by first | rfl | (simp; done), H2.out⟩
          · rw [if_neg (by omega)]
            obtain ⟨A0, rfl⟩ := Int.eq_ofNat_of_zero_le (show 0 ≤ at' by omega)
            obtain ⟨N0, rfl⟩ := Int.eq_ofNat_of_zero_le (show 0 ≤ n by omega)
            have q4 : (A0 : Int) + (N0 : Int) ≤ (sz : Int) := by omega
            have q5 : ((A0 : Int) + (N0 : Int)).toNat = A0 + N0 := by omega
            have q6 : (A0 : Int) ≤ (A0 : Int) + (N0 : Int) := by omega
            have HV : Hid (∀ b : Bool, b = decide (sz = A0) → (Sp.ok l A0 N0).val = .tuple #[.slice (if b = true then some ⟨l.blk, 0, none⟩ else some ⟨l.blk, A0, none⟩) N0 (sz - A0), .int .i64 0]) := fun b hb => by
              unfold Sp.val
              dsimp only
              rw [← HSZ.out, hb]
              by_cases e : sz = A0
              · rw [if_pos e, if_pos (by simpa using e)]
              · rw [if_neg e, if_neg (by simpa using e)]
            by_cases es : sz = A0
            · have hv := HV.out true (by simp [es])
              rw [if_pos rfl] at hv
              rw [show ((A0 : Int)).toNat = A0 by omega, show ((N0 : Int)).toNat = N0 by omega, hv]
              clear hv HV
              subst es
              go_enter Try.func44, Try.ntmps44
              go_wp2_with fail
              refine Calls.mono HH.out ?_
              rintro e w2 ⟨rfl, u2⟩
              obtain ⟨k1, k2⟩ := HK.out w2 u2
              have H2 : Hid (Up W w2) := u2
              clear u2
              go_wp2_with fail
              go_ret2
              exact ⟨by first | rfl | (simp; done), H2.out⟩
            · have hv := HV.out false (by simp [es])
              rw [if_neg (by simp)] at hv
              rw [show ((A0 : Int)).toNat = A0 by omega, show ((N0 : Int)).toNat = N0 by omega, hv]
              clear hv HV
              go_enter Try.func44, Try.ntmps44
              go_wp2_with fail
              refine Calls.mono HH.out ?_
              rintro e w2 ⟨rfl, u2⟩
              obtain ⟨k1, k2⟩ := HK.out w2 u2
              have H2 : Hid (Up W w2) := u2
              clear u2
              go_wp2_with fail
              go_ret2
              exact ⟨by first | rfl | (simp; done), H2.out⟩
end Go.Proofs.Yteijdcidemajfaa
