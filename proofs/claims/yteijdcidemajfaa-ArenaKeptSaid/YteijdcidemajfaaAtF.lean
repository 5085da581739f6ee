/- Arena: acts: what is closed. -/
import Derived.Test.YteijdcidemajfaaAtE
import Derived.Deep.DeepCutAuto
namespace Go.Proofs.Yteijdcidemajfaa
open Go.RowKit
set_option linter.unusedVariables false
set_option linter.unusedSimpArgs false
variable {K K' O : Nat → Prop} {w w' W : World} {pb n : Nat} {P P' : Pl} {lv bv : Value} {ll bl hl L : List Loan} {C : Cx} {q : Int}
theorem Ax.size {hl : List Loan} {va ua : Option Addr} {vn vc un uc : Nat} (h : Ax C P (.slice va vn vc) (.slice ua un uc) hl bl w) (hs : ∀ l ∈ hl, l.size ≤ 65536) (hn : hl.length ≤ 4096) : Calls Try.prog 24 #[.agg #[.int .i64 (C.i : Int), .slice va vn vc, .slice ua un uc]] w fun e w' => e = .returned (.int .i64 (sizes hl : Nat)) ∧ Up w w' := by
  obtain ⟨K, O, _, h2, _⟩ := h.at'
  have lo := h2.lo
  obtain rfl : vn = hl.length := by
    rcases own_cases lo with ⟨hv, hn0, _⟩ | ⟨g, cap, hv, _⟩
    · injection hv with _ e2 _
      omega
    · injection hv with _ e2 _
  exact size_any lo hs (by omega)
theorem keys_le {L hl : List Loan} (hk : keys L = keys hl) (h : ∀ l ∈ L, l.size ≤ 65536) : ∀ l ∈ hl, l.size ≤ 65536 := fun l hl' => by
  obtain ⟨j, hj⟩ := List.mem_iff_getElem?.1 hl'
  obtain ⟨m, hm, he⟩ := keys_at hk.symm hj
  have := h m (List.mem_of_getElem? hm)
  injection he with _ he
  injection he with _ he
  injection he with e3 _
  omega
set_option maxRecDepth 100000 in
set_option maxHeartbeats 4000000 in
theorem acts_close {kd who sz pk at' by' : Int} (i1 : I64 kd) (i3 : I64 sz) (i4 : I64 pk) (i5 : I64 at') (i6 : I64 by') (eh : C.hb = C.w0.heap.size) (ea : C.ab = C.w0.heap.size + 1) (er : C.rb = C.w0.heap.size + 2) (ev : C.av = #[.int .i64 kd, .int .i64 who, .int .i64 sz, .int .i64 pk, .int .i64 at', .int .i64 by']) (hp : Pb C.W C.K0 C.pb P C.w0) (hh : Ht C.O0 C.w0 lv bv hl hl) (ho : ∀ b, C.O0 b → C.K0 b ∧ C.W.heap.size ≤ b) (ha : P.ars[C.i]? = some (some ⟨q, L⟩)) (hk : keys L = keys hl) (hc : Cs n P) (q0 : 0 ≤ q) (q1 : q ≤ 1000) (hop : ∀ j, j < C.i → ∃ b, P.ars[j]? = some (some b)) (hkd : pickI kd 8 = 5) : Calls Try.prog 23 #[.pointer (some ⟨C.pb, 0, none⟩), .agg #[.int .i64 (C.i : Int), lv, bv], .agg C.av, .int .i64 q] C.w0 (Rs C n q P (actF kd sz pk at' by' q P.freeN (nbs hl))) := by
  have hl4 : hl.length ≤ 4096 := by rw [← keys_len hk]; exact hp.ok.loans ha
  have A0 := Ax.begin (i := C.i) (av := C.av) hp hh ho
  have A1 : Hid (Ax C P lv bv hl hl (((C.w0.alloc (.cells #[.int .i64 (C.i : Int), lv, bv] 56)).alloc (.cells C.av 60)).alloc (.cells #[.int .i64 0, .slice none 0 0, .slice none 0 0] 56))) := by
    have e : C = ⟨C.W, C.w0, C.K0, C.O0, C.pb, C.i, C.w0.heap.size, C.w0.heap.size + 1, C.w0.heap.size + 2, C.av⟩ := by
      cases C
      simp only at eh ea er
      subst eh ea er
      rfl
    rw [e]
    exact A0
  clear A0
  rw [ev] at A1
  rw [ev]
  obtain ⟨va, vn, vc, rfl⟩ := own_slice3 hh.lo
  obtain ⟨ua, un, uc, rfl⟩ := own_slice3 hh.bo
  obtain ⟨hvn, hvc1, hvc2⟩ : vn = hl.length ∧ vn ≤ vc ∧ vc ≤ 9223372036854775807 := by
    rcases own_cases hh.lo with ⟨hv, hn0, _⟩ | ⟨g, cap, hv, hc1, hm, _⟩
    · injection hv with _ e2 e3
      exact ⟨by omega, by omega, by omega⟩
    · injection hv with _ e2 e3
      unfold maxLen at hm
      exact ⟨e2, by omega, by omega⟩
  subst hvn
  obtain ⟨hun, huc1, huc2⟩ : un = hl.length ∧ un ≤ uc ∧ uc ≤ 9223372036854775807 := by
    rcases own_cases hh.bo with ⟨hv, hn0, _⟩ | ⟨g, cap, hv, hc1, hm, _⟩
    · injection hv with _ e2 e3
      exact ⟨by omega, by omega, by omega⟩
    · injection hv with _ e2 e3
      unfold maxLen at hm
      exact ⟨e2, by omega, by omega⟩
  subst hun
  have HK8 : Hid (∀ w, Calls Try.prog 11 #[.int .i64 kd, .int .i64 8] w fun e w' => e = .returned (.int .i64 (pickI kd 8)) ∧ w' = w) := fun w => pick_any kd 8 w i1 (by decide) (by decide)
  have HPk : Hid (0 < hl.length → ∀ w, Calls Try.prog 11 #[.int .i64 pk, .int .i64 (hl.length : Int)] w fun e w' => e = .returned (.int .i64 (pickI pk hl.length)) ∧ w' = w) := fun h0 w => pick_any pk hl.length w i4 (by omega) (by omega)
  have HH : Hid (keys L = keys hl ∧ P.ars[C.i]? = some (some ⟨q, L⟩) ∧ Cs n P ∧ (∀ j, j < C.i → ∃ b, P.ars[j]? = some (some b))) := ⟨hk, ha, hc, hop⟩
  have HE : Hid (C.hb = C.w0.heap.size ∧ C.ab = C.w0.heap.size + 1 ∧ C.rb = C.w0.heap.size + 2) := ⟨eh, ea, er⟩
  have HEv : Hid (C.av = #[.int .i64 kd, .int .i64 who, .int .i64 sz, .int .i64 pk, .int .i64 at', .int .i64 by']) := ev
  have HSz : Hid (∀ l ∈ hl, l.size ≤ 65536) := keys_le hk (fun l hl' => (hp.ok.size ha hl').2)
  clear hp hh ho hk ha hc hop eh ea er ev
  have HAF : Hid (nbs [] = actF kd sz pk at' by' q P.freeN (nbs hl)) := by
    show nbs [] = _
    unfold actF
    rw [hkd, if_neg (by decide), if_neg (by decide), if_neg (by decide), if_pos rfl]
    rfl
  have HCl : Hid (∀ w, Ax C P (.slice va hl.length vc) (.slice ua hl.length uc) hl hl w → Calls Try.prog 13 #[.pointer (some ⟨C.pb, 0, none⟩), .int .i64 (C.i : Int)] w fun e w' => ∃ P', (e = .returned (.tuple #[.int .i64 (sizes hl : Nat), .int .i64 0]) ∧ P' = P.closed C.i ⟨q, L⟩) ∧ Ax C P' (.slice va hl.length vc) (.slice ua hl.length uc) hl hl w') := fun w h => h.poolP (fun K hp => (hp.close HH.out.2.1).mono fun e w' ⟨g1, g2, g3⟩ => ⟨⟨_, ⟨by rw [← keys_sizes HH.out.1]; exact g1, rfl⟩, g2⟩, g3⟩)
  have HOp : Hid (∀ w, Ax C (P.closed C.i ⟨q, L⟩) (.slice va hl.length vc) (.slice ua hl.length uc) hl hl w → Calls Try.prog 14 #[.pointer (some ⟨C.pb, 0, none⟩), .int .i64 q] w fun e w' => ∃ P', (e = .returned (.tuple #[.int .i64 (C.i : Int), .int .i64 0]) ∧ P' = (P.closed C.i ⟨q, L⟩).opened q) ∧ Ax C P' (.slice va hl.length vc) (.slice ua hl.length uc) hl hl w') := fun w h => h.poolP (fun K hp => by
    have hx := (next_closed (q := q) HH.out.2.1 HH.out.2.2.2).1
    have hil := (List.getElem?_eq_some_iff.1 HH.out.2.1).1
    have hlen : (P.closed C.i ⟨q, L⟩).next < (P.closed C.i ⟨q, L⟩).ars.length := by
      rw [hx]
      show C.i < (P.ars.set C.i none).length
      rw [List.length_set]
      exact hil
    have := hp.open (q := q) ⟨by omega, by omega⟩ q0 hlen
    rw [hx] at this
    exact this.mono fun e w' ⟨g1, g2, g3⟩ => ⟨⟨_, ⟨g1, rfl⟩, g2⟩, g3⟩)
  have hsz : sizes hl ≤ 65536 * 4096 := by
    have := sizes_le (ls := hl) HSz.out
    have h2 : 65536 * hl.length ≤ 65536 * 4096 := Nat.mul_le_mul_left _ hl4
    omega
  have hss : ((sizes hl : Int) == (sizes hl : Int)) = true := by simp
  go_enter Try.func23, Try.ntmps23
  go_upto_if 31 with fail
  rw [← HE.out.2.2, ← HE.out.2.1, ← HE.out.1]
  have HAc : Hid (∀ w : World, w.heap[C.ab]? = some (.cells C.av 60 (0, 0)) → w.cell? ⟨C.ab, 0, none⟩ = some (.int .i64 kd) ∧ w.cell? ⟨C.ab, 2, none⟩ = some (.int .i64 sz) ∧ w.cell? ⟨C.ab, 3, none⟩ = some (.int .i64 pk) ∧ w.cell? ⟨C.ab, 4, none⟩ = some (.int .i64 at') ∧ w.cell? ⟨C.ab, 5, none⟩ = some (.int .i64 by')) := fun w h => by
    rw [HEv.out] at h
    exact ⟨heap_cell h rfl, heap_cell h rfl, heap_cell h rfl, heap_cell h rfl, heap_cell h rfl⟩
  generalize World.alloc (World.alloc (World.alloc C.w0 _) _) _ = w1 at A1 ⊢
  go_cut [10] (fun s wx => w1 = wx ∧ ∃ k, s = .int .i64 k ∧ Hid (0 < hl.length → k = pickI pk hl.length))
  case first =>
    have kk3 := (HAc.out w1 A1.out.ba).2.2.1
    have kk1 := A1.out.cells.2.1
    by_cases h0 : 0 < hl.length
    · have e0 : (0 : Int) < (hl.length : Int) := by omega
      clear HK8 HH HE HEv
      go_wp2_with fail
      refine (HPk.out h0 _).mono ?_
      rintro e w' ⟨rfl, hw'⟩
      obtain rfl := hw'.symm
      go_wp2_with fail
      go_meet
      exact ⟨rfl, _, rfl, fun _ => rfl⟩
    · have e0 : ¬ (0 : Int) < (hl.length : Int) := by omega
      clear HK8 HH HE HEv
      go_wp2_with fail
      go_meet
      exact ⟨rfl, _, rfl, fun h => absurd h h0⟩
  case rest =>
  obtain ⟨hwx, KV, rfl, HKV⟩ := hcut
  subst hwx
  have kk0 := (HAc.out w1 A1.out.ba).1
  go_wp2_with fail
  refine (HK8.out _).mono ?_
  rintro e w' ⟨rfl, hw'⟩
  obtain rfl := hw'.symm
  clear HK8 kk0 HPk
  clear HKV HAc HE HEv
  have kh0 := A1.out.cells.1
  go_wp2_with fail
  refine (HCl.out w1 A1.out).mono ?_
  rintro e w2 ⟨P1, ⟨rfl, rfl⟩, a2⟩
  have A2 : Hid (Ax C (P.closed C.i ⟨q, L⟩) (.slice va hl.length vc) (.slice ua hl.length uc) hl hl w2) := a2
  clear a2 HCl A1 kh0
  have HR : Hid (w2.rangeAt C.hb 0 [.int .i64 (C.i : Int), .slice va hl.length vc, .slice ua hl.length uc]) := range3 A2.out.cells.1 A2.out.cells.2.1 A2.out.cells.2.2
  go_wp2_with (refine wpList_load_mid rfl 56 _ rfl C.hb 0 rfl [.int .i64 (C.i : Int), .slice va hl.length vc, .slice ua hl.length uc] _ HR.out Try.underlying56 rfl (by kernel_rfl) ?_)
  refine (A2.out.size HSz.out hl4).mono ?_
  rintro e w3 ⟨rfl, u3⟩
  have A3 : Hid (Ax C (P.closed C.i ⟨q, L⟩) (.slice va hl.length vc) (.slice ua hl.length uc) hl hl w3) := A2.out.more u3
  clear u3 A2 HR
  go_wp2_with fail
  refine (HOp.out w3 A3.out).mono ?_
  rintro e w4 ⟨P2, ⟨rfl, rfl⟩, a4⟩
  have A4 : Hid (Ax C ((P.closed C.i ⟨q, L⟩).opened q) (.slice va hl.length vc) (.slice ua hl.length uc) hl hl w4) := a4
  clear a4 HOp A3
  have HB : Hid (w4.heap[C.rb]? = some (.cells #[.int .i64 0, .slice none 0 0, .slice none 0 0] 56 (0, 0))) := A4.out.br
  go_wp2_with (refine wpList_store_rowTo rfl 56 _ _ rfl rfl C.rb #[.int .i64 (C.i : Int), .slice none 0 0, .slice none 0 0] rfl rfl 56 _ HB.out (by kernel_rfl) rfl (by simp [Value.oneCell']) ?_)
  have fr := (Fr.refl C.rb w4).setRow (cs := #[.int .i64 (C.i : Int), .slice none 0 0, .slice none 0 0])
  refine bodyPost_ret (v := .tuple #[.agg _, .bool true]) (results_row_tmp Try.results23 _ _ _ 56 _ (0, 0) _ rfl (setRow_heap _ _ _ _ _ _ HB.out) Try.underlying56 rfl (by kernel_rfl)) rfl ?_
  exact ⟨_, _, [], _, rfl, A4.out.empty fr, ⟨[], (next_closed HH.out.2.1 HH.out.2.2.2).2, rfl⟩, (HH.out.2.2.1.relAll L), HAF.out⟩
end Go.Proofs.Yteijdcidemajfaa
