import Derived.Test.YteijdcidemajfaaAtF
import Derived.Test.YteijdcidemajfaaArY
import Derived.Deep.DeepCutAuto
/- Arena: acts: a take that is refused. -/
namespace Go.Proofs.Yteijdcidemajfaa
open Go.RowKit
set_option linter.unusedVariables false
set_option linter.unusedSimpArgs false
variable {K K' O : Nat → Prop} {w w' W : World} {pb n : Nat} {P P' : Pl} {lv bv : Value} {ll bl hl L : List Loan} {C : Cx} {q : Int}
set_option maxRecDepth 100000 in
set_option maxHeartbeats 4000000 in
theorem acts_quota0 {kd who sz pk at' by' : Int} (i1 : I64 kd) (i3 : I64 sz) (i4 : I64 pk) (i5 : I64 at') (i6 : I64 by') (eh : C.hb = C.w0.heap.size) (ea : C.ab = C.w0.heap.size + 1) (er : C.rb = C.w0.heap.size + 2) (ev : C.av = #[.int .i64 kd, .int .i64 who, .int .i64 sz, .int .i64 pk, .int .i64 at', .int .i64 by']) (hp : Pb C.W C.K0 C.pb P C.w0) (hh : Ht C.O0 C.w0 lv bv hl hl) (ho : ∀ b, C.O0 b → C.K0 b ∧ C.W.heap.size ≤ b) (ha : P.ars[C.i]? = some (some ⟨q, L⟩)) (hk : keys L = keys hl) (hc : Cs n P) (q0 : 0 ≤ q) (q1 : q ≤ 1000) (hop : ∀ j, j < C.i → ∃ b, P.ars[j]? = some (some b)) (hkd : pickI kd 8 = 0) (hqu : q < (sizes hl : Int) + (hasOf (1 + pickI sz 16) : Int)) : Calls Try.prog 23 #[.pointer (some ⟨C.pb, 0, none⟩), .agg #[.int .i64 (C.i : Int), lv, bv], .agg C.av, .int .i64 q] C.w0 (Rs C n q P (actF kd sz pk at' by' q P.freeN (nbs hl))) := by
  have hl4 : hl.length ≤ 4096 := by rw [← keys_len hk]; exact hp.ok.loans ha
  have A0 := Ax.begin (i := C.i) (av := C.av) hp hh ho
  have A1 : Hid (Ax C P lv bv hl hl (((C.w0.alloc (.cells #[.int .i64 (C.i : Int), lv, bv] 56)).alloc (.cells C.av 60)).alloc (.cells #[.int .i64 0, .slice none 0 0, .slice none 0 0] 56))) := by
    have e : C = ⟨C.W, C.w0, C.K0, C.O0, C.pb, C.i, C.w0.heap.size, C.w0.heap.size + 1, C.w0.heap.size + 2, C.av⟩ := by
      cases C
      simp only at eh ea er
      subst eh ea er
      rfl
    rw [e]
    exact A0
  clear A0
  rw [ev] at A1
  rw [ev]
  obtain ⟨va, vn, vc, rfl⟩ := own_slice3 hh.lo
  obtain ⟨ua, un, uc, rfl⟩ := own_slice3 hh.bo
  obtain ⟨hvn, hvc1, hvc2⟩ : vn = hl.length ∧ vn ≤ vc ∧ vc ≤ 9223372036854775807 := by
    rcases own_cases hh.lo with ⟨hv, hn0, _⟩ | ⟨g, cap, hv, hc1, hm, _⟩
    · injection hv with _ e2 e3
      exact ⟨by omega, by omega, by omega⟩
    · injection hv with _ e2 e3
      unfold maxLen at hm
      exact ⟨e2, by omega, by omega⟩
  subst hvn
  obtain ⟨hun, huc1, huc2⟩ : un = hl.length ∧ un ≤ uc ∧ uc ≤ 9223372036854775807 := by
    rcases own_cases hh.bo with ⟨hv, hn0, _⟩ | ⟨g, cap, hv, hc1, hm, _⟩
    · injection hv with _ e2 e3
      exact ⟨by omega, by omega, by omega⟩
    · injection hv with _ e2 e3
      unfold maxLen at hm
      exact ⟨e2, by omega, by omega⟩
  subst hun
  have HK8 : Hid (∀ w, Calls Try.prog 11 #[.int .i64 kd, .int .i64 8] w fun e w' => e = .returned (.int .i64 (pickI kd 8)) ∧ w' = w) := fun w => pick_any kd 8 w i1 (by decide) (by decide)
  have HPk : Hid (0 < hl.length → ∀ w, Calls Try.prog 11 #[.int .i64 pk, .int .i64 (hl.length : Int)] w fun e w' => e = .returned (.int .i64 (pickI pk hl.length)) ∧ w' = w) := fun h0 w => pick_any pk hl.length w i4 (by omega) (by omega)
  have HH : Hid (keys L = keys hl ∧ P.ars[C.i]? = some (some ⟨q, L⟩) ∧ Cs n P ∧ (∀ j, j < C.i → ∃ b, P.ars[j]? = some (some b))) := ⟨hk, ha, hc, hop⟩
  have HE : Hid (C.hb = C.w0.heap.size ∧ C.ab = C.w0.heap.size + 1 ∧ C.rb = C.w0.heap.size + 2) := ⟨eh, ea, er⟩
  have HEv : Hid (C.av = #[.int .i64 kd, .int .i64 who, .int .i64 sz, .int .i64 pk, .int .i64 at', .int .i64 by']) := ev
  have HSz : Hid (∀ l ∈ hl, l.size ≤ 65536) := keys_le hk (fun l hl' => (hp.ok.size ha hl').2)
  clear hp hh ho hk ha hc hop eh ea er ev
  have HAF : Hid (nbs hl = (if q < (nbSize (nbs hl) : Int) + (hasOf (1 + pickI sz 16) : Int) then nbs hl else if P.freeN (clsOf (1 + pickI sz 16)) = 0 then nbs hl else nbs hl ++ [((clsOf (1 + pickI sz 16), hasOf (1 + pickI sz 16), (fun _ => (0 : Int))) : NB)]) ∧ actF kd sz pk at' by' q P.freeN (nbs hl) = (if q < (nbSize (nbs hl) : Int) + (hasOf (1 + pickI sz 16) : Int) then nbs hl else if P.freeN (clsOf (1 + pickI sz 16)) = 0 then nbs hl else nbs hl ++ [((clsOf (1 + pickI sz 16), hasOf (1 + pickI sz 16), (fun _ => (0 : Int))) : NB)])) := by
    refine ⟨?_, by unfold actF; rw [if_pos (by rw [hkd]; decide)]⟩
    rw [nbSize_nbs]
    rw [if_pos hqu]
  have HP16 : Hid (∀ w, Calls Try.prog 11 #[.int .i64 sz, .int .i64 16] w fun e w' => e = .returned (.int .i64 (pickI sz 16)) ∧ w' = w) := fun w => pick_any sz 16 w i3 (by decide) (by decide)
  have s1 := pickI_lo sz 16 (by decide)
  have s2 := pickI_hi sz 16 (by decide)
  obtain ⟨SI, eS⟩ : ∃ SI, 1 + pickI sz 16 = SI := ⟨_, rfl⟩
  have s3 : 1 ≤ SI := by omega
  have s4 : SI ≤ 16 := by omega
  obtain ⟨hcf, X, hX, hXs⟩ := HH.out.2.2.1.class s3 s4
  rw [eS] at HAF hqu
  obtain ⟨c, hcE⟩ : ∃ c, clsOf SI = c := ⟨_, rfl⟩
  obtain ⟨has, hhE⟩ : ∃ h, hasOf SI = h := ⟨_, rfl⟩
  have HC0 : Hid ((4 < SI → c = 1 ∧ has = 16) ∧ (¬ 4 < SI → c = 0 ∧ has = 4)) := by
    refine ⟨fun h => ⟨?_, ?_⟩, fun h => ⟨?_, ?_⟩⟩
    · rw [← hcE]; unfold clsOf; rw [if_pos h]
    · rw [← hhE]; unfold hasOf; rw [if_pos h]
    · rw [← hcE]; unfold clsOf; rw [if_neg h]
    · rw [← hhE]; unfold hasOf; rw [if_neg h]
  have hc2 : c ≤ 1 := by rw [← hcE]; unfold clsOf; split <;> omega
  have hh2 : has ≤ 16 := by rw [← hhE]; unfold hasOf; split <;> omega
  have hh1 : 4 ≤ has := by rw [← hhE]; unfold hasOf; split <;> omega
  rw [hcE] at hcf hX HAF
  rw [hhE] at hXs HAF hqu
  clear hcE hhE
  have HX : Hid (P.classFor SI = c ∧ P.cls[c]? = some X ∧ X.size = has) := ⟨hcf, hX, hXs⟩
  clear hcf hX hXs
  have HFr : Hid (∀ w, Ax C P (.slice va hl.length vc) (.slice ua hl.length uc) hl hl w → Calls Try.prog 25 #[.pointer (some ⟨C.pb, 0, none⟩), .int .i64 (c : Int)] w fun e w' => ∃ v, e = .returned v ∧ w'.ownsRow 0 3 1 v X.free.length (nums X.free) ∧ Up w w') := fun w h => by
    obtain ⟨K, O, h1, _⟩ := h.at'
    obtain ⟨R, A, hp⟩ := h1.at'
    exact free_ok hp h1.ok HX.out.2.1
  have hfl : X.free.length ≤ 512 := by
    obtain ⟨K, O, h1, _⟩ := A1.out.at'
    have h3 := (h1.ok.pm c X HX.out.2.1).length_eq
    have h4 := (h1.ok.my c X HX.out.2.1).1
    rw [List.length_append, List.length_range'] at h3
    omega
  have hsz : sizes hl ≤ 65536 * 4096 := by
    have := sizes_le (ls := hl) HSz.out
    have h2 : 65536 * hl.length ≤ 65536 * 4096 := Nat.mul_le_mul_left _ hl4
    omega
  have HSL : Hid (sizes L = sizes hl) := keys_sizes HH.out.1
  have HTk : Hid (∀ w, Ax C P (.slice va hl.length vc) (.slice ua hl.length uc) hl hl w → Calls Try.prog 15 #[.pointer (some ⟨C.pb, 0, none⟩), .int .i64 (C.i : Int), .int .i64 SI, .int .i64 pk] w fun e w' => e = .returned (.tuple #[.agg #[.int .i64 0, .int .i64 0, .int .i64 0], .int .i64 92]) ∧ Up w w') := fun w h => by
    obtain ⟨K, O, h1, _⟩ := h.at'
    exact h1.takeQuota ⟨by omega, by omega⟩ i4 HH.out.2.1 (show I64 q from ⟨by omega, by omega⟩) s3 HX.out.1 HX.out.2.1 (by rw [HX.out.2.2, HSL.out]; exact hqu)
  go_enter Try.func23, Try.ntmps23
  go_upto_if 31 with fail
  rw [← HE.out.2.2, ← HE.out.2.1, ← HE.out.1]
  have HAc : Hid (∀ w : World, w.heap[C.ab]? = some (.cells C.av 60 (0, 0)) → w.cell? ⟨C.ab, 0, none⟩ = some (.int .i64 kd) ∧ w.cell? ⟨C.ab, 2, none⟩ = some (.int .i64 sz) ∧ w.cell? ⟨C.ab, 3, none⟩ = some (.int .i64 pk) ∧ w.cell? ⟨C.ab, 4, none⟩ = some (.int .i64 at') ∧ w.cell? ⟨C.ab, 5, none⟩ = some (.int .i64 by')) := fun w h => by
    rw [HEv.out] at h
    exact ⟨heap_cell h rfl, heap_cell h rfl, heap_cell h rfl, heap_cell h rfl, heap_cell h rfl⟩
  generalize World.alloc (World.alloc (World.alloc C.w0 _) _) _ = w1 at A1 ⊢
  go_cut [10] (fun s wx => w1 = wx ∧ ∃ k, s = .int .i64 k ∧ Hid (0 < hl.length → k = pickI pk hl.length))
  case first =>
    have kk3 := (HAc.out w1 A1.out.ba).2.2.1
    have kk1 := A1.out.cells.2.1
    by_cases h0 : 0 < hl.length
    · have e0 : (0 : Int) < (hl.length : Int) := by omega
      clear HK8 HH HE HEv
      go_wp2_with fail
      refine (HPk.out h0 _).mono ?_
      rintro e w' ⟨rfl, hw'⟩
      obtain rfl := hw'.symm
      go_wp2_with fail
      go_meet
      exact ⟨rfl, _, rfl, fun _ => rfl⟩
    · have e0 : ¬ (0 : Int) < (hl.length : Int) := by omega
      clear HK8 HH HE HEv
      go_wp2_with fail
      go_meet
      exact ⟨rfl, _, rfl, fun h => absurd h h0⟩
  case rest =>
  obtain ⟨hwx, KV, rfl, HKV⟩ := hcut
  subst hwx
  have kk0 := (HAc.out w1 A1.out.ba).1
  go_wp2_with fail
  refine (HK8.out _).mono ?_
  rintro e w' ⟨rfl, hw'⟩
  obtain rfl := hw'.symm
  clear HK8 kk0 HPk
  have ks := (HAc.out w1 A1.out.ba).2.1
  go_wp2_with fail
  refine (HP16.out _).mono ?_
  rintro e w' ⟨rfl, hw'⟩
  obtain rfl := hw'.symm
  clear HP16 ks HKV HE HEv
  go_upto_if 49 with fail
  go_cut [12, 13] (fun x y wx => w1 = wx ∧ x = .int .i64 (c : Int) ∧ y = .int .i64 (has : Int))
  case first =>
    clear HFr HH HX A1 HAc HSz HAF HTk HSL
    by_cases h4 : 4 < SI
    · obtain ⟨e1, e2⟩ := HC0.out.1 (by omega)
      clear HC0
      go_wp2_with fail
      go_meet
      exact ⟨rfl, by rw [e1]; rfl, by rw [e2]; rfl⟩
    · obtain ⟨e1, e2⟩ := HC0.out.2 (by omega)
      clear HC0
      go_wp2_with fail
      go_meet
      exact ⟨rfl, by rw [e1]; rfl, by rw [e2]; rfl⟩
  case rest =>
  obtain ⟨hwx, rfl, rfl⟩ := hcut
  subst hwx
  clear HC0
  go_wp2_with fail
  refine (HFr.out w1 A1.out).mono ?_
  rintro e w2 ⟨fv, rfl, o2, u2⟩
  obtain ⟨fa, fn, fc, rfl⟩ := own_slice3 o2
  obtain ⟨hfn, hfc1, hfc2⟩ : fn = X.free.length ∧ fn ≤ fc ∧ fc ≤ 9223372036854775807 := by
    rcases own_cases o2 with ⟨hv, hn0, _⟩ | ⟨g, cap, hv, hc1, hm, _⟩
    · injection hv with _ e2 e3
      exact ⟨by omega, by omega, by omega⟩
    · injection hv with _ e2 e3
      unfold maxLen at hm
      exact ⟨e2, by omega, by omega⟩
  subst hfn
  have A2 : Hid (Ax C P (.slice va hl.length vc) (.slice ua hl.length uc) hl hl w2 ∧ w2.ownsRow 0 3 1 (.slice fa X.free.length fc) X.free.length (nums X.free)) := ⟨A1.out.more u2, o2⟩
  clear o2 u2 A1 HFr
  have kh0 := A2.out.1.cells.1
  have kp := (HAc.out w2 A2.out.1.ba).2.2.1
  go_wp2_with fail
  refine (HTk.out w2 A2.out.1).mono ?_
  rintro e w3 ⟨rfl, u3⟩
  have A3 : Hid (Ax C P (.slice va hl.length vc) (.slice ua hl.length uc) hl hl w3) := A2.out.1.more u3
  clear u3 A2 kh0 kp HTk
  have HRx : Hid (∀ o : Obj, (w3.alloc o).rangeAt C.hb 0 [.int .i64 (C.i : Int), .slice va hl.length vc, .slice ua hl.length uc]) := fun o => by
    have := A3.out.more ((Up.refl w3).alloc o)
    exact range3 this.cells.1 this.cells.2.1 this.cells.2.2
  have HSx : Hid (∀ o : Obj, _) := fun o => (A3.out.more ((Up.refl w3).alloc o)).size HSz.out hl4
  have HAx : Hid (∀ o w', Up (w3.alloc o) w' → Ax C P (.slice va hl.length vc) (.slice ua hl.length uc) hl hl w') := fun o w' u => A3.out.more (((Up.refl w3).alloc o).trans u)
  clear A3
  go_wp2_with (refine wpList_load_mid rfl 56 _ rfl C.hb 0 rfl [.int .i64 (C.i : Int), .slice va hl.length vc, .slice ua hl.length uc] _ (HRx.out _) Try.underlying56 rfl (by kernel_rfl) ?_)
  refine (HSx.out _).mono ?_
  rintro e w4 ⟨rfl, u4⟩
  have A4 : Hid (Ax C P (.slice va hl.length vc) (.slice ua hl.length uc) hl hl w4) := HAx.out _ _ u4
  clear u4 HRx HSx HAx
  have HR : Hid (w4.rangeAt C.hb 0 [.int .i64 (C.i : Int), .slice va hl.length vc, .slice ua hl.length uc]) := range3 A4.out.cells.1 A4.out.cells.2.1 A4.out.cells.2.2
  have HB : Hid (w4.heap[C.rb]? = some (.cells #[.int .i64 0, .slice none 0 0, .slice none 0 0] 56 (0, 0))) := A4.out.br
  go_wp2_with (first
    | (refine wpList_load_mid rfl 56 _ rfl C.hb 0 rfl [.int .i64 (C.i : Int), .slice va hl.length vc, .slice ua hl.length uc] _ HR.out Try.underlying56 rfl (by kernel_rfl) ?_)
    | (refine wpList_store_rowTo rfl 56 _ _ rfl rfl C.rb #[.int .i64 (C.i : Int), .slice va hl.length vc, .slice ua hl.length uc] rfl rfl 56 _ HB.out (by kernel_rfl) rfl (by simp [Value.oneCell']) ?_))
  have fr := (Fr.refl C.rb w4).setRow (cs := #[.int .i64 (C.i : Int), .slice va hl.length vc, .slice ua hl.length uc])
  refine bodyPost_ret (v := .tuple #[.agg _, .bool true]) (results_row_tmp Try.results23 _ _ _ 56 _ (0, 0) _ rfl (setRow_heap _ _ _ _ _ _ HB.out) Try.underlying56 rfl (by kernel_rfl)) rfl ?_
  exact ⟨_, _, hl, P, rfl, A4.out.done fr, ⟨L, (set_same HH.out.2.1).symm, HH.out.1⟩, HH.out.2.2.1, HAF.out.1.trans HAF.out.2.symm⟩
end Go.Proofs.Yteijdcidemajfaa
/- Arena: acts: a take that is refused. -/
namespace Go.Proofs.Yteijdcidemajfaa
open Go.RowKit
set_option linter.unusedVariables false
set_option linter.unusedSimpArgs false
variable {K K' O : Nat → Prop} {w w' W : World} {pb n : Nat} {P P' : Pl} {lv bv : Value} {ll bl hl L : List Loan} {C : Cx} {q : Int}
set_option maxRecDepth 100000 in
set_option maxHeartbeats 4000000 in
theorem acts_quota1 {kd who sz pk at' by' : Int} (i1 : I64 kd) (i3 : I64 sz) (i4 : I64 pk) (i5 : I64 at') (i6 : I64 by') (eh : C.hb = C.w0.heap.size) (ea : C.ab = C.w0.heap.size + 1) (er : C.rb = C.w0.heap.size + 2) (ev : C.av = #[.int .i64 kd, .int .i64 who, .int .i64 sz, .int .i64 pk, .int .i64 at', .int .i64 by']) (hp : Pb C.W C.K0 C.pb P C.w0) (hh : Ht C.O0 C.w0 lv bv hl hl) (ho : ∀ b, C.O0 b → C.K0 b ∧ C.W.heap.size ≤ b) (ha : P.ars[C.i]? = some (some ⟨q, L⟩)) (hk : keys L = keys hl) (hc : Cs n P) (q0 : 0 ≤ q) (q1 : q ≤ 1000) (hop : ∀ j, j < C.i → ∃ b, P.ars[j]? = some (some b)) (hkd : pickI kd 8 = 1) (hqu : q < (sizes hl : Int) + (hasOf (1 + pickI sz 16) : Int)) : Calls Try.prog 23 #[.pointer (some ⟨C.pb, 0, none⟩), .agg #[.int .i64 (C.i : Int), lv, bv], .agg C.av, .int .i64 q] C.w0 (Rs C n q P (actF kd sz pk at' by' q P.freeN (nbs hl))) := by
  have hl4 : hl.length ≤ 4096 := by rw [← keys_len hk]; exact hp.ok.loans ha
  have A0 := Ax.begin (i := C.i) (av := C.av) hp hh ho
  have A1 : Hid (Ax C P lv bv hl hl (((C.w0.alloc (.cells #[.int .i64 (C.i : Int), lv, bv] 56)).alloc (.cells C.av 60)).alloc (.cells #[.int .i64 0, .slice none 0 0, .slice none 0 0] 56))) := by
    have e : C = ⟨C.W, C.w0, C.K0, C.O0, C.pb, C.i, C.w0.heap.size, C.w0.heap.size + 1, C.w0.heap.size + 2, C.av⟩ := by
      cases C
      simp only at eh ea er
      subst eh ea er
      rfl
    rw [e]
    exact A0
  clear A0
  rw [ev] at A1
  rw [ev]
  obtain ⟨va, vn, vc, rfl⟩ := own_slice3 hh.lo
  obtain ⟨ua, un, uc, rfl⟩ := own_slice3 hh.bo
  obtain ⟨hvn, hvc1, hvc2⟩ : vn = hl.length ∧ vn ≤ vc ∧ vc ≤ 9223372036854775807 := by
    rcases own_cases hh.lo with ⟨hv, hn0, _⟩ | ⟨g, cap, hv, hc1, hm, _⟩
    · injection hv with _ e2 e3
      exact ⟨by omega, by omega, by omega⟩
    · injection hv with _ e2 e3
      unfold maxLen at hm
      exact ⟨e2, by omega, by omega⟩
  subst hvn
  obtain ⟨hun, huc1, huc2⟩ : un = hl.length ∧ un ≤ uc ∧ uc ≤ 9223372036854775807 := by
    rcases own_cases hh.bo with ⟨hv, hn0, _⟩ | ⟨g, cap, hv, hc1, hm, _⟩
    · injection hv with _ e2 e3
      exact ⟨by omega, by omega, by omega⟩
    · injection hv with _ e2 e3
      unfold maxLen at hm
      exact ⟨e2, by omega, by omega⟩
  subst hun
  have HK8 : Hid (∀ w, Calls Try.prog 11 #[.int .i64 kd, .int .i64 8] w fun e w' => e = .returned (.int .i64 (pickI kd 8)) ∧ w' = w) := fun w => pick_any kd 8 w i1 (by decide) (by decide)
  have HPk : Hid (0 < hl.length → ∀ w, Calls Try.prog 11 #[.int .i64 pk, .int .i64 (hl.length : Int)] w fun e w' => e = .returned (.int .i64 (pickI pk hl.length)) ∧ w' = w) := fun h0 w => pick_any pk hl.length w i4 (by omega) (by omega)
  have HH : Hid (keys L = keys hl ∧ P.ars[C.i]? = some (some ⟨q, L⟩) ∧ Cs n P ∧ (∀ j, j < C.i → ∃ b, P.ars[j]? = some (some b))) := ⟨hk, ha, hc, hop⟩
  have HE : Hid (C.hb = C.w0.heap.size ∧ C.ab = C.w0.heap.size + 1 ∧ C.rb = C.w0.heap.size + 2) := ⟨eh, ea, er⟩
  have HEv : Hid (C.av = #[.int .i64 kd, .int .i64 who, .int .i64 sz, .int .i64 pk, .int .i64 at', .int .i64 by']) := ev
  have HSz : Hid (∀ l ∈ hl, l.size ≤ 65536) := keys_le hk (fun l hl' => (hp.ok.size ha hl').2)
  clear hp hh ho hk ha hc hop eh ea er ev
  have HAF : Hid (nbs hl = (if q < (nbSize (nbs hl) : Int) + (hasOf (1 + pickI sz 16) : Int) then nbs hl else if P.freeN (clsOf (1 + pickI sz 16)) = 0 then nbs hl else nbs hl ++ [((clsOf (1 + pickI sz 16), hasOf (1 + pickI sz 16), (fun _ => (0 : Int))) : NB)]) ∧ actF kd sz pk at' by' q P.freeN (nbs hl) = (if q < (nbSize (nbs hl) : Int) + (hasOf (1 + pickI sz 16) : Int) then nbs hl else if P.freeN (clsOf (1 + pickI sz 16)) = 0 then nbs hl else nbs hl ++ [((clsOf (1 + pickI sz 16), hasOf (1 + pickI sz 16), (fun _ => (0 : Int))) : NB)])) := by
    refine ⟨?_, by unfold actF; rw [if_pos (by rw [hkd]; decide)]⟩
    rw [nbSize_nbs]
    rw [if_pos hqu]
  have HP16 : Hid (∀ w, Calls Try.prog 11 #[.int .i64 sz, .int .i64 16] w fun e w' => e = .returned (.int .i64 (pickI sz 16)) ∧ w' = w) := fun w => pick_any sz 16 w i3 (by decide) (by decide)
  have s1 := pickI_lo sz 16 (by decide)
  have s2 := pickI_hi sz 16 (by decide)
  obtain ⟨SI, eS⟩ : ∃ SI, 1 + pickI sz 16 = SI := ⟨_, rfl⟩
  have s3 : 1 ≤ SI := by omega
  have s4 : SI ≤ 16 := by omega
  obtain ⟨hcf, X, hX, hXs⟩ := HH.out.2.2.1.class s3 s4
  rw [eS] at HAF hqu
  obtain ⟨c, hcE⟩ : ∃ c, clsOf SI = c := ⟨_, rfl⟩
  obtain ⟨has, hhE⟩ : ∃ h, hasOf SI = h := ⟨_, rfl⟩
  have HC0 : Hid ((4 < SI → c = 1 ∧ has = 16) ∧ (¬ 4 < SI → c = 0 ∧ has = 4)) := by
    refine ⟨fun h => ⟨?_, ?_⟩, fun h => ⟨?_, ?_⟩⟩
    · rw [← hcE]; unfold clsOf; rw [if_pos h]
    · rw [← hhE]; unfold hasOf; rw [if_pos h]
    · rw [← hcE]; unfold clsOf; rw [if_neg h]
    · rw [← hhE]; unfold hasOf; rw [if_neg h]
  have hc2 : c ≤ 1 := by rw [← hcE]; unfold clsOf; split <;> omega
  have hh2 : has ≤ 16 := by rw [← hhE]; unfold hasOf; split <;> omega
  have hh1 : 4 ≤ has := by rw [← hhE]; unfold hasOf; split <;> omega
  rw [hcE] at hcf hX HAF
  rw [hhE] at hXs HAF hqu
  clear hcE hhE
  have HX : Hid (P.classFor SI = c ∧ P.cls[c]? = some X ∧ X.size = has) := ⟨hcf, hX, hXs⟩
  clear hcf hX hXs
  have HFr : Hid (∀ w, Ax C P (.slice va hl.length vc) (.slice ua hl.length uc) hl hl w → Calls Try.prog 25 #[.pointer (some ⟨C.pb, 0, none⟩), .int .i64 (c : Int)] w fun e w' => ∃ v, e = .returned v ∧ w'.ownsRow 0 3 1 v X.free.length (nums X.free) ∧ Up w w') := fun w h => by
    obtain ⟨K, O, h1, _⟩ := h.at'
    obtain ⟨R, A, hp⟩ := h1.at'
    exact free_ok hp h1.ok HX.out.2.1
  have hfl : X.free.length ≤ 512 := by
    obtain ⟨K, O, h1, _⟩ := A1.out.at'
    have h3 := (h1.ok.pm c X HX.out.2.1).length_eq
    have h4 := (h1.ok.my c X HX.out.2.1).1
    rw [List.length_append, List.length_range'] at h3
    omega
  have hsz : sizes hl ≤ 65536 * 4096 := by
    have := sizes_le (ls := hl) HSz.out
    have h2 : 65536 * hl.length ≤ 65536 * 4096 := Nat.mul_le_mul_left _ hl4
    omega
  have HSL : Hid (sizes L = sizes hl) := keys_sizes HH.out.1
  have HTk : Hid (∀ w, Ax C P (.slice va hl.length vc) (.slice ua hl.length uc) hl hl w → Calls Try.prog 15 #[.pointer (some ⟨C.pb, 0, none⟩), .int .i64 (C.i : Int), .int .i64 SI, .int .i64 pk] w fun e w' => e = .returned (.tuple #[.agg #[.int .i64 0, .int .i64 0, .int .i64 0], .int .i64 92]) ∧ Up w w') := fun w h => by
    obtain ⟨K, O, h1, _⟩ := h.at'
    exact h1.takeQuota ⟨by omega, by omega⟩ i4 HH.out.2.1 (show I64 q from ⟨by omega, by omega⟩) s3 HX.out.1 HX.out.2.1 (by rw [HX.out.2.2, HSL.out]; exact hqu)
  go_enter Try.func23, Try.ntmps23
  go_upto_if 31 with fail
  rw [← HE.out.2.2, ← HE.out.2.1, ← HE.out.1]
  have HAc : Hid (∀ w : World, w.heap[C.ab]? = some (.cells C.av 60 (0, 0)) → w.cell? ⟨C.ab, 0, none⟩ = some (.int .i64 kd) ∧ w.cell? ⟨C.ab, 2, none⟩ = some (.int .i64 sz) ∧ w.cell? ⟨C.ab, 3, none⟩ = some (.int .i64 pk) ∧ w.cell? ⟨C.ab, 4, none⟩ = some (.int .i64 at') ∧ w.cell? ⟨C.ab, 5, none⟩ = some (.int .i64 by')) := fun w h => by
    rw [HEv.out] at h
    exact ⟨heap_cell h rfl, heap_cell h rfl, heap_cell h rfl, heap_cell h rfl, heap_cell h rfl⟩
  generalize World.alloc (World.alloc (World.alloc C.w0 _) _) _ = w1 at A1 ⊢
  go_cut [10] (fun s wx => w1 = wx ∧ ∃ k, s = .int .i64 k ∧ Hid (0 < hl.length → k = pickI pk hl.length))
  case first =>
    have kk3 := (HAc.out w1 A1.out.ba).2.2.1
    have kk1 := A1.out.cells.2.1
    by_cases h0 : 0 < hl.length
    · have e0 : (0 : Int) < (hl.length : Int) := by omega
      clear HK8 HH HE HEv
      go_wp2_with fail
      refine (HPk.out h0 _).mono ?_
      rintro e w' ⟨rfl, hw'⟩
      obtain rfl := hw'.symm
      go_wp2_with fail
      go_meet
      exact ⟨rfl, _, rfl, fun _ => rfl⟩
    · have e0 : ¬ (0 : Int) < (hl.length : Int) := by omega
      clear HK8 HH HE HEv
      go_wp2_with fail
      go_meet
      exact ⟨rfl, _, rfl, fun h => absurd h h0⟩
  case rest =>
  obtain ⟨hwx, KV, rfl, HKV⟩ := hcut
  subst hwx
  have kk0 := (HAc.out w1 A1.out.ba).1
  go_wp2_with fail
  refine (HK8.out _).mono ?_
  rintro e w' ⟨rfl, hw'⟩
  obtain rfl := hw'.symm
  clear HK8 kk0 HPk
  have ks := (HAc.out w1 A1.out.ba).2.1
  go_wp2_with fail
  refine (HP16.out _).mono ?_
  rintro e w' ⟨rfl, hw'⟩
  obtain rfl := hw'.symm
  clear HP16 ks HKV HE HEv
  go_upto_if 49 with fail
  go_cut [12, 13] (fun x y wx => w1 = wx ∧ x = .int .i64 (c : Int) ∧ y = .int .i64 (has : Int))
  case first =>
    clear HFr HH HX A1 HAc HSz HAF HTk HSL
    by_cases h4 : 4 < SI
    · obtain ⟨e1, e2⟩ := HC0.out.1 (by omega)
      clear HC0
      go_wp2_with fail
      go_meet
      exact ⟨rfl, by rw [e1]; rfl, by rw [e2]; rfl⟩
    · obtain ⟨e1, e2⟩ := HC0.out.2 (by omega)
      clear HC0
      go_wp2_with fail
      go_meet
      exact ⟨rfl, by rw [e1]; rfl, by rw [e2]; rfl⟩
  case rest =>
  obtain ⟨hwx, rfl, rfl⟩ := hcut
  subst hwx
  clear HC0
  go_wp2_with fail
  refine (HFr.out w1 A1.out).mono ?_
  rintro e w2 ⟨fv, rfl, o2, u2⟩
  obtain ⟨fa, fn, fc, rfl⟩ := own_slice3 o2
  obtain ⟨hfn, hfc1, hfc2⟩ : fn = X.free.length ∧ fn ≤ fc ∧ fc ≤ 9223372036854775807 := by
    rcases own_cases o2 with ⟨hv, hn0, _⟩ | ⟨g, cap, hv, hc1, hm, _⟩
    · injection hv with _ e2 e3
      exact ⟨by omega, by omega, by omega⟩
    · injection hv with _ e2 e3
      unfold maxLen at hm
      exact ⟨e2, by omega, by omega⟩
  subst hfn
  have A2 : Hid (Ax C P (.slice va hl.length vc) (.slice ua hl.length uc) hl hl w2 ∧ w2.ownsRow 0 3 1 (.slice fa X.free.length fc) X.free.length (nums X.free)) := ⟨A1.out.more u2, o2⟩
  clear o2 u2 A1 HFr
  have kh0 := A2.out.1.cells.1
  have kp := (HAc.out w2 A2.out.1.ba).2.2.1
  go_wp2_with fail
  refine (HTk.out w2 A2.out.1).mono ?_
  rintro e w3 ⟨rfl, u3⟩
  have A3 : Hid (Ax C P (.slice va hl.length vc) (.slice ua hl.length uc) hl hl w3) := A2.out.1.more u3
  clear u3 A2 kh0 kp HTk
  have HRx : Hid (∀ o : Obj, (w3.alloc o).rangeAt C.hb 0 [.int .i64 (C.i : Int), .slice va hl.length vc, .slice ua hl.length uc]) := fun o => by
    have := A3.out.more ((Up.refl w3).alloc o)
    exact range3 this.cells.1 this.cells.2.1 this.cells.2.2
  have HSx : Hid (∀ o : Obj, _) := fun o => (A3.out.more ((Up.refl w3).alloc o)).size HSz.out hl4
  have HAx : Hid (∀ o w', Up (w3.alloc o) w' → Ax C P (.slice va hl.length vc) (.slice ua hl.length uc) hl hl w') := fun o w' u => A3.out.more (((Up.refl w3).alloc o).trans u)
  clear A3
  go_wp2_with (refine wpList_load_mid rfl 56 _ rfl C.hb 0 rfl [.int .i64 (C.i : Int), .slice va hl.length vc, .slice ua hl.length uc] _ (HRx.out _) Try.underlying56 rfl (by kernel_rfl) ?_)
  refine (HSx.out _).mono ?_
  rintro e w4 ⟨rfl, u4⟩
  have A4 : Hid (Ax C P (.slice va hl.length vc) (.slice ua hl.length uc) hl hl w4) := HAx.out _ _ u4
  clear u4 HRx HSx HAx
  have HR : Hid (w4.rangeAt C.hb 0 [.int .i64 (C.i : Int), .slice va hl.length vc, .slice ua hl.length uc]) := range3 A4.out.cells.1 A4.out.cells.2.1 A4.out.cells.2.2
  have HB : Hid (w4.heap[C.rb]? = some (.cells #[.int .i64 0, .slice none 0 0, .slice none 0 0] 56 (0, 0))) := A4.out.br
  go_wp2_with (first
    | (refine wpList_load_mid rfl 56 _ rfl C.hb 0 rfl [.int .i64 (C.i : Int), .slice va hl.length vc, .slice ua hl.length uc] _ HR.out Try.underlying56 rfl (by kernel_rfl) ?_)
    | (refine wpList_store_rowTo rfl 56 _ _ rfl rfl C.rb #[.int .i64 (C.i : Int), .slice va hl.length vc, .slice ua hl.length uc] rfl rfl 56 _ HB.out (by kernel_rfl) rfl (by simp [Value.oneCell']) ?_))
  have fr := (Fr.refl C.rb w4).setRow (cs := #[.int .i64 (C.i : Int), .slice va hl.length vc, .slice ua hl.length uc])
  refine bodyPost_ret (v := .tuple #[.agg _, .bool true]) (results_row_tmp Try.results23 _ _ _ 56 _ (0, 0) _ rfl (setRow_heap _ _ _ _ _ _ HB.out) Try.underlying56 rfl (by kernel_rfl)) rfl ?_
  exact ⟨_, _, hl, P, rfl, A4.out.done fr, ⟨L, (set_same HH.out.2.1).symm, HH.out.1⟩, HH.out.2.2.1, HAF.out.1.trans HAF.out.2.symm⟩
end Go.Proofs.Yteijdcidemajfaa
