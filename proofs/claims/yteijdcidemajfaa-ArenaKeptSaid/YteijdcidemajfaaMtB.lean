import Derived.Test.YteijdcidemajfaaAtK
import Derived.Deep.DeepCutAuto
import Derived.Test.YteijdcidemajfaaAtF
/- Arena: acts: a byte is stored. -/
namespace Go.Proofs.Yteijdcidemajfaa
open Go.RowKit
set_option linter.unusedVariables false
set_option linter.unusedSimpArgs false
variable {K K' O : Nat → Prop} {w w' W : World} {pb n : Nat} {P P' : Pl} {lv bv : Value} {ll bl hl L : List Loan} {C : Cx} {q : Int}
theorem leases_stored2 {hl : List Loan} {k : Nat} {l : Loan} (hk : hl[k]? = some l) (a : Nat) (v : Int) : leaseCells (hl.set k (l.stored a 1 (fun _ => v))) = leaseCells hl := by
  induction hl generalizing k with
  | nil => simp at hk
  | cons x r ih =>
    cases k with
    | zero =>
      simp at hk
      subst hk
      rfl
    | succ k =>
      show x.lease ++ leaseCells (r.set k _) = x.lease ++ leaseCells r
      rw [ih (by simpa using hk)]
set_option maxRecDepth 100000 in
set_option maxHeartbeats 4000000 in
theorem acts_store2 {kd who sz pk at' by' : Int} (i1 : I64 kd) (i3 : I64 sz) (i4 : I64 pk) (i5 : I64 at') (i6 : I64 by') (eh : C.hb = C.w0.heap.size) (ea : C.ab = C.w0.heap.size + 1) (er : C.rb = C.w0.heap.size + 2) (ev : C.av = #[.int .i64 kd, .int .i64 who, .int .i64 sz, .int .i64 pk, .int .i64 at', .int .i64 by']) (hp : Pb C.W C.K0 C.pb P C.w0) (hh : Ht C.O0 C.w0 lv bv hl hl) (ho : ∀ b, C.O0 b → C.K0 b ∧ C.W.heap.size ≤ b) (ha : P.ars[C.i]? = some (some ⟨q, L⟩)) (hk : keys L = keys hl) (hc : Cs n P) (q0 : 0 ≤ q) (q1 : q ≤ 1000) (hop : ∀ j, j < C.i → ∃ b, P.ars[j]? = some (some b)) (hkd : pickI kd 8 = 2) (h0 : 0 < hl.length) : Calls Try.prog 23 #[.pointer (some ⟨C.pb, 0, none⟩), .agg #[.int .i64 (C.i : Int), lv, bv], .agg C.av, .int .i64 q] C.w0 (Rs C n q P (actF kd sz pk at' by' q P.freeN (nbs hl))) := by
  have hl4 : hl.length ≤ 4096 := by rw [← keys_len hk]; exact hp.ok.loans ha
  have A0 := Ax.begin (i := C.i) (av := C.av) hp hh ho
  have A1 : Hid (Ax C P lv bv hl hl (((C.w0.alloc (.cells #[.int .i64 (C.i : Int), lv, bv] 56)).alloc (.cells C.av 60)).alloc (.cells #[.int .i64 0, .slice none 0 0, .slice none 0 0] 56))) := by
    have e : C = ⟨C.W, C.w0, C.K0, C.O0, C.pb, C.i, C.w0.heap.size, C.w0.heap.size + 1, C.w0.heap.size + 2, C.av⟩ := by
      cases C
      simp only at eh ea er
      subst eh ea er
      rfl
    rw [e]
    exact A0
  clear A0
  rw [ev] at A1
  rw [ev]
  obtain ⟨va, vn, vc, rfl⟩ := own_slice3 hh.lo
  obtain ⟨ua, un, uc, rfl⟩ := own_slice3 hh.bo
  obtain ⟨hvn, hvc1, hvc2⟩ : vn = hl.length ∧ vn ≤ vc ∧ vc ≤ 9223372036854775807 := by
    rcases own_cases hh.lo with ⟨hv, hn0, _⟩ | ⟨g, cap, hv, hc1, hm, _⟩
    · injection hv with _ e2 e3
      exact ⟨by omega, by omega, by omega⟩
    · injection hv with _ e2 e3
      unfold maxLen at hm
      exact ⟨e2, by omega, by omega⟩
  subst hvn
  obtain ⟨hun, huc1, huc2⟩ : un = hl.length ∧ un ≤ uc ∧ uc ≤ 9223372036854775807 := by
    rcases own_cases hh.bo with ⟨hv, hn0, _⟩ | ⟨g, cap, hv, hc1, hm, _⟩
    · injection hv with _ e2 e3
      exact ⟨by omega, by omega, by omega⟩
    · injection hv with _ e2 e3
      unfold maxLen at hm
      exact ⟨e2, by omega, by omega⟩
  subst hun
  have HK8 : Hid (∀ w, Calls Try.prog 11 #[.int .i64 kd, .int .i64 8] w fun e w' => e = .returned (.int .i64 (pickI kd 8)) ∧ w' = w) := fun w => pick_any kd 8 w i1 (by decide) (by decide)
  have HPk : Hid (0 < hl.length → ∀ w, Calls Try.prog 11 #[.int .i64 pk, .int .i64 (hl.length : Int)] w fun e w' => e = .returned (.int .i64 (pickI pk hl.length)) ∧ w' = w) := fun h0 w => pick_any pk hl.length w i4 (by omega) (by omega)
  have HH : Hid (keys L = keys hl ∧ P.ars[C.i]? = some (some ⟨q, L⟩) ∧ Cs n P ∧ (∀ j, j < C.i → ∃ b, P.ars[j]? = some (some b))) := ⟨hk, ha, hc, hop⟩
  have HE : Hid (C.hb = C.w0.heap.size ∧ C.ab = C.w0.heap.size + 1 ∧ C.rb = C.w0.heap.size + 2) := ⟨eh, ea, er⟩
  have HEv : Hid (C.av = #[.int .i64 kd, .int .i64 who, .int .i64 sz, .int .i64 pk, .int .i64 at', .int .i64 by']) := ev
  have HSz : Hid (∀ l ∈ hl, l.size ≤ 65536) := keys_le hk (fun l hl' => (hp.ok.size ha hl').2)
  clear hp hh ho hk ha hc hop eh ea er ev
  have kp1 := pickI_lo pk hl.length (by omega)
  have kp2 := pickI_hi pk hl.length (by omega)
  obtain ⟨k, hkE⟩ := Int.eq_ofNat_of_zero_le kp1
  have hkl : k < hl.length := by omega
  obtain ⟨l, hkL⟩ : ∃ l, hl[k]? = some l := ⟨_, List.getElem?_eq_getElem hkl⟩
  obtain ⟨lm, hlm, hlk⟩ := keys_at HH.out.1.symm hkL
  have hls : 1 ≤ l.size ∧ l.size ≤ 65536 := by
    obtain ⟨K, O, h1, _⟩ := A1.out.at'
    have := h1.ok.size HH.out.2.1 (List.mem_of_getElem? hlm)
    injection hlk with _ hlk
    injection hlk with _ hlk
    injection hlk with e3 _
    omega
  have hlb : l.buf ≤ 100000 := by
    obtain ⟨K, O, h1, _⟩ := A1.out.at'
    obtain ⟨x, hx, _⟩ := h1.ok.ln C.i _ lm HH.out.2.1 (List.mem_of_getElem? hlm)
    have := buf_range h1.ok HH.out.2.1 hlm hx
    have hm := h1.ok.my _ x hx
    injection hlk with e1 _
    omega
  have HK : Hid (hl[k]? = some l ∧ L[k]? = some lm ∧ lm.key = l.key ∧ pickI pk hl.length = (k : Int)) := ⟨hkL, hlm, hlk, hkE⟩
  have e0 : ¬ (hl.length : Int) = 0 := by omega
  have ek : (k : Int) < (hl.length : Int) := by omega
  clear kp1 kp2 hkL hlm hlk hkE
  have ap1 := pickI_lo at' l.size (by omega)
  have ap2 := pickI_hi at' l.size (by omega)
  obtain ⟨a, haE⟩ := Int.eq_ofNat_of_zero_le ap1
  have hal : a < l.size := by omega
  have HPa : Hid (∀ w, Calls Try.prog 11 #[.int .i64 at', .int .i64 (l.size : Int)] w fun e w' => e = .returned (.int .i64 (a : Int)) ∧ w' = w) := fun w => by
    have := pick_any at' l.size w i5 (by omega) (by omega)
    rw [haE] at this
    exact this
  have HAF : Hid (nbs (hl.set k (l.stored a 1 (fun _ => by' % 256))) = actF kd sz pk at' by' q P.freeN (nbs hl)) := by
    show nbs (hl.set k (l.stored a 1 (fun _ => by' % 256))) = _
    have hln : (nbs hl).length = hl.length := by unfold nbs; rw [List.length_map]
    have hnk : (nbs hl)[k]? = some l.nb := by unfold nbs; rw [List.getElem?_map, HK.out.1]; rfl
    unfold actF
    rw [if_neg (by rw [hkd]; decide), if_pos (by rw [hkd]; decide), hln, HK.out.2.2.2, Int.toNat_natCast, hnk]
    show _ = (nbs hl).set k (nbStored l.nb (pickI at' l.size).toNat (by' % 256))
    rw [haE, Int.toNat_natCast, ← nb_stored]
    unfold nbs
    rw [List.map_set]
  clear ap1 ap2 haE
  have hw8 : IntKind.u8.wrap by' = by' % 256 := IntKind.wrap_u8 by'
  have HSo : Hid (∀ w1 w, Ax C P (.slice va hl.length vc) (.slice ua hl.length uc) hl hl w1 → Up w1 w → ∀ nb, w1.heap.size ≤ nb → w.heap[nb]? = some (.cells #[.int .u8 (by' % 256)] 5 (0, 0)) → Calls Try.prog 19 #[.pointer (some ⟨C.pb, 0, none⟩), .int .i64 (C.i : Int), .int .i64 (l.buf : Int), .int .i64 (a : Int), .slice (some ⟨nb, 0, none⟩) 1 1] w fun e w' => ∃ P2, (e = .returned (.int .i64 0) ∧ P2 = P.stored C.i ⟨q, L⟩ k lm a 1 (fun _ => by' % 256)) ∧ Ax C P2 (.slice va hl.length vc) (.slice ua hl.length uc) hl hl w') := fun w1 w h u nb hnb hcell => h.poolL u (fun K hKn hp => by
    have hlmk := HK.out.2.2.1
    injection hlmk with e1 hlmk
    injection hlmk with e2 hlmk
    injection hlmk with e3 e4
    have hpl := place_at hp.ok HH.out.2.2.1 HH.out.2.1 HK.out.2.1
    rw [e1] at hpl
    have D : Byts w (some ⟨nb, 0, none⟩) nb 0 1 1 (fun _ => by' % 256) := ⟨by decide, by decide, fun _ => rfl, fun _ => ⟨by omega, by omega⟩, fun j hj => by
      have : j = 0 := by omega
      subst this
      exact heap_cell hcell rfl⟩
    exact (hp.store (b := (l.buf : Int)) (A0 := a) ⟨by omega, by omega⟩ (by omega) HH.out.2.1 hpl HK.out.2.1 (by omega) D (fun _ => hKn nb hnb (heap_at hcell))).mono fun e w' ⟨g1, g2, g3⟩ => ⟨⟨_, ⟨g1, rfl⟩, g2⟩, g3⟩)
  go_enter Try.func23, Try.ntmps23
  go_upto_if 31 with fail
  rw [← HE.out.2.2, ← HE.out.2.1, ← HE.out.1]
  have HAc : Hid (∀ w : World, w.heap[C.ab]? = some (.cells C.av 60 (0, 0)) → w.cell? ⟨C.ab, 0, none⟩ = some (.int .i64 kd) ∧ w.cell? ⟨C.ab, 2, none⟩ = some (.int .i64 sz) ∧ w.cell? ⟨C.ab, 3, none⟩ = some (.int .i64 pk) ∧ w.cell? ⟨C.ab, 4, none⟩ = some (.int .i64 at') ∧ w.cell? ⟨C.ab, 5, none⟩ = some (.int .i64 by')) := fun w h => by
    rw [HEv.out] at h
    exact ⟨heap_cell h rfl, heap_cell h rfl, heap_cell h rfl, heap_cell h rfl, heap_cell h rfl⟩
  generalize World.alloc (World.alloc (World.alloc C.w0 _) _) _ = w1 at A1 ⊢
  go_cut [10] (fun s wx => w1 = wx ∧ ∃ k, s = .int .i64 k ∧ Hid (0 < hl.length → k = pickI pk hl.length))
  case first =>
    have kk3 := (HAc.out w1 A1.out.ba).2.2.1
    have kk1 := A1.out.cells.2.1
    by_cases h0 : 0 < hl.length
    · have e0 : (0 : Int) < (hl.length : Int) := by omega
      clear HK8 HH HE HEv
      go_wp2_with fail
      refine (HPk.out h0 _).mono ?_
      rintro e w' ⟨rfl, hw'⟩
      obtain rfl := hw'.symm
      go_wp2_with fail
      go_meet
      exact ⟨rfl, _, rfl, fun _ => rfl⟩
    · try (exfalso; omega)
      all_goals
        have e0 : ¬ (0 : Int) < (hl.length : Int) := by omega
        clear HK8 HH HE HEv
        go_wp2_with fail
        go_meet
        exact ⟨rfl, _, rfl, fun h => absurd h h0⟩
  case rest =>
  obtain ⟨hwx, KV, rfl, HKV⟩ := hcut
  subst hwx
  have kk0 := (HAc.out w1 A1.out.ba).1
  go_wp2_with fail
  refine (HK8.out _).mono ?_
  rintro e w' ⟨rfl, hw'⟩
  obtain rfl := hw'.symm
  clear HK8 kk0 HPk
  have HKk : Hid (KV = (k : Int)) := (HKV.out h0).trans HK.out.2.2.2
  obtain rfl := HKk.out
  clear HKV HKk HE HEv
  obtain ⟨lg, ug, rfl, rfl, _⟩ := A1.out.kth HK.out.1
  have HKc : Hid (∀ w, Ax C P (.slice (some ⟨lg, 0, none⟩) hl.length vc) (.slice (some ⟨ug, 0, none⟩) hl.length uc) hl hl w → w.cell? ⟨lg, k * 3, none⟩ = some (.int .i64 (l.buf : Int)) ∧ w.cell? ⟨lg, k * 3 + 2, none⟩ = some (.int .i64 (l.size : Int))) := fun w h => by
    obtain ⟨lg', ug', e1, e2, q1, q2, q3, q4, _⟩ := h.kth HK.out.1
    have e1 : (⟨lg, 0, none⟩ : Addr) = ⟨lg', 0, none⟩ := Option.some.inj e1
    injection e1 with e1
    subst e1
    exact ⟨q1, q3⟩
  have HKd : Hid (∀ P2 w, Ax C P2 (.slice (some ⟨lg, 0, none⟩) hl.length vc) (.slice (some ⟨ug, 0, none⟩) hl.length uc) hl hl w → w.cell? ⟨ug, k, none⟩ = some (.slice (some ⟨l.blk, 0, none⟩) l.size l.size) ∧ NmAt w l.blk l.size l.f) := fun P2 w h => by
    obtain ⟨lg', ug', e1, e2, q1, q2, q3, q4, q5⟩ := h.kth HK.out.1
    have e2 : (⟨ug, 0, none⟩ : Addr) = ⟨ug', 0, none⟩ := Option.some.inj e2
    injection e2 with e2
    subst e2
    exact ⟨q4, q5⟩
  have ka4 := (HAc.out w1 A1.out.ba).2.2.2.1
  have kl1 := A1.out.cells.2.1
  have ks1 := (HKc.out w1 A1.out).2
  go_wp2_with fail
  go_quiet ((go_at_call 11; exact Calls.quiet_of_same (HPa.out _)))
  have A2 : Hid (Ax C P (.slice (some ⟨lg, 0, none⟩) hl.length vc) (.slice (some ⟨ug, 0, none⟩) hl.length uc) hl hl (w1.drewN nq)) := A1.out.more (Up.drewN w1 nq)
  clear A1 ka4 kl1 ks1 HPa
  generalize World.drewN w1 nq = w2 at A2 ⊢
  go_wp2_with fail
  have HS : Hid (∀ w, Up w2 w → w.cell? ⟨C.hb, 0, none⟩ = some (.int .i64 (C.i : Int)) ∧ w.cell? ⟨C.hb, 1, none⟩ = some (.slice (some ⟨lg, 0, none⟩) hl.length vc) ∧ w.cell? ⟨lg, k * 3, none⟩ = some (.int .i64 (l.buf : Int)) ∧ w.cell? ⟨C.ab, 5, none⟩ = some (.int .i64 by')) := fun w u => ⟨(A2.out.more u).cells.1, (A2.out.more u).cells.2.1, (HKc.out w (A2.out.more u)).1, (HAc.out w (A2.out.more u).ba).2.2.2.2⟩
  refine wp_region_held_drew (S := fun w : World => w.cell? ⟨C.hb, 0, none⟩ = some (.int .i64 (C.i : Int)) ∧ w.cell? ⟨C.hb, 1, none⟩ = some (.slice (some ⟨lg, 0, none⟩) hl.length vc) ∧ w.cell? ⟨lg, k * 3, none⟩ = some (.int .i64 (l.buf : Int)) ∧ w.cell? ⟨C.ab, 5, none⟩ = some (.int .i64 by')) (by kernel_rfl) ?_ (fun hHeld => ?_)
  · exact HS.out _ (Up.refl w2).drew
  have u2 : Up w2 w2.drew := (Up.refl w2).drew
  generalize World.drew w2 = wd at u2 hHeld ⊢
  refine wpAnyH_take (i := 0) (v := ?_) (by simp only [List.getElem?_toArray, List.getElem?_cons_zero]; rfl) (by kernel_rfl) (by kernel_rfl) (by kernel_rfl) (by intro _ _ _ h; exact h) (Or.inl ⟨by rfl, ?_⟩) (by assumption) ?_
  rotate_left
  · (intro w hSw; (try dsimp only at hSw); go_simp <;> with_reducible rfl)
  try simp only [Act.put, List.setIfInBounds_toArray, List.set_cons_zero, List.set_cons_succ]
  refine wpAnyH_take (i := 1) (v := ?_) (by simp only [List.getElem?_toArray, List.getElem?_cons_succ, List.getElem?_cons_zero]; rfl) (by kernel_rfl) (by kernel_rfl) (by kernel_rfl) (by intro _ _ _ h; exact h) (Or.inl ⟨by rfl, ?_⟩) (by assumption) ?_
  rotate_left
  · (intro w hSw; (try dsimp only at hSw); go_simp <;> with_reducible rfl)
  try simp only [Act.put, List.setIfInBounds_toArray, List.set_cons_zero, List.set_cons_succ]
  refine wpAnyH_take (i := 2) (v := ?_) (by simp only [List.getElem?_toArray, List.getElem?_cons_succ, List.getElem?_cons_zero]; rfl) (by kernel_rfl) (by kernel_rfl) (by kernel_rfl) (by intro _ _ _ h; exact h) (Or.inl ⟨by rfl, ?_⟩) (by assumption) ?_
  rotate_left
  · (intro w hSw; (try dsimp only at hSw); go_simp <;> with_reducible rfl)
  try simp only [Act.put, List.setIfInBounds_toArray, List.set_cons_zero, List.set_cons_succ]
  refine wpAnyH_take (i := 3) (v := ?_) (by simp only [List.getElem?_toArray, List.getElem?_cons_succ, List.getElem?_cons_zero]; rfl) (by kernel_rfl) (by kernel_rfl) (by kernel_rfl) (by intro _ _ _ h; exact h) (Or.inl ⟨by rfl, ?_⟩) (by assumption) ?_
  rotate_left
  · (intro w hSw; (try dsimp only at hSw); go_simp <;> with_reducible rfl)
  try simp only [Act.put, List.setIfInBounds_toArray, List.set_cons_zero, List.set_cons_succ]
  refine wpAnyH_take (i := 4) (v := ?_) (by simp only [List.getElem?_toArray, List.getElem?_cons_succ, List.getElem?_cons_zero]; rfl) (by kernel_rfl) (by kernel_rfl) (by kernel_rfl) (by intro _ _ _ h; exact h) (Or.inl ⟨by rfl, ?_⟩) (by assumption) ?_
  rotate_left
  · (intro w hSw; (try dsimp only at hSw); go_simp <;> with_reducible rfl)
  try simp only [Act.put, List.setIfInBounds_toArray, List.set_cons_zero, List.set_cons_succ]
  refine wpAnyH_take (i := 5) (v := ?_) (by simp only [List.getElem?_toArray, List.getElem?_cons_succ, List.getElem?_cons_zero]; rfl) (by kernel_rfl) (by kernel_rfl) (by kernel_rfl) (by intro _ _ _ h; exact h) (Or.inl ⟨by rfl, ?_⟩) (by assumption) ?_
  rotate_left
  · (intro w hSw; (try dsimp only at hSw); go_simp <;> with_reducible rfl)
  try simp only [Act.put, List.setIfInBounds_toArray, List.set_cons_zero, List.set_cons_succ]
  refine wpAnyH_take (i := 6) (v := ?_) (by simp only [List.getElem?_toArray, List.getElem?_cons_succ, List.getElem?_cons_zero]; rfl) (by kernel_rfl) (by kernel_rfl) (by kernel_rfl) (by intro _ _ _ h; exact h) (Or.inl ⟨by rfl, ?_⟩) (by assumption) ?_
  rotate_left
  · (intro w hSw; (try dsimp only at hSw); go_simp <;> with_reducible rfl)
  try simp only [Act.put, List.setIfInBounds_toArray, List.set_cons_zero, List.set_cons_succ]
  refine wpAnyH_take (i := 7) (v := ?_) (by simp only [List.getElem?_toArray, List.getElem?_cons_succ, List.getElem?_cons_zero]; rfl) (by kernel_rfl) (by kernel_rfl) (by kernel_rfl) (by intro _ _ _ h; exact h) (Or.inl ⟨by rfl, ?_⟩) (by assumption) ?_
  rotate_left
  · (intro w hSw; (try dsimp only at hSw); go_simp <;> with_reducible rfl)
  try simp only [Act.put, List.setIfInBounds_toArray, List.set_cons_zero, List.set_cons_succ]
  refine wpAnyH_take (i := 8) (v := ?_) (by simp only [List.getElem?_toArray, List.getElem?_cons_succ, List.getElem?_cons_zero]; rfl) (by kernel_rfl) (by kernel_rfl) (by kernel_rfl) (by intro _ _ _ h; exact h) (Or.inl ⟨by rfl, ?_⟩) (by assumption) ?_
  rotate_left
  · (intro w hSw; (try dsimp only at hSw); go_simp <;> with_reducible rfl)
  try simp only [Act.put, List.setIfInBounds_toArray, List.set_cons_zero, List.set_cons_succ]
  refine wpAnyH_take (i := 9) (v := ?_) (by simp only [List.getElem?_toArray, List.getElem?_cons_succ, List.getElem?_cons_zero]; rfl) (by kernel_rfl) (by kernel_rfl) (by kernel_rfl) (by intro _ _ _ h; exact h) (Or.inl ⟨by rfl, ?_⟩) (by assumption) ?_
  rotate_left
  · (intro w hSw; (try dsimp only at hSw); go_simp <;> with_reducible rfl)
  try simp only [Act.put, List.setIfInBounds_toArray, List.set_cons_zero, List.set_cons_succ]
  refine wpAnyH_take (i := 10) (v := ?_) (by simp only [List.getElem?_toArray, List.getElem?_cons_succ, List.getElem?_cons_zero]; rfl) (by kernel_rfl) (by kernel_rfl) (by kernel_rfl) (by intro _ _ _ h; exact h) (Or.inl ⟨by rfl, ?_⟩) (by assumption) ?_
  rotate_left
  · (intro w hSw; (try dsimp only at hSw); go_simp <;> with_reducible rfl)
  try simp only [Act.put, List.setIfInBounds_toArray, List.set_cons_zero, List.set_cons_succ]
  refine wpAnyH_take (i := 11) (v := ?_) (by simp only [List.getElem?_toArray, List.getElem?_cons_succ, List.getElem?_cons_zero]; rfl) (by kernel_rfl) (by kernel_rfl) (by kernel_rfl) (by intro _ _ _ h; exact h) (Or.inl ⟨by rfl, ?_⟩) (by assumption) ?_
  rotate_left
  · (intro w hSw; (try dsimp only at hSw); go_simp <;> with_reducible rfl)
  try simp only [Act.put, List.setIfInBounds_toArray, List.set_cons_zero, List.set_cons_succ]
  refine wpAnyH_take (i := 12) (v := ?_) (by simp only [List.getElem?_toArray, List.getElem?_cons_succ, List.getElem?_cons_zero]; rfl) (by kernel_rfl) (by kernel_rfl) (by kernel_rfl) (by intro _ _ _ h; exact h) (Or.inl ⟨by rfl, ?_⟩) (by assumption) ?_
  rotate_left
  · (intro w hSw; (try dsimp only at hSw); go_simp <;> with_reducible rfl)
  try simp only [Act.put, List.setIfInBounds_toArray, List.set_cons_zero, List.set_cons_succ]
  refine wpAnyH_ready (rs := [13]) (by kernel_rfl) (by simp) ?_
  refine AllReadyH.cons (by simp only [List.getElem?_toArray, List.getElem?_cons_succ, List.getElem?_cons_zero]; rfl) (fun KK hK => ?_) AllReadyH.nil
  go_simp
  have u3 : Up w2 (wd.alloc (Obj.cells #[.int .u8 (by' % 256)] 5)) := u2.alloc _
  have kn : (wd.alloc (Obj.cells #[.int .u8 (by' % 256)] 5)).heap[wd.heap.size]? = some (.cells #[.int .u8 (by' % 256)] 5 (0, 0)) := heap_alloc_new wd _
  have hnb : w2.heap.size ≤ wd.heap.size := u2.size
  generalize World.alloc wd _ = w3 at u3 kn ⊢
  generalize wd.heap.size = nb at kn hnb ⊢
  refine hK.out _ _ (HS.out _ u3) (fun hHeld => ?_)
  clear hK KK
  try simp only [Act.put, List.setIfInBounds_toArray, List.set_cons_zero, List.set_cons_succ]
  refine wpAnyH_ready (rs := [14]) (by kernel_rfl) (by simp) ?_
  refine AllReadyH.cons (by simp only [List.getElem?_toArray, List.getElem?_cons_succ, List.getElem?_cons_zero]; rfl) (fun KK hK => ?_) AllReadyH.nil
  go_simp
  refine (HSo.out w2 w3 A2.out u3 nb hnb kn).mono ?_
  rintro e w4 ⟨P2, ⟨rfl, hP2⟩, a4⟩
  have A4 : Hid (Ax C P2 (.slice (some ⟨lg, 0, none⟩) hl.length vc) (.slice (some ⟨ug, 0, none⟩) hl.length uc) hl hl w4 ∧ P2 = P.stored C.i ⟨q, L⟩ k lm a 1 (fun _ => by' % 256)) := ⟨a4, hP2⟩
  clear a4 hP2
  have HS4 : Hid (w4.cell? ⟨C.hb, 0, none⟩ = some (.int .i64 (C.i : Int)) ∧ w4.cell? ⟨C.hb, 1, none⟩ = some (.slice (some ⟨lg, 0, none⟩) hl.length vc) ∧ w4.cell? ⟨lg, k * 3, none⟩ = some (.int .i64 (l.buf : Int)) ∧ w4.cell? ⟨C.ab, 5, none⟩ = some (.int .i64 by')) := by
    refine ⟨A4.out.1.cells.1, A4.out.1.cells.2.1, ?_, (HAc.out w4 A4.out.1.ba).2.2.2.2⟩
    obtain ⟨lg', ug', e1, e2, q1, _⟩ := A4.out.1.kth HK.out.1
    have e1 : (⟨lg, 0, none⟩ : Addr) = ⟨lg', 0, none⟩ := Option.some.inj e1
    injection e1 with e1
    subst e1
    exact q1
  refine hK.out _ _ HS4.out (fun hHeld => ?_)
  clear hK KK HS4
  try simp only [Act.put, List.setIfInBounds_toArray, List.set_cons_zero, List.set_cons_succ]
  refine wpAnyH_take (i := 15) (v := ?_) (by simp only [List.getElem?_toArray, List.getElem?_cons_succ, List.getElem?_cons_zero]; rfl) (by kernel_rfl) (by kernel_rfl) (by kernel_rfl) (by intro _ _ _ h; exact h) (Or.inl ⟨by rfl, ?_⟩) (by assumption) ?_
  rotate_left
  · (intro w hSw; (try dsimp only at hSw); go_simp <;> with_reducible rfl)
  try simp only [Act.put, List.setIfInBounds_toArray, List.set_cons_zero, List.set_cons_succ]
  refine wpAnyH_done (by kernel_rfl) ?_ _
  clear hHeld HSo HS A2 u2 u3 kn hnb HKc
  go_wp2_with fail
  refine wp_still2 10 (by kernel_rfl) (by decide +kernel) ?_
  intro w5 hw5
  have u5 : Up w4 w5 := by rw [hw5]; exact (Up.refl _).drew
  have A5 : Hid (Ax C P2 (.slice (some ⟨lg, 0, none⟩) hl.length vc) (.slice (some ⟨ug, 0, none⟩) hl.length uc) hl hl w5) := A4.out.1.more u5
  have HP5 : Hid (P2 = P.stored C.i ⟨q, L⟩ k lm a 1 (fun _ => by' % 256)) := A4.out.2
  clear hw5 u5 A4
  have k2 := A5.out.cells.2.2
  have ku := (HKd.out P2 w5 A5.out).1
  have kby := (HAc.out w5 A5.out.ba).2.2.2.2
  have kx := (HKd.out P2 w5 A5.out).2.cell a hal
  have kz := (HKd.out P2 w5 A5.out).2.fz a
  have eal : (a : Int) < (l.size : Int) := by omega
  have A6 : Hid (Ax C P2 (.slice (some ⟨lg, 0, none⟩) hl.length vc) (.slice (some ⟨ug, 0, none⟩) hl.length uc) hl (hl.set k (l.stored a 1 (fun _ => by' % 256))) (w5.setCell ⟨l.blk, a, none⟩ (.int .u8 (by' % 256)))) := A5.out.stored HK.out.1 hal
  simp only [List.take_succ_cons, List.take_zero, List.drop_succ_cons, List.drop_zero]
  repeat (go_big_quiet_step (fail))
  refine wpQuiet_nil ?_
  clear A5 HKd
  have A7 : Hid (Ax C P2 (.slice (some ⟨lg, 0, none⟩) hl.length vc) (.slice (some ⟨ug, 0, none⟩) hl.length uc) (hl.set k (l.stored a 1 (fun _ => by' % 256))) (hl.set k (l.stored a 1 (fun _ => by' % 256))) (w5.setCell ⟨l.blk, a, none⟩ (.int .u8 (by' % 256)))) := A6.out.leaseEq (leases_stored2 HK.out.1 a _).symm (by rw [List.length_set])
  clear A6
  have HEnd : Hid ((∃ L', P2.ars = P.ars.set C.i (some ⟨q, L'⟩) ∧ keys L' = keys (hl.set k (l.stored a 1 (fun _ => by' % 256)))) ∧ Cs n P2 ∧ nbs (hl.set k (l.stored a 1 (fun _ => by' % 256))) = actF kd sz pk at' by' q P.freeN (nbs hl)) := by
    have e := HP5.out
    subst e
    exact ⟨⟨L.set k (lm.stored a 1 (fun _ => by' % 256)), rfl, keys_stored HH.out.1 HK.out.2.1 HK.out.1⟩, HH.out.2.2.1.setArn, HAF.out⟩
  clear HAF HP5
  generalize hl.set k (l.stored a 1 (fun _ => by' % 256)) = hl2 at A7 HEnd
  go_upto_region 29 with fail
  generalize World.setCell w5 _ _ = w6 at A7 ⊢
  have HR : Hid (w6.rangeAt C.hb 0 [.int .i64 (C.i : Int), .slice (some ⟨lg, 0, none⟩) hl.length vc, .slice (some ⟨ug, 0, none⟩) hl.length uc]) := range3 A7.out.cells.1 A7.out.cells.2.1 A7.out.cells.2.2
  have HB : Hid (w6.heap[C.rb]? = some (.cells #[.int .i64 0, .slice none 0 0, .slice none 0 0] 56 (0, 0))) := A7.out.br
  go_wp2_with (first
    | (refine wpList_load_mid rfl 56 _ rfl C.hb 0 rfl [.int .i64 (C.i : Int), .slice (some ⟨lg, 0, none⟩) hl.length vc, .slice (some ⟨ug, 0, none⟩) hl.length uc] _ HR.out Try.underlying56 rfl (by kernel_rfl) ?_)
    | (refine wpList_store_rowTo rfl 56 _ _ rfl rfl C.rb #[.int .i64 (C.i : Int), .slice (some ⟨lg, 0, none⟩) hl.length vc, .slice (some ⟨ug, 0, none⟩) hl.length uc] rfl rfl 56 _ HB.out (by kernel_rfl) rfl (by simp [Value.oneCell']) ?_))
  have fr := (Fr.refl C.rb w6).setRow (cs := #[.int .i64 (C.i : Int), .slice (some ⟨lg, 0, none⟩) hl.length vc, .slice (some ⟨ug, 0, none⟩) hl.length uc])
  refine bodyPost_ret (v := .tuple #[.agg _, .bool true]) (results_row_tmp Try.results23 _ _ _ 56 _ (0, 0) _ rfl (setRow_heap _ _ _ _ _ _ HB.out) Try.underlying56 rfl (by kernel_rfl)) rfl ?_
  exact ⟨_, _, hl2, P2, rfl, A7.out.done fr, HEnd.out⟩
end Go.Proofs.Yteijdcidemajfaa
/- Arena: acts: a byte is stored. -/
namespace Go.Proofs.Yteijdcidemajfaa
open Go.RowKit
set_option linter.unusedVariables false
set_option linter.unusedSimpArgs false
variable {K K' O : Nat → Prop} {w w' W : World} {pb n : Nat} {P P' : Pl} {lv bv : Value} {ll bl hl L : List Loan} {C : Cx} {q : Int}
theorem leases_stored3 {hl : List Loan} {k : Nat} {l : Loan} (hk : hl[k]? = some l) (a : Nat) (v : Int) : leaseCells (hl.set k (l.stored a 1 (fun _ => v))) = leaseCells hl := by
  induction hl generalizing k with
  | nil => simp at hk
  | cons x r ih =>
    cases k with
    | zero =>
      simp at hk
      subst hk
      rfl
    | succ k =>
      show x.lease ++ leaseCells (r.set k _) = x.lease ++ leaseCells r
      rw [ih (by simpa using hk)]
set_option maxRecDepth 100000 in
set_option maxHeartbeats 4000000 in
theorem acts_store3 {kd who sz pk at' by' : Int} (i1 : I64 kd) (i3 : I64 sz) (i4 : I64 pk) (i5 : I64 at') (i6 : I64 by') (eh : C.hb = C.w0.heap.size) (ea : C.ab = C.w0.heap.size + 1) (er : C.rb = C.w0.heap.size + 2) (ev : C.av = #[.int .i64 kd, .int .i64 who, .int .i64 sz, .int .i64 pk, .int .i64 at', .int .i64 by']) (hp : Pb C.W C.K0 C.pb P C.w0) (hh : Ht C.O0 C.w0 lv bv hl hl) (ho : ∀ b, C.O0 b → C.K0 b ∧ C.W.heap.size ≤ b) (ha : P.ars[C.i]? = some (some ⟨q, L⟩)) (hk : keys L = keys hl) (hc : Cs n P) (q0 : 0 ≤ q) (q1 : q ≤ 1000) (hop : ∀ j, j < C.i → ∃ b, P.ars[j]? = some (some b)) (hkd : pickI kd 8 = 3) (h0 : 0 < hl.length) : Calls Try.prog 23 #[.pointer (some ⟨C.pb, 0, none⟩), .agg #[.int .i64 (C.i : Int), lv, bv], .agg C.av, .int .i64 q] C.w0 (Rs C n q P (actF kd sz pk at' by' q P.freeN (nbs hl))) := by
  have hl4 : hl.length ≤ 4096 := by rw [← keys_len hk]; exact hp.ok.loans ha
  have A0 := Ax.begin (i := C.i) (av := C.av) hp hh ho
  have A1 : Hid (Ax C P lv bv hl hl (((C.w0.alloc (.cells #[.int .i64 (C.i : Int), lv, bv] 56)).alloc (.cells C.av 60)).alloc (.cells #[.int .i64 0, .slice none 0 0, .slice none 0 0] 56))) := by
    have e : C = ⟨C.W, C.w0, C.K0, C.O0, C.pb, C.i, C.w0.heap.size, C.w0.heap.size + 1, C.w0.heap.size + 2, C.av⟩ := by
      cases C
      simp only at eh ea er
      subst eh ea er
      rfl
    rw [e]
    exact A0
  clear A0
  rw [ev] at A1
  rw [ev]
  obtain ⟨va, vn, vc, rfl⟩ := own_slice3 hh.lo
  obtain ⟨ua, un, uc, rfl⟩ := own_slice3 hh.bo
  obtain ⟨hvn, hvc1, hvc2⟩ : vn = hl.length ∧ vn ≤ vc ∧ vc ≤ 9223372036854775807 := by
    rcases own_cases hh.lo with ⟨hv, hn0, _⟩ | ⟨g, cap, hv, hc1, hm, _⟩
    · injection hv with _ e2 e3
      exact ⟨by omega, by omega, by omega⟩
    · injection hv with _ e2 e3
      unfold maxLen at hm
      exact ⟨e2, by omega, by omega⟩
  subst hvn
  obtain ⟨hun, huc1, huc2⟩ : un = hl.length ∧ un ≤ uc ∧ uc ≤ 9223372036854775807 := by
    rcases own_cases hh.bo with ⟨hv, hn0, _⟩ | ⟨g, cap, hv, hc1, hm, _⟩
    · injection hv with _ e2 e3
      exact ⟨by omega, by omega, by omega⟩
    · injection hv with _ e2 e3
      unfold maxLen at hm
      exact ⟨e2, by omega, by omega⟩
  subst hun
  have HK8 : Hid (∀ w, Calls Try.prog 11 #[.int .i64 kd, .int .i64 8] w fun e w' => e = .returned (.int .i64 (pickI kd 8)) ∧ w' = w) := fun w => pick_any kd 8 w i1 (by decide) (by decide)
  have HPk : Hid (0 < hl.length → ∀ w, Calls Try.prog 11 #[.int .i64 pk, .int .i64 (hl.length : Int)] w fun e w' => e = .returned (.int .i64 (pickI pk hl.length)) ∧ w' = w) := fun h0 w => pick_any pk hl.length w i4 (by omega) (by omega)
  have HH : Hid (keys L = keys hl ∧ P.ars[C.i]? = some (some ⟨q, L⟩) ∧ Cs n P ∧ (∀ j, j < C.i → ∃ b, P.ars[j]? = some (some b))) := ⟨hk, ha, hc, hop⟩
  have HE : Hid (C.hb = C.w0.heap.size ∧ C.ab = C.w0.heap.size + 1 ∧ C.rb = C.w0.heap.size + 2) := ⟨eh, ea, er⟩
  have HEv : Hid (C.av = #[.int .i64 kd, .int .i64 who, .int .i64 sz, .int .i64 pk, .int .i64 at', .int .i64 by']) := ev
  have HSz : Hid (∀ l ∈ hl, l.size ≤ 65536) := keys_le hk (fun l hl' => (hp.ok.size ha hl').2)
  clear hp hh ho hk ha hc hop eh ea er ev
  have kp1 := pickI_lo pk hl.length (by omega)
  have kp2 := pickI_hi pk hl.length (by omega)
  obtain ⟨k, hkE⟩ := Int.eq_ofNat_of_zero_le kp1
  have hkl : k < hl.length := by omega
  obtain ⟨l, hkL⟩ : ∃ l, hl[k]? = some l := ⟨_, List.getElem?_eq_getElem hkl⟩
  obtain ⟨lm, hlm, hlk⟩ := keys_at HH.out.1.symm hkL
  have hls : 1 ≤ l.size ∧ l.size ≤ 65536 := by
    obtain ⟨K, O, h1, _⟩ := A1.out.at'
    have := h1.ok.size HH.out.2.1 (List.mem_of_getElem? hlm)
    injection hlk with _ hlk
    injection hlk with _ hlk
    injection hlk with e3 _
    omega
  have hlb : l.buf ≤ 100000 := by
    obtain ⟨K, O, h1, _⟩ := A1.out.at'
    obtain ⟨x, hx, _⟩ := h1.ok.ln C.i _ lm HH.out.2.1 (List.mem_of_getElem? hlm)
    have := buf_range h1.ok HH.out.2.1 hlm hx
    have hm := h1.ok.my _ x hx
    injection hlk with e1 _
    omega
  have HK : Hid (hl[k]? = some l ∧ L[k]? = some lm ∧ lm.key = l.key ∧ pickI pk hl.length = (k : Int)) := ⟨hkL, hlm, hlk, hkE⟩
  have e0 : ¬ (hl.length : Int) = 0 := by omega
  have ek : (k : Int) < (hl.length : Int) := by omega
  clear kp1 kp2 hkL hlm hlk hkE
  have ap1 := pickI_lo at' l.size (by omega)
  have ap2 := pickI_hi at' l.size (by omega)
  obtain ⟨a, haE⟩ := Int.eq_ofNat_of_zero_le ap1
  have hal : a < l.size := by omega
  have HPa : Hid (∀ w, Calls Try.prog 11 #[.int .i64 at', .int .i64 (l.size : Int)] w fun e w' => e = .returned (.int .i64 (a : Int)) ∧ w' = w) := fun w => by
    have := pick_any at' l.size w i5 (by omega) (by omega)
    rw [haE] at this
    exact this
  have HAF : Hid (nbs (hl.set k (l.stored a 1 (fun _ => by' % 256))) = actF kd sz pk at' by' q P.freeN (nbs hl)) := by
    show nbs (hl.set k (l.stored a 1 (fun _ => by' % 256))) = _
    have hln : (nbs hl).length = hl.length := by unfold nbs; rw [List.length_map]
    have hnk : (nbs hl)[k]? = some l.nb := by unfold nbs; rw [List.getElem?_map, HK.out.1]; rfl
    unfold actF
    rw [if_neg (by rw [hkd]; decide), if_pos (by rw [hkd]; decide), hln, HK.out.2.2.2, Int.toNat_natCast, hnk]
    show _ = (nbs hl).set k (nbStored l.nb (pickI at' l.size).toNat (by' % 256))
    rw [haE, Int.toNat_natCast, ← nb_stored]
    unfold nbs
    rw [List.map_set]
  clear ap1 ap2 haE
  have hw8 : IntKind.u8.wrap by' = by' % 256 := IntKind.wrap_u8 by'
  have HSo : Hid (∀ w1 w, Ax C P (.slice va hl.length vc) (.slice ua hl.length uc) hl hl w1 → Up w1 w → ∀ nb, w1.heap.size ≤ nb → w.heap[nb]? = some (.cells #[.int .u8 (by' % 256)] 5 (0, 0)) → Calls Try.prog 19 #[.pointer (some ⟨C.pb, 0, none⟩), .int .i64 (C.i : Int), .int .i64 (l.buf : Int), .int .i64 (a : Int), .slice (some ⟨nb, 0, none⟩) 1 1] w fun e w' => ∃ P2, (e = .returned (.int .i64 0) ∧ P2 = P.stored C.i ⟨q, L⟩ k lm a 1 (fun _ => by' % 256)) ∧ Ax C P2 (.slice va hl.length vc) (.slice ua hl.length uc) hl hl w') := fun w1 w h u nb hnb hcell => h.poolL u (fun K hKn hp => by
    have hlmk := HK.out.2.2.1
    injection hlmk with e1 hlmk
    injection hlmk with e2 hlmk
    injection hlmk with e3 e4
    have hpl := place_at hp.ok HH.out.2.2.1 HH.out.2.1 HK.out.2.1
    rw [e1] at hpl
    have D : Byts w (some ⟨nb, 0, none⟩) nb 0 1 1 (fun _ => by' % 256) := ⟨by decide, by decide, fun _ => rfl, fun _ => ⟨by omega, by omega⟩, fun j hj => by
      have : j = 0 := by omega
      subst this
      exact heap_cell hcell rfl⟩
    exact (hp.store (b := (l.buf : Int)) (A0 := a) ⟨by omega, by omega⟩ (by omega) HH.out.2.1 hpl HK.out.2.1 (by omega) D (fun _ => hKn nb hnb (heap_at hcell))).mono fun e w' ⟨g1, g2, g3⟩ => ⟨⟨_, ⟨g1, rfl⟩, g2⟩, g3⟩)
  go_enter Try.func23, Try.ntmps23
  go_upto_if 31 with fail
  rw [← HE.out.2.2, ← HE.out.2.1, ← HE.out.1]
  have HAc : Hid (∀ w : World, w.heap[C.ab]? = some (.cells C.av 60 (0, 0)) → w.cell? ⟨C.ab, 0, none⟩ = some (.int .i64 kd) ∧ w.cell? ⟨C.ab, 2, none⟩ = some (.int .i64 sz) ∧ w.cell? ⟨C.ab, 3, none⟩ = some (.int .i64 pk) ∧ w.cell? ⟨C.ab, 4, none⟩ = some (.int .i64 at') ∧ w.cell? ⟨C.ab, 5, none⟩ = some (.int .i64 by')) := fun w h => by
    rw [HEv.out] at h
    exact ⟨heap_cell h rfl, heap_cell h rfl, heap_cell h rfl, heap_cell h rfl, heap_cell h rfl⟩
  generalize World.alloc (World.alloc (World.alloc C.w0 _) _) _ = w1 at A1 ⊢
  go_cut [10] (fun s wx => w1 = wx ∧ ∃ k, s = .int .i64 k ∧ Hid (0 < hl.length → k = pickI pk hl.length))
  case first =>
    have kk3 := (HAc.out w1 A1.out.ba).2.2.1
    have kk1 := A1.out.cells.2.1
    by_cases h0 : 0 < hl.length
    · have e0 : (0 : Int) < (hl.length : Int) := by omega
      clear HK8 HH HE HEv
      go_wp2_with fail
      refine (HPk.out h0 _).mono ?_
      rintro e w' ⟨rfl, hw'⟩
      obtain rfl := hw'.symm
      go_wp2_with fail
      go_meet
      exact ⟨rfl, _, rfl, fun _ => rfl⟩
    · try (exfalso; omega)
      all_goals
        have e0 : ¬ (0 : Int) < (hl.length : Int) := by omega
        clear HK8 HH HE HEv
        go_wp2_with fail
        go_meet
        exact ⟨rfl, _, rfl, fun h => absurd h h0⟩
  case rest =>
  obtain ⟨hwx, KV, rfl, HKV⟩ := hcut
  subst hwx
  have kk0 := (HAc.out w1 A1.out.ba).1
  go_wp2_with fail
  refine (HK8.out _).mono ?_
  rintro e w' ⟨rfl, hw'⟩
  obtain rfl := hw'.symm
  clear HK8 kk0 HPk
  have HKk : Hid (KV = (k : Int)) := (HKV.out h0).trans HK.out.2.2.2
  obtain rfl := HKk.out
  clear HKV HKk HE HEv
  obtain ⟨lg, ug, rfl, rfl, _⟩ := A1.out.kth HK.out.1
  have HKc : Hid (∀ w, Ax C P (.slice (some ⟨lg, 0, none⟩) hl.length vc) (.slice (some ⟨ug, 0, none⟩) hl.length uc) hl hl w → w.cell? ⟨lg, k * 3, none⟩ = some (.int .i64 (l.buf : Int)) ∧ w.cell? ⟨lg, k * 3 + 2, none⟩ = some (.int .i64 (l.size : Int))) := fun w h => by
    obtain ⟨lg', ug', e1, e2, q1, q2, q3, q4, _⟩ := h.kth HK.out.1
    have e1 : (⟨lg, 0, none⟩ : Addr) = ⟨lg', 0, none⟩ := Option.some.inj e1
    injection e1 with e1
    subst e1
    exact ⟨q1, q3⟩
  have HKd : Hid (∀ P2 w, Ax C P2 (.slice (some ⟨lg, 0, none⟩) hl.length vc) (.slice (some ⟨ug, 0, none⟩) hl.length uc) hl hl w → w.cell? ⟨ug, k, none⟩ = some (.slice (some ⟨l.blk, 0, none⟩) l.size l.size) ∧ NmAt w l.blk l.size l.f) := fun P2 w h => by
    obtain ⟨lg', ug', e1, e2, q1, q2, q3, q4, q5⟩ := h.kth HK.out.1
    have e2 : (⟨ug, 0, none⟩ : Addr) = ⟨ug', 0, none⟩ := Option.some.inj e2
    injection e2 with e2
    subst e2
    exact ⟨q4, q5⟩
  have ka4 := (HAc.out w1 A1.out.ba).2.2.2.1
  have kl1 := A1.out.cells.2.1
  have ks1 := (HKc.out w1 A1.out).2
  go_wp2_with fail
  go_quiet ((go_at_call 11; exact Calls.quiet_of_same (HPa.out _)))
  have A2 : Hid (Ax C P (.slice (some ⟨lg, 0, none⟩) hl.length vc) (.slice (some ⟨ug, 0, none⟩) hl.length uc) hl hl (w1.drewN nq)) := A1.out.more (Up.drewN w1 nq)
  clear A1 ka4 kl1 ks1 HPa
  generalize World.drewN w1 nq = w2 at A2 ⊢
  go_wp2_with fail
  have HS : Hid (∀ w, Up w2 w → w.cell? ⟨C.hb, 0, none⟩ = some (.int .i64 (C.i : Int)) ∧ w.cell? ⟨C.hb, 1, none⟩ = some (.slice (some ⟨lg, 0, none⟩) hl.length vc) ∧ w.cell? ⟨lg, k * 3, none⟩ = some (.int .i64 (l.buf : Int)) ∧ w.cell? ⟨C.ab, 5, none⟩ = some (.int .i64 by')) := fun w u => ⟨(A2.out.more u).cells.1, (A2.out.more u).cells.2.1, (HKc.out w (A2.out.more u)).1, (HAc.out w (A2.out.more u).ba).2.2.2.2⟩
  refine wp_region_held_drew (S := fun w : World => w.cell? ⟨C.hb, 0, none⟩ = some (.int .i64 (C.i : Int)) ∧ w.cell? ⟨C.hb, 1, none⟩ = some (.slice (some ⟨lg, 0, none⟩) hl.length vc) ∧ w.cell? ⟨lg, k * 3, none⟩ = some (.int .i64 (l.buf : Int)) ∧ w.cell? ⟨C.ab, 5, none⟩ = some (.int .i64 by')) (by kernel_rfl) ?_ (fun hHeld => ?_)
  · exact HS.out _ (Up.refl w2).drew
  have u2 : Up w2 w2.drew := (Up.refl w2).drew
  generalize World.drew w2 = wd at u2 hHeld ⊢
  refine wpAnyH_take (i := 0) (v := ?_) (by simp only [List.getElem?_toArray, List.getElem?_cons_zero]; rfl) (by kernel_rfl) (by kernel_rfl) (by kernel_rfl) (by intro _ _ _ h; exact h) (Or.inl ⟨by rfl, ?_⟩) (by assumption) ?_
  rotate_left
  · (intro w hSw; (try dsimp only at hSw); go_simp <;> with_reducible rfl)
  try simp only [Act.put, List.setIfInBounds_toArray, List.set_cons_zero, List.set_cons_succ]
  refine wpAnyH_take (i := 1) (v := ?_) (by simp only [List.getElem?_toArray, List.getElem?_cons_succ, List.getElem?_cons_zero]; rfl) (by kernel_rfl) (by kernel_rfl) (by kernel_rfl) (by intro _ _ _ h; exact h) (Or.inl ⟨by rfl, ?_⟩) (by assumption) ?_
  rotate_left
  · (intro w hSw; (try dsimp only at hSw); go_simp <;> with_reducible rfl)
  try simp only [Act.put, List.setIfInBounds_toArray, List.set_cons_zero, List.set_cons_succ]
  refine wpAnyH_take (i := 2) (v := ?_) (by simp only [List.getElem?_toArray, List.getElem?_cons_succ, List.getElem?_cons_zero]; rfl) (by kernel_rfl) (by kernel_rfl) (by kernel_rfl) (by intro _ _ _ h; exact h) (Or.inl ⟨by rfl, ?_⟩) (by assumption) ?_
  rotate_left
  · (intro w hSw; (try dsimp only at hSw); go_simp <;> with_reducible rfl)
  try simp only [Act.put, List.setIfInBounds_toArray, List.set_cons_zero, List.set_cons_succ]
  refine wpAnyH_take (i := 3) (v := ?_) (by simp only [List.getElem?_toArray, List.getElem?_cons_succ, List.getElem?_cons_zero]; rfl) (by kernel_rfl) (by kernel_rfl) (by kernel_rfl) (by intro _ _ _ h; exact h) (Or.inl ⟨by rfl, ?_⟩) (by assumption) ?_
  rotate_left
  · (intro w hSw; (try dsimp only at hSw); go_simp <;> with_reducible rfl)
  try simp only [Act.put, List.setIfInBounds_toArray, List.set_cons_zero, List.set_cons_succ]
  refine wpAnyH_take (i := 4) (v := ?_) (by simp only [List.getElem?_toArray, List.getElem?_cons_succ, List.getElem?_cons_zero]; rfl) (by kernel_rfl) (by kernel_rfl) (by kernel_rfl) (by intro _ _ _ h; exact h) (Or.inl ⟨by rfl, ?_⟩) (by assumption) ?_
  rotate_left
  · (intro w hSw; (try dsimp only at hSw); go_simp <;> with_reducible rfl)
  try simp only [Act.put, List.setIfInBounds_toArray, List.set_cons_zero, List.set_cons_succ]
  refine wpAnyH_take (i := 5) (v := ?_) (by simp only [List.getElem?_toArray, List.getElem?_cons_succ, List.getElem?_cons_zero]; rfl) (by kernel_rfl) (by kernel_rfl) (by kernel_rfl) (by intro _ _ _ h; exact h) (Or.inl ⟨by rfl, ?_⟩) (by assumption) ?_
  rotate_left
  · (intro w hSw; (try dsimp only at hSw); go_simp <;> with_reducible rfl)
  try simp only [Act.put, List.setIfInBounds_toArray, List.set_cons_zero, List.set_cons_succ]
  refine wpAnyH_take (i := 6) (v := ?_) (by simp only [List.getElem?_toArray, List.getElem?_cons_succ, List.getElem?_cons_zero]; rfl) (by kernel_rfl) (by kernel_rfl) (by kernel_rfl) (by intro _ _ _ h; exact h) (Or.inl ⟨by rfl, ?_⟩) (by assumption) ?_
  rotate_left
  · (intro w hSw; (try dsimp only at hSw); go_simp <;> with_reducible rfl)
  try simp only [Act.put, List.setIfInBounds_toArray, List.set_cons_zero, List.set_cons_succ]
  refine wpAnyH_take (i := 7) (v := ?_) (by simp only [List.getElem?_toArray, List.getElem?_cons_succ, List.getElem?_cons_zero]; rfl) (by kernel_rfl) (by kernel_rfl) (by kernel_rfl) (by intro _ _ _ h; exact h) (Or.inl ⟨by rfl, ?_⟩) (by assumption) ?_
  rotate_left
  · (intro w hSw; (try dsimp only at hSw); go_simp <;> with_reducible rfl)
  try simp only [Act.put, List.setIfInBounds_toArray, List.set_cons_zero, List.set_cons_succ]
  refine wpAnyH_take (i := 8) (v := ?_) (by simp only [List.getElem?_toArray, List.getElem?_cons_succ, List.getElem?_cons_zero]; rfl) (by kernel_rfl) (by kernel_rfl) (by kernel_rfl) (by intro _ _ _ h; exact h) (Or.inl ⟨by rfl, ?_⟩) (by assumption) ?_
  rotate_left
  · (intro w hSw; (try dsimp only at hSw); go_simp <;> with_reducible rfl)
  try simp only [Act.put, List.setIfInBounds_toArray, List.set_cons_zero, List.set_cons_succ]
  refine wpAnyH_take (i := 9) (v := ?_) (by simp only [List.getElem?_toArray, List.getElem?_cons_succ, List.getElem?_cons_zero]; rfl) (by kernel_rfl) (by kernel_rfl) (by kernel_rfl) (by intro _ _ _ h; exact h) (Or.inl ⟨by rfl, ?_⟩) (by assumption) ?_
  rotate_left
  · (intro w hSw; (try dsimp only at hSw); go_simp <;> with_reducible rfl)
  try simp only [Act.put, List.setIfInBounds_toArray, List.set_cons_zero, List.set_cons_succ]
  refine wpAnyH_take (i := 10) (v := ?_) (by simp only [List.getElem?_toArray, List.getElem?_cons_succ, List.getElem?_cons_zero]; rfl) (by kernel_rfl) (by kernel_rfl) (by kernel_rfl) (by intro _ _ _ h; exact h) (Or.inl ⟨by rfl, ?_⟩) (by assumption) ?_
  rotate_left
  · (intro w hSw; (try dsimp only at hSw); go_simp <;> with_reducible rfl)
  try simp only [Act.put, List.setIfInBounds_toArray, List.set_cons_zero, List.set_cons_succ]
  refine wpAnyH_take (i := 11) (v := ?_) (by simp only [List.getElem?_toArray, List.getElem?_cons_succ, List.getElem?_cons_zero]; rfl) (by kernel_rfl) (by kernel_rfl) (by kernel_rfl) (by intro _ _ _ h; exact h) (Or.inl ⟨by rfl, ?_⟩) (by assumption) ?_
  rotate_left
  · (intro w hSw; (try dsimp only at hSw); go_simp <;> with_reducible rfl)
  try simp only [Act.put, List.setIfInBounds_toArray, List.set_cons_zero, List.set_cons_succ]
  refine wpAnyH_take (i := 12) (v := ?_) (by simp only [List.getElem?_toArray, List.getElem?_cons_succ, List.getElem?_cons_zero]; rfl) (by kernel_rfl) (by kernel_rfl) (by kernel_rfl) (by intro _ _ _ h; exact h) (Or.inl ⟨by rfl, ?_⟩) (by assumption) ?_
  rotate_left
  · (intro w hSw; (try dsimp only at hSw); go_simp <;> with_reducible rfl)
  try simp only [Act.put, List.setIfInBounds_toArray, List.set_cons_zero, List.set_cons_succ]
  refine wpAnyH_ready (rs := [13]) (by kernel_rfl) (by simp) ?_
  refine AllReadyH.cons (by simp only [List.getElem?_toArray, List.getElem?_cons_succ, List.getElem?_cons_zero]; rfl) (fun KK hK => ?_) AllReadyH.nil
  go_simp
  have u3 : Up w2 (wd.alloc (Obj.cells #[.int .u8 (by' % 256)] 5)) := u2.alloc _
  have kn : (wd.alloc (Obj.cells #[.int .u8 (by' % 256)] 5)).heap[wd.heap.size]? = some (.cells #[.int .u8 (by' % 256)] 5 (0, 0)) := heap_alloc_new wd _
  have hnb : w2.heap.size ≤ wd.heap.size := u2.size
  generalize World.alloc wd _ = w3 at u3 kn ⊢
  generalize wd.heap.size = nb at kn hnb ⊢
  refine hK.out _ _ (HS.out _ u3) (fun hHeld => ?_)
  clear hK KK
  try simp only [Act.put, List.setIfInBounds_toArray, List.set_cons_zero, List.set_cons_succ]
  refine wpAnyH_ready (rs := [14]) (by kernel_rfl) (by simp) ?_
  refine AllReadyH.cons (by simp only [List.getElem?_toArray, List.getElem?_cons_succ, List.getElem?_cons_zero]; rfl) (fun KK hK => ?_) AllReadyH.nil
  go_simp
  refine (HSo.out w2 w3 A2.out u3 nb hnb kn).mono ?_
  rintro e w4 ⟨P2, ⟨rfl, hP2⟩, a4⟩
  have A4 : Hid (Ax C P2 (.slice (some ⟨lg, 0, none⟩) hl.length vc) (.slice (some ⟨ug, 0, none⟩) hl.length uc) hl hl w4 ∧ P2 = P.stored C.i ⟨q, L⟩ k lm a 1 (fun _ => by' % 256)) := ⟨a4, hP2⟩
  clear a4 hP2
  have HS4 : Hid (w4.cell? ⟨C.hb, 0, none⟩ = some (.int .i64 (C.i : Int)) ∧ w4.cell? ⟨C.hb, 1, none⟩ = some (.slice (some ⟨lg, 0, none⟩) hl.length vc) ∧ w4.cell? ⟨lg, k * 3, none⟩ = some (.int .i64 (l.buf : Int)) ∧ w4.cell? ⟨C.ab, 5, none⟩ = some (.int .i64 by')) := by
    refine ⟨A4.out.1.cells.1, A4.out.1.cells.2.1, ?_, (HAc.out w4 A4.out.1.ba).2.2.2.2⟩
    obtain ⟨lg', ug', e1, e2, q1, _⟩ := A4.out.1.kth HK.out.1
    have e1 : (⟨lg, 0, none⟩ : Addr) = ⟨lg', 0, none⟩ := Option.some.inj e1
    injection e1 with e1
    subst e1
    exact q1
  refine hK.out _ _ HS4.out (fun hHeld => ?_)
  clear hK KK HS4
  try simp only [Act.put, List.setIfInBounds_toArray, List.set_cons_zero, List.set_cons_succ]
  refine wpAnyH_take (i := 15) (v := ?_) (by simp only [List.getElem?_toArray, List.getElem?_cons_succ, List.getElem?_cons_zero]; rfl) (by kernel_rfl) (by kernel_rfl) (by kernel_rfl) (by intro _ _ _ h; exact h) (Or.inl ⟨by rfl, ?_⟩) (by assumption) ?_
  rotate_left
  · (intro w hSw; (try dsimp only at hSw); go_simp <;> with_reducible rfl)
  try simp only [Act.put, List.setIfInBounds_toArray, List.set_cons_zero, List.set_cons_succ]
  refine wpAnyH_done (by kernel_rfl) ?_ _
  clear hHeld HSo HS A2 u2 u3 kn hnb HKc
  go_wp2_with fail
  refine wp_still2 10 (by kernel_rfl) (by decide +kernel) ?_
  intro w5 hw5
  have u5 : Up w4 w5 := by rw [hw5]; exact (Up.refl _).drew
  have A5 : Hid (Ax C P2 (.slice (some ⟨lg, 0, none⟩) hl.length vc) (.slice (some ⟨ug, 0, none⟩) hl.length uc) hl hl w5) := A4.out.1.more u5
  have HP5 : Hid (P2 = P.stored C.i ⟨q, L⟩ k lm a 1 (fun _ => by' % 256)) := A4.out.2
  clear hw5 u5 A4
  have k2 := A5.out.cells.2.2
  have ku := (HKd.out P2 w5 A5.out).1
  have kby := (HAc.out w5 A5.out.ba).2.2.2.2
  have kx := (HKd.out P2 w5 A5.out).2.cell a hal
  have kz := (HKd.out P2 w5 A5.out).2.fz a
  have eal : (a : Int) < (l.size : Int) := by omega
  have A6 : Hid (Ax C P2 (.slice (some ⟨lg, 0, none⟩) hl.length vc) (.slice (some ⟨ug, 0, none⟩) hl.length uc) hl (hl.set k (l.stored a 1 (fun _ => by' % 256))) (w5.setCell ⟨l.blk, a, none⟩ (.int .u8 (by' % 256)))) := A5.out.stored HK.out.1 hal
  simp only [List.take_succ_cons, List.take_zero, List.drop_succ_cons, List.drop_zero]
  repeat (go_big_quiet_step (fail))
  refine wpQuiet_nil ?_
  clear A5 HKd
  have A7 : Hid (Ax C P2 (.slice (some ⟨lg, 0, none⟩) hl.length vc) (.slice (some ⟨ug, 0, none⟩) hl.length uc) (hl.set k (l.stored a 1 (fun _ => by' % 256))) (hl.set k (l.stored a 1 (fun _ => by' % 256))) (w5.setCell ⟨l.blk, a, none⟩ (.int .u8 (by' % 256)))) := A6.out.leaseEq (leases_stored3 HK.out.1 a _).symm (by rw [List.length_set])
  clear A6
  have HEnd : Hid ((∃ L', P2.ars = P.ars.set C.i (some ⟨q, L'⟩) ∧ keys L' = keys (hl.set k (l.stored a 1 (fun _ => by' % 256)))) ∧ Cs n P2 ∧ nbs (hl.set k (l.stored a 1 (fun _ => by' % 256))) = actF kd sz pk at' by' q P.freeN (nbs hl)) := by
    have e := HP5.out
    subst e
    exact ⟨⟨L.set k (lm.stored a 1 (fun _ => by' % 256)), rfl, keys_stored HH.out.1 HK.out.2.1 HK.out.1⟩, HH.out.2.2.1.setArn, HAF.out⟩
  clear HAF HP5
  generalize hl.set k (l.stored a 1 (fun _ => by' % 256)) = hl2 at A7 HEnd
  go_upto_region 29 with fail
  generalize World.setCell w5 _ _ = w6 at A7 ⊢
  have HR : Hid (w6.rangeAt C.hb 0 [.int .i64 (C.i : Int), .slice (some ⟨lg, 0, none⟩) hl.length vc, .slice (some ⟨ug, 0, none⟩) hl.length uc]) := range3 A7.out.cells.1 A7.out.cells.2.1 A7.out.cells.2.2
  have HB : Hid (w6.heap[C.rb]? = some (.cells #[.int .i64 0, .slice none 0 0, .slice none 0 0] 56 (0, 0))) := A7.out.br
  go_wp2_with (first
    | (refine wpList_load_mid rfl 56 _ rfl C.hb 0 rfl [.int .i64 (C.i : Int), .slice (some ⟨lg, 0, none⟩) hl.length vc, .slice (some ⟨ug, 0, none⟩) hl.length uc] _ HR.out Try.underlying56 rfl (by kernel_rfl) ?_)
    | (refine wpList_store_rowTo rfl 56 _ _ rfl rfl C.rb #[.int .i64 (C.i : Int), .slice (some ⟨lg, 0, none⟩) hl.length vc, .slice (some ⟨ug, 0, none⟩) hl.length uc] rfl rfl 56 _ HB.out (by kernel_rfl) rfl (by simp [Value.oneCell']) ?_))
  have fr := (Fr.refl C.rb w6).setRow (cs := #[.int .i64 (C.i : Int), .slice (some ⟨lg, 0, none⟩) hl.length vc, .slice (some ⟨ug, 0, none⟩) hl.length uc])
  refine bodyPost_ret (v := .tuple #[.agg _, .bool true]) (results_row_tmp Try.results23 _ _ _ 56 _ (0, 0) _ rfl (setRow_heap _ _ _ _ _ _ HB.out) Try.underlying56 rfl (by kernel_rfl)) rfl ?_
  exact ⟨_, _, hl2, P2, rfl, A7.out.done fr, HEnd.out⟩
end Go.Proofs.Yteijdcidemajfaa
/- Arena: acts: nothing is held. -/
namespace Go.Proofs.Yteijdcidemajfaa
open Go.RowKit
set_option linter.unusedVariables false
set_option linter.unusedSimpArgs false
variable {K K' O : Nat → Prop} {w w' W : World} {pb n : Nat} {P P' : Pl} {lv bv : Value} {ll bl hl L : List Loan} {C : Cx} {q : Int}
set_option maxRecDepth 100000 in
set_option maxHeartbeats 4000000 in
theorem acts_none2 {kd who sz pk at' by' : Int} (i1 : I64 kd) (i3 : I64 sz) (i4 : I64 pk) (i5 : I64 at') (i6 : I64 by') (eh : C.hb = C.w0.heap.size) (ea : C.ab = C.w0.heap.size + 1) (er : C.rb = C.w0.heap.size + 2) (ev : C.av = #[.int .i64 kd, .int .i64 who, .int .i64 sz, .int .i64 pk, .int .i64 at', .int .i64 by']) (hp : Pb C.W C.K0 C.pb P C.w0) (hh : Ht C.O0 C.w0 lv bv hl hl) (ho : ∀ b, C.O0 b → C.K0 b ∧ C.W.heap.size ≤ b) (ha : P.ars[C.i]? = some (some ⟨q, L⟩)) (hk : keys L = keys hl) (hc : Cs n P) (q0 : 0 ≤ q) (q1 : q ≤ 1000) (hop : ∀ j, j < C.i → ∃ b, P.ars[j]? = some (some b)) (hkd : pickI kd 8 = 2) (h0 : hl.length = 0) : Calls Try.prog 23 #[.pointer (some ⟨C.pb, 0, none⟩), .agg #[.int .i64 (C.i : Int), lv, bv], .agg C.av, .int .i64 q] C.w0 (Rs C n q P (actF kd sz pk at' by' q P.freeN (nbs hl))) := by
  have hl4 : hl.length ≤ 4096 := by rw [← keys_len hk]; exact hp.ok.loans ha
  have A0 := Ax.begin (i := C.i) (av := C.av) hp hh ho
  have A1 : Hid (Ax C P lv bv hl hl (((C.w0.alloc (.cells #[.int .i64 (C.i : Int), lv, bv] 56)).alloc (.cells C.av 60)).alloc (.cells #[.int .i64 0, .slice none 0 0, .slice none 0 0] 56))) := by
    have e : C = ⟨C.W, C.w0, C.K0, C.O0, C.pb, C.i, C.w0.heap.size, C.w0.heap.size + 1, C.w0.heap.size + 2, C.av⟩ := by
      cases C
      simp only at eh ea er
      subst eh ea er
      rfl
    rw [e]
    exact A0
  clear A0
  rw [ev] at A1
  rw [ev]
  obtain ⟨va, vn, vc, rfl⟩ := own_slice3 hh.lo
  obtain ⟨ua, un, uc, rfl⟩ := own_slice3 hh.bo
  obtain ⟨hvn, hvc1, hvc2⟩ : vn = hl.length ∧ vn ≤ vc ∧ vc ≤ 9223372036854775807 := by
    rcases own_cases hh.lo with ⟨hv, hn0, _⟩ | ⟨g, cap, hv, hc1, hm, _⟩
    · injection hv with _ e2 e3
      exact ⟨by omega, by omega, by omega⟩
    · injection hv with _ e2 e3
      unfold maxLen at hm
      exact ⟨e2, by omega, by omega⟩
  subst hvn
  obtain ⟨hun, huc1, huc2⟩ : un = hl.length ∧ un ≤ uc ∧ uc ≤ 9223372036854775807 := by
    rcases own_cases hh.bo with ⟨hv, hn0, _⟩ | ⟨g, cap, hv, hc1, hm, _⟩
    · injection hv with _ e2 e3
      exact ⟨by omega, by omega, by omega⟩
    · injection hv with _ e2 e3
      unfold maxLen at hm
      exact ⟨e2, by omega, by omega⟩
  subst hun
  have HK8 : Hid (∀ w, Calls Try.prog 11 #[.int .i64 kd, .int .i64 8] w fun e w' => e = .returned (.int .i64 (pickI kd 8)) ∧ w' = w) := fun w => pick_any kd 8 w i1 (by decide) (by decide)
  have HPk : Hid (0 < hl.length → ∀ w, Calls Try.prog 11 #[.int .i64 pk, .int .i64 (hl.length : Int)] w fun e w' => e = .returned (.int .i64 (pickI pk hl.length)) ∧ w' = w) := fun h0 w => pick_any pk hl.length w i4 (by omega) (by omega)
  have HH : Hid (keys L = keys hl ∧ P.ars[C.i]? = some (some ⟨q, L⟩) ∧ Cs n P ∧ (∀ j, j < C.i → ∃ b, P.ars[j]? = some (some b))) := ⟨hk, ha, hc, hop⟩
  have HE : Hid (C.hb = C.w0.heap.size ∧ C.ab = C.w0.heap.size + 1 ∧ C.rb = C.w0.heap.size + 2) := ⟨eh, ea, er⟩
  have HEv : Hid (C.av = #[.int .i64 kd, .int .i64 who, .int .i64 sz, .int .i64 pk, .int .i64 at', .int .i64 by']) := ev
  have HSz : Hid (∀ l ∈ hl, l.size ≤ 65536) := keys_le hk (fun l hl' => (hp.ok.size ha hl').2)
  clear hp hh ho hk ha hc hop eh ea er ev
  have HAF : Hid (nbs hl = actF kd sz pk at' by' q P.freeN (nbs hl)) := by
    show nbs hl = _
    have e : hl = [] := List.length_eq_zero_iff.1 h0
    rw [e]
    unfold actF
    rw [if_neg (by rw [hkd]; decide), if_pos (by rw [hkd]; decide)]
    rfl
  have e0n : (hl.length : Int) = 0 := by omega
  have HL0 : Hid (hl.length = 0) := h0
  clear h0
  go_enter Try.func23, Try.ntmps23
  go_upto_if 31 with fail
  rw [← HE.out.2.2, ← HE.out.2.1, ← HE.out.1]
  have HAc : Hid (∀ w : World, w.heap[C.ab]? = some (.cells C.av 60 (0, 0)) → w.cell? ⟨C.ab, 0, none⟩ = some (.int .i64 kd) ∧ w.cell? ⟨C.ab, 2, none⟩ = some (.int .i64 sz) ∧ w.cell? ⟨C.ab, 3, none⟩ = some (.int .i64 pk) ∧ w.cell? ⟨C.ab, 4, none⟩ = some (.int .i64 at') ∧ w.cell? ⟨C.ab, 5, none⟩ = some (.int .i64 by')) := fun w h => by
    rw [HEv.out] at h
    exact ⟨heap_cell h rfl, heap_cell h rfl, heap_cell h rfl, heap_cell h rfl, heap_cell h rfl⟩
  generalize World.alloc (World.alloc (World.alloc C.w0 _) _) _ = w1 at A1 ⊢
  go_cut [10] (fun s wx => w1 = wx ∧ ∃ k, s = .int .i64 k ∧ Hid (0 < hl.length → k = pickI pk hl.length))
  case first =>
    have kk3 := (HAc.out w1 A1.out.ba).2.2.1
    have kk1 := A1.out.cells.2.1
    by_cases h0 : 0 < hl.length
    · exact absurd h0 (by omega)
    · skip
      all_goals
        have e0 : ¬ (0 : Int) < (hl.length : Int) := by omega
        clear HK8 HH HE HEv
        go_wp2_with fail
        go_meet
        exact ⟨rfl, _, rfl, fun h => absurd h h0⟩
  case rest =>
  obtain ⟨hwx, KV, rfl, HKV⟩ := hcut
  subst hwx
  have kk0 := (HAc.out w1 A1.out.ba).1
  go_wp2_with fail
  refine (HK8.out _).mono ?_
  rintro e w' ⟨rfl, hw'⟩
  obtain rfl := hw'.symm
  clear HK8 kk0 HPk
  have kl1 := A1.out.cells.2.1
  have HR : Hid (w1.rangeAt C.hb 0 [.int .i64 (C.i : Int), .slice va hl.length vc, .slice ua hl.length uc]) := range3 A1.out.cells.1 A1.out.cells.2.1 A1.out.cells.2.2
  have HB : Hid (w1.heap[C.rb]? = some (.cells #[.int .i64 0, .slice none 0 0, .slice none 0 0] 56 (0, 0))) := A1.out.br
  go_wp2_with (first
    | (refine wpList_load_mid rfl 56 _ rfl C.hb 0 rfl [.int .i64 (C.i : Int), .slice va hl.length vc, .slice ua hl.length uc] _ HR.out Try.underlying56 rfl (by kernel_rfl) ?_)
    | (refine wpList_store_rowTo rfl 56 _ _ rfl rfl C.rb #[.int .i64 (C.i : Int), .slice va hl.length vc, .slice ua hl.length uc] rfl rfl 56 _ HB.out (by kernel_rfl) rfl (by simp [Value.oneCell']) ?_))
  have fr := (Fr.refl C.rb w1).setRow (cs := #[.int .i64 (C.i : Int), .slice va hl.length vc, .slice ua hl.length uc])
  refine bodyPost_ret (v := .tuple #[.agg _, .bool true]) (results_row_tmp Try.results23 _ _ _ 56 _ (0, 0) _ rfl (setRow_heap _ _ _ _ _ _ HB.out) Try.underlying56 rfl (by kernel_rfl)) rfl ?_
  exact ⟨_, _, hl, P, rfl, A1.out.done fr, ⟨L, (set_same HH.out.2.1).symm, HH.out.1⟩, HH.out.2.2.1, HAF.out⟩
set_option maxRecDepth 100000 in
set_option maxHeartbeats 4000000 in
theorem acts_none3 {kd who sz pk at' by' : Int} (i1 : I64 kd) (i3 : I64 sz) (i4 : I64 pk) (i5 : I64 at') (i6 : I64 by') (eh : C.hb = C.w0.heap.size) (ea : C.ab = C.w0.heap.size + 1) (er : C.rb = C.w0.heap.size + 2) (ev : C.av = #[.int .i64 kd, .int .i64 who, .int .i64 sz, .int .i64 pk, .int .i64 at', .int .i64 by']) (hp : Pb C.W C.K0 C.pb P C.w0) (hh : Ht C.O0 C.w0 lv bv hl hl) (ho : ∀ b, C.O0 b → C.K0 b ∧ C.W.heap.size ≤ b) (ha : P.ars[C.i]? = some (some ⟨q, L⟩)) (hk : keys L = keys hl) (hc : Cs n P) (q0 : 0 ≤ q) (q1 : q ≤ 1000) (hop : ∀ j, j < C.i → ∃ b, P.ars[j]? = some (some b)) (hkd : pickI kd 8 = 3) (h0 : hl.length = 0) : Calls Try.prog 23 #[.pointer (some ⟨C.pb, 0, none⟩), .agg #[.int .i64 (C.i : Int), lv, bv], .agg C.av, .int .i64 q] C.w0 (Rs C n q P (actF kd sz pk at' by' q P.freeN (nbs hl))) := by
  have hl4 : hl.length ≤ 4096 := by rw [← keys_len hk]; exact hp.ok.loans ha
  have A0 := Ax.begin (i := C.i) (av := C.av) hp hh ho
  have A1 : Hid (Ax C P lv bv hl hl (((C.w0.alloc (.cells #[.int .i64 (C.i : Int), lv, bv] 56)).alloc (.cells C.av 60)).alloc (.cells #[.int .i64 0, .slice none 0 0, .slice none 0 0] 56))) := by
    have e : C = ⟨C.W, C.w0, C.K0, C.O0, C.pb, C.i, C.w0.heap.size, C.w0.heap.size + 1, C.w0.heap.size + 2, C.av⟩ := by
      cases C
      simp only at eh ea er
      subst eh ea er
      rfl
    rw [e]
    exact A0
  clear A0
  rw [ev] at A1
  rw [ev]
  obtain ⟨va, vn, vc, rfl⟩ := own_slice3 hh.lo
  obtain ⟨ua, un, uc, rfl⟩ := own_slice3 hh.bo
  obtain ⟨hvn, hvc1, hvc2⟩ : vn = hl.length ∧ vn ≤ vc ∧ vc ≤ 9223372036854775807 := by
    rcases own_cases hh.lo with ⟨hv, hn0, _⟩ | ⟨g, cap, hv, hc1, hm, _⟩
    · injection hv with _ e2 e3
      exact ⟨by omega, by omega, by omega⟩
    · injection hv with _ e2 e3
      unfold maxLen at hm
      exact ⟨e2, by omega, by omega⟩
  subst hvn
  obtain ⟨hun, huc1, huc2⟩ : un = hl.length ∧ un ≤ uc ∧ uc ≤ 9223372036854775807 := by
    rcases own_cases hh.bo with ⟨hv, hn0, _⟩ | ⟨g, cap, hv, hc1, hm, _⟩
    · injection hv with _ e2 e3
      exact ⟨by omega, by omega, by omega⟩
    · injection hv with _ e2 e3
      unfold maxLen at hm
      exact ⟨e2, by omega, by omega⟩
  subst hun
  have HK8 : Hid (∀ w, Calls Try.prog 11 #[.int .i64 kd, .int .i64 8] w fun e w' => e = .returned (.int .i64 (pickI kd 8)) ∧ w' = w) := fun w => pick_any kd 8 w i1 (by decide) (by decide)
  have HPk : Hid (0 < hl.length → ∀ w, Calls Try.prog 11 #[.int .i64 pk, .int .i64 (hl.length : Int)] w fun e w' => e = .returned (.int .i64 (pickI pk hl.length)) ∧ w' = w) := fun h0 w => pick_any pk hl.length w i4 (by omega) (by omega)
  have HH : Hid (keys L = keys hl ∧ P.ars[C.i]? = some (some ⟨q, L⟩) ∧ Cs n P ∧ (∀ j, j < C.i → ∃ b, P.ars[j]? = some (some b))) := ⟨hk, ha, hc, hop⟩
  have HE : Hid (C.hb = C.w0.heap.size ∧ C.ab = C.w0.heap.size + 1 ∧ C.rb = C.w0.heap.size + 2) := ⟨eh, ea, er⟩
  have HEv : Hid (C.av = #[.int .i64 kd, .int .i64 who, .int .i64 sz, .int .i64 pk, .int .i64 at', .int .i64 by']) := ev
  have HSz : Hid (∀ l ∈ hl, l.size ≤ 65536) := keys_le hk (fun l hl' => (hp.ok.size ha hl').2)
  clear hp hh ho hk ha hc hop eh ea er ev
  have HAF : Hid (nbs hl = actF kd sz pk at' by' q P.freeN (nbs hl)) := by
    show nbs hl = _
    have e : hl = [] := List.length_eq_zero_iff.1 h0
    rw [e]
    unfold actF
    rw [if_neg (by rw [hkd]; decide), if_pos (by rw [hkd]; decide)]
    rfl
  have e0n : (hl.length : Int) = 0 := by omega
  have HL0 : Hid (hl.length = 0) := h0
  clear h0
  go_enter Try.func23, Try.ntmps23
  go_upto_if 31 with fail
  rw [← HE.out.2.2, ← HE.out.2.1, ← HE.out.1]
  have HAc : Hid (∀ w : World, w.heap[C.ab]? = some (.cells C.av 60 (0, 0)) → w.cell? ⟨C.ab, 0, none⟩ = some (.int .i64 kd) ∧ w.cell? ⟨C.ab, 2, none⟩ = some (.int .i64 sz) ∧ w.cell? ⟨C.ab, 3, none⟩ = some (.int .i64 pk) ∧ w.cell? ⟨C.ab, 4, none⟩ = some (.int .i64 at') ∧ w.cell? ⟨C.ab, 5, none⟩ = some (.int .i64 by')) := fun w h => by
    rw [HEv.out] at h
    exact ⟨heap_cell h rfl, heap_cell h rfl, heap_cell h rfl, heap_cell h rfl, heap_cell h rfl⟩
  generalize World.alloc (World.alloc (World.alloc C.w0 _) _) _ = w1 at A1 ⊢
  go_cut [10] (fun s wx => w1 = wx ∧ ∃ k, s = .int .i64 k ∧ Hid (0 < hl.length → k = pickI pk hl.length))
  case first =>
    have kk3 := (HAc.out w1 A1.out.ba).2.2.1
    have kk1 := A1.out.cells.2.1
    by_cases h0 : 0 < hl.length
    · exact absurd h0 (by omega)
    · skip
      all_goals
        have e0 : ¬ (0 : Int) < (hl.length : Int) := by omega
        clear HK8 HH HE HEv
        go_wp2_with fail
        go_meet
        exact ⟨rfl, _, rfl, fun h => absurd h h0⟩
  case rest =>
  obtain ⟨hwx, KV, rfl, HKV⟩ := hcut
  subst hwx
  have kk0 := (HAc.out w1 A1.out.ba).1
  go_wp2_with fail
  refine (HK8.out _).mono ?_
  rintro e w' ⟨rfl, hw'⟩
  obtain rfl := hw'.symm
  clear HK8 kk0 HPk
  have kl1 := A1.out.cells.2.1
  have HR : Hid (w1.rangeAt C.hb 0 [.int .i64 (C.i : Int), .slice va hl.length vc, .slice ua hl.length uc]) := range3 A1.out.cells.1 A1.out.cells.2.1 A1.out.cells.2.2
  have HB : Hid (w1.heap[C.rb]? = some (.cells #[.int .i64 0, .slice none 0 0, .slice none 0 0] 56 (0, 0))) := A1.out.br
  go_wp2_with (first
    | (refine wpList_load_mid rfl 56 _ rfl C.hb 0 rfl [.int .i64 (C.i : Int), .slice va hl.length vc, .slice ua hl.length uc] _ HR.out Try.underlying56 rfl (by kernel_rfl) ?_)
    | (refine wpList_store_rowTo rfl 56 _ _ rfl rfl C.rb #[.int .i64 (C.i : Int), .slice va hl.length vc, .slice ua hl.length uc] rfl rfl 56 _ HB.out (by kernel_rfl) rfl (by simp [Value.oneCell']) ?_))
  have fr := (Fr.refl C.rb w1).setRow (cs := #[.int .i64 (C.i : Int), .slice va hl.length vc, .slice ua hl.length uc])
  refine bodyPost_ret (v := .tuple #[.agg _, .bool true]) (results_row_tmp Try.results23 _ _ _ 56 _ (0, 0) _ rfl (setRow_heap _ _ _ _ _ _ HB.out) Try.underlying56 rfl (by kernel_rfl)) rfl ?_
  exact ⟨_, _, hl, P, rfl, A1.out.done fr, ⟨L, (set_same HH.out.2.1).symm, HH.out.1⟩, HH.out.2.2.1, HAF.out⟩
set_option maxRecDepth 100000 in
set_option maxHeartbeats 4000000 in
theorem acts_none4 {kd who sz pk at' by' : Int} (i1 : I64 kd) (i3 : I64 sz) (i4 : I64 pk) (i5 : I64 at') (i6 : I64 by') (eh : C.hb = C.w0.heap.size) (ea : C.ab = C.w0.heap.size + 1) (er : C.rb = C.w0.heap.size + 2) (ev : C.av = #[.int .i64 kd, .int .i64 who, .int .i64 sz, .int .i64 pk, .int .i64 at', .int .i64 by']) (hp : Pb C.W C.K0 C.pb P C.w0) (hh : Ht C.O0 C.w0 lv bv hl hl) (ho : ∀ b, C.O0 b → C.K0 b ∧ C.W.heap.size ≤ b) (ha : P.ars[C.i]? = some (some ⟨q, L⟩)) (hk : keys L = keys hl) (hc : Cs n P) (q0 : 0 ≤ q) (q1 : q ≤ 1000) (hop : ∀ j, j < C.i → ∃ b, P.ars[j]? = some (some b)) (hkd : pickI kd 8 = 4) (h0 : hl.length = 0) : Calls Try.prog 23 #[.pointer (some ⟨C.pb, 0, none⟩), .agg #[.int .i64 (C.i : Int), lv, bv], .agg C.av, .int .i64 q] C.w0 (Rs C n q P (actF kd sz pk at' by' q P.freeN (nbs hl))) := by
  have hl4 : hl.length ≤ 4096 := by rw [← keys_len hk]; exact hp.ok.loans ha
  have A0 := Ax.begin (i := C.i) (av := C.av) hp hh ho
  have A1 : Hid (Ax C P lv bv hl hl (((C.w0.alloc (.cells #[.int .i64 (C.i : Int), lv, bv] 56)).alloc (.cells C.av 60)).alloc (.cells #[.int .i64 0, .slice none 0 0, .slice none 0 0] 56))) := by
    have e : C = ⟨C.W, C.w0, C.K0, C.O0, C.pb, C.i, C.w0.heap.size, C.w0.heap.size + 1, C.w0.heap.size + 2, C.av⟩ := by
      cases C
      simp only at eh ea er
      subst eh ea er
      rfl
    rw [e]
    exact A0
  clear A0
  rw [ev] at A1
  rw [ev]
  obtain ⟨va, vn, vc, rfl⟩ := own_slice3 hh.lo
  obtain ⟨ua, un, uc, rfl⟩ := own_slice3 hh.bo
  obtain ⟨hvn, hvc1, hvc2⟩ : vn = hl.length ∧ vn ≤ vc ∧ vc ≤ 9223372036854775807 := by
    rcases own_cases hh.lo with ⟨hv, hn0, _⟩ | ⟨g, cap, hv, hc1, hm, _⟩
    · injection hv with _ e2 e3
      exact ⟨by omega, by omega, by omega⟩
    · injection hv with _ e2 e3
      unfold maxLen at hm
      exact ⟨e2, by omega, by omega⟩
  subst hvn
  obtain ⟨hun, huc1, huc2⟩ : un = hl.length ∧ un ≤ uc ∧ uc ≤ 9223372036854775807 := by
    rcases own_cases hh.bo with ⟨hv, hn0, _⟩ | ⟨g, cap, hv, hc1, hm, _⟩
    · injection hv with _ e2 e3
      exact ⟨by omega, by omega, by omega⟩
    · injection hv with _ e2 e3
      unfold maxLen at hm
      exact ⟨e2, by omega, by omega⟩
  subst hun
  have HK8 : Hid (∀ w, Calls Try.prog 11 #[.int .i64 kd, .int .i64 8] w fun e w' => e = .returned (.int .i64 (pickI kd 8)) ∧ w' = w) := fun w => pick_any kd 8 w i1 (by decide) (by decide)
  have HPk : Hid (0 < hl.length → ∀ w, Calls Try.prog 11 #[.int .i64 pk, .int .i64 (hl.length : Int)] w fun e w' => e = .returned (.int .i64 (pickI pk hl.length)) ∧ w' = w) := fun h0 w => pick_any pk hl.length w i4 (by omega) (by omega)
  have HH : Hid (keys L = keys hl ∧ P.ars[C.i]? = some (some ⟨q, L⟩) ∧ Cs n P ∧ (∀ j, j < C.i → ∃ b, P.ars[j]? = some (some b))) := ⟨hk, ha, hc, hop⟩
  have HE : Hid (C.hb = C.w0.heap.size ∧ C.ab = C.w0.heap.size + 1 ∧ C.rb = C.w0.heap.size + 2) := ⟨eh, ea, er⟩
  have HEv : Hid (C.av = #[.int .i64 kd, .int .i64 who, .int .i64 sz, .int .i64 pk, .int .i64 at', .int .i64 by']) := ev
  have HSz : Hid (∀ l ∈ hl, l.size ≤ 65536) := keys_le hk (fun l hl' => (hp.ok.size ha hl').2)
  clear hp hh ho hk ha hc hop eh ea er ev
  have HAF : Hid (nbs hl = actF kd sz pk at' by' q P.freeN (nbs hl)) := by
    show nbs hl = _
    have e : hl = [] := List.length_eq_zero_iff.1 h0
    rw [e]
    unfold actF
    rw [if_neg (by rw [hkd]; decide), if_neg (by rw [hkd]; decide), if_pos hkd]
    rfl
  have e0n : (hl.length : Int) = 0 := by omega
  have HL0 : Hid (hl.length = 0) := h0
  clear h0
  go_enter Try.func23, Try.ntmps23
  go_upto_if 31 with fail
  rw [← HE.out.2.2, ← HE.out.2.1, ← HE.out.1]
  have HAc : Hid (∀ w : World, w.heap[C.ab]? = some (.cells C.av 60 (0, 0)) → w.cell? ⟨C.ab, 0, none⟩ = some (.int .i64 kd) ∧ w.cell? ⟨C.ab, 2, none⟩ = some (.int .i64 sz) ∧ w.cell? ⟨C.ab, 3, none⟩ = some (.int .i64 pk) ∧ w.cell? ⟨C.ab, 4, none⟩ = some (.int .i64 at') ∧ w.cell? ⟨C.ab, 5, none⟩ = some (.int .i64 by')) := fun w h => by
    rw [HEv.out] at h
    exact ⟨heap_cell h rfl, heap_cell h rfl, heap_cell h rfl, heap_cell h rfl, heap_cell h rfl⟩
  generalize World.alloc (World.alloc (World.alloc C.w0 _) _) _ = w1 at A1 ⊢
  go_cut [10] (fun s wx => w1 = wx ∧ ∃ k, s = .int .i64 k ∧ Hid (0 < hl.length → k = pickI pk hl.length))
  case first =>
    have kk3 := (HAc.out w1 A1.out.ba).2.2.1
    have kk1 := A1.out.cells.2.1
    by_cases h0 : 0 < hl.length
    · exact absurd h0 (by omega)
    · skip
      all_goals
        have e0 : ¬ (0 : Int) < (hl.length : Int) := by omega
        clear HK8 HH HE HEv
        go_wp2_with fail
        go_meet
        exact ⟨rfl, _, rfl, fun h => absurd h h0⟩
  case rest =>
  obtain ⟨hwx, KV, rfl, HKV⟩ := hcut
  subst hwx
  have kk0 := (HAc.out w1 A1.out.ba).1
  go_wp2_with fail
  refine (HK8.out _).mono ?_
  rintro e w' ⟨rfl, hw'⟩
  obtain rfl := hw'.symm
  clear HK8 kk0 HPk
  have kl1 := A1.out.cells.2.1
  have HR : Hid (w1.rangeAt C.hb 0 [.int .i64 (C.i : Int), .slice va hl.length vc, .slice ua hl.length uc]) := range3 A1.out.cells.1 A1.out.cells.2.1 A1.out.cells.2.2
  have HB : Hid (w1.heap[C.rb]? = some (.cells #[.int .i64 0, .slice none 0 0, .slice none 0 0] 56 (0, 0))) := A1.out.br
  go_wp2_with (first
    | (refine wpList_load_mid rfl 56 _ rfl C.hb 0 rfl [.int .i64 (C.i : Int), .slice va hl.length vc, .slice ua hl.length uc] _ HR.out Try.underlying56 rfl (by kernel_rfl) ?_)
    | (refine wpList_store_rowTo rfl 56 _ _ rfl rfl C.rb #[.int .i64 (C.i : Int), .slice va hl.length vc, .slice ua hl.length uc] rfl rfl 56 _ HB.out (by kernel_rfl) rfl (by simp [Value.oneCell']) ?_))
  have fr := (Fr.refl C.rb w1).setRow (cs := #[.int .i64 (C.i : Int), .slice va hl.length vc, .slice ua hl.length uc])
  refine bodyPost_ret (v := .tuple #[.agg _, .bool true]) (results_row_tmp Try.results23 _ _ _ 56 _ (0, 0) _ rfl (setRow_heap _ _ _ _ _ _ HB.out) Try.underlying56 rfl (by kernel_rfl)) rfl ?_
  exact ⟨_, _, hl, P, rfl, A1.out.done fr, ⟨L, (set_same HH.out.2.1).symm, HH.out.1⟩, HH.out.2.2.1, HAF.out⟩
end Go.Proofs.Yteijdcidemajfaa
