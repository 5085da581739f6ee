/- Arena: acts: a take. -/
import Derived.Test.YteijdcidemajfaaAtH
import Derived.Deep.DeepCutAuto
namespace Go.Proofs.Yteijdcidemajfaa
open Go.RowKit
set_option linter.unusedVariables false
set_option linter.unusedSimpArgs false
variable {K K' O : Nat → Prop} {w w' W : World} {pb n : Nat} {P P' : Pl} {lv bv : Value} {ll bl hl L : List Loan} {C : Cx} {q : Int}
set_option maxRecDepth 100000 in
set_option maxHeartbeats 4000000 in
theorem acts_take1 {kd who sz pk at' by' : Int} (i1 : I64 kd) (i3 : I64 sz) (i4 : I64 pk) (i5 : I64 at') (i6 : I64 by') (eh : C.hb = C.w0.heap.size) (ea : C.ab = C.w0.heap.size + 1) (er : C.rb = C.w0.heap.size + 2) (ev : C.av = #[.int .i64 kd, .int .i64 who, .int .i64 sz, .int .i64 pk, .int .i64 at', .int .i64 by']) (hp : Pb C.W C.K0 C.pb P C.w0) (hh : Ht C.O0 C.w0 lv bv hl hl) (ho : ∀ b, C.O0 b → C.K0 b ∧ C.W.heap.size ≤ b) (ha : P.ars[C.i]? = some (some ⟨q, L⟩)) (hk : keys L = keys hl) (hc : Cs n P) (q0 : 0 ≤ q) (q1 : q ≤ 1000) (hop : ∀ j, j < C.i → ∃ b, P.ars[j]? = some (some b)) (hkd : pickI kd 8 = 1) (hqu : (sizes hl : Int) + (hasOf (1 + pickI sz 16) : Int) ≤ q) (hfr : ¬ P.freeN (clsOf (1 + pickI sz 16)) = 0) : Calls Try.prog 23 #[.pointer (some ⟨C.pb, 0, none⟩), .agg #[.int .i64 (C.i : Int), lv, bv], .agg C.av, .int .i64 q] C.w0 (Rs C n q P (actF kd sz pk at' by' q P.freeN (nbs hl))) := by
  have hl4 : hl.length ≤ 4096 := by rw [← keys_len hk]; exact hp.ok.loans ha
  have A0 := Ax.begin (i := C.i) (av := C.av) hp hh ho
  have A1 : Hid (Ax C P lv bv hl hl (((C.w0.alloc (.cells #[.int .i64 (C.i : Int), lv, bv] 56)).alloc (.cells C.av 60)).alloc (.cells #[.int .i64 0, .slice none 0 0, .slice none 0 0] 56))) := by
    have e : C = ⟨C.W, C.w0, C.K0, C.O0, C.pb, C.i, C.w0.heap.size, C.w0.heap.size + 1, C.w0.heap.size + 2, C.av⟩ := by
      cases C
      simp only at eh ea er
      subst eh ea er
      rfl
    rw [e]
    exact A0
  clear A0
  rw [ev] at A1
  rw [ev]
  obtain ⟨va, vn, vc, rfl⟩ := own_slice3 hh.lo
  obtain ⟨ua, un, uc, rfl⟩ := own_slice3 hh.bo
  obtain ⟨hvn, hvc1, hvc2⟩ : vn = hl.length ∧ vn ≤ vc ∧ vc ≤ 9223372036854775807 := by
    rcases own_cases hh.lo with ⟨hv, hn0, _⟩ | ⟨g, cap, hv, hc1, hm, _⟩
    · injection hv with _ e2 e3
      exact ⟨by omega, by omega, by omega⟩
    · injection hv with _ e2 e3
      unfold maxLen at hm
      exact ⟨e2, by omega, by omega⟩
  subst hvn
  obtain ⟨hun, huc1, huc2⟩ : un = hl.length ∧ un ≤ uc ∧ uc ≤ 9223372036854775807 := by
    rcases own_cases hh.bo with ⟨hv, hn0, _⟩ | ⟨g, cap, hv, hc1, hm, _⟩
    · injection hv with _ e2 e3
      exact ⟨by omega, by omega, by omega⟩
    · injection hv with _ e2 e3
      unfold maxLen at hm
      exact ⟨e2, by omega, by omega⟩
  subst hun
  have HK8 : Hid (∀ w, Calls Try.prog 11 #[.int .i64 kd, .int .i64 8] w fun e w' => e = .returned (.int .i64 (pickI kd 8)) ∧ w' = w) := fun w => pick_any kd 8 w i1 (by decide) (by decide)
  have HPk : Hid (0 < hl.length → ∀ w, Calls Try.prog 11 #[.int .i64 pk, .int .i64 (hl.length : Int)] w fun e w' => e = .returned (.int .i64 (pickI pk hl.length)) ∧ w' = w) := fun h0 w => pick_any pk hl.length w i4 (by omega) (by omega)
  have HH : Hid (keys L = keys hl ∧ P.ars[C.i]? = some (some ⟨q, L⟩) ∧ Cs n P ∧ (∀ j, j < C.i → ∃ b, P.ars[j]? = some (some b))) := ⟨hk, ha, hc, hop⟩
  have HE : Hid (C.hb = C.w0.heap.size ∧ C.ab = C.w0.heap.size + 1 ∧ C.rb = C.w0.heap.size + 2) := ⟨eh, ea, er⟩
  have HEv : Hid (C.av = #[.int .i64 kd, .int .i64 who, .int .i64 sz, .int .i64 pk, .int .i64 at', .int .i64 by']) := ev
  have HSz : Hid (∀ l ∈ hl, l.size ≤ 65536) := keys_le hk (fun l hl' => (hp.ok.size ha hl').2)
  clear hp hh ho hk ha hc hop eh ea er ev
  have HAF : Hid (actF kd sz pk at' by' q P.freeN (nbs hl) = nbs hl ++ [((clsOf (1 + pickI sz 16), hasOf (1 + pickI sz 16), (fun _ => (0 : Int))) : NB)]) := by
    show actF kd sz pk at' by' q P.freeN (nbs hl) = _
    unfold actF
    rw [if_pos (by rw [hkd]; decide), nbSize_nbs, if_neg (by omega), if_neg hfr]
  have HP16 : Hid (∀ w, Calls Try.prog 11 #[.int .i64 sz, .int .i64 16] w fun e w' => e = .returned (.int .i64 (pickI sz 16)) ∧ w' = w) := fun w => pick_any sz 16 w i3 (by decide) (by decide)
  have s1 := pickI_lo sz 16 (by decide)
  have s2 := pickI_hi sz 16 (by decide)
  obtain ⟨SI, eS⟩ : ∃ SI, 1 + pickI sz 16 = SI := ⟨_, rfl⟩
  have s3 : 1 ≤ SI := by omega
  have s4 : SI ≤ 16 := by omega
  obtain ⟨hcf, X, hX, hXs⟩ := HH.out.2.2.1.class s3 s4
  rw [eS] at HAF hqu hfr
  obtain ⟨c, hcE⟩ : ∃ c, clsOf SI = c := ⟨_, rfl⟩
  obtain ⟨has, hhE⟩ : ∃ h, hasOf SI = h := ⟨_, rfl⟩
  have HC0 : Hid ((4 < SI → c = 1 ∧ has = 16) ∧ (¬ 4 < SI → c = 0 ∧ has = 4)) := by
    refine ⟨fun h => ⟨?_, ?_⟩, fun h => ⟨?_, ?_⟩⟩
    · rw [← hcE]; unfold clsOf; rw [if_pos h]
    · rw [← hhE]; unfold hasOf; rw [if_pos h]
    · rw [← hcE]; unfold clsOf; rw [if_neg h]
    · rw [← hhE]; unfold hasOf; rw [if_neg h]
  have hc2 : c ≤ 1 := by rw [← hcE]; unfold clsOf; split <;> omega
  have hh2 : has ≤ 16 := by rw [← hhE]; unfold hasOf; split <;> omega
  have hh1 : 4 ≤ has := by rw [← hhE]; unfold hasOf; split <;> omega
  rw [hcE] at hcf hX HAF hfr
  rw [hhE] at hXs HAF hqu
  clear hcE hhE
  have HX : Hid (P.classFor SI = c ∧ P.cls[c]? = some X ∧ X.size = has) := ⟨hcf, hX, hXs⟩
  clear hcf hX hXs
  have HFr : Hid (∀ w, Ax C P (.slice va hl.length vc) (.slice ua hl.length uc) hl hl w → Calls Try.prog 25 #[.pointer (some ⟨C.pb, 0, none⟩), .int .i64 (c : Int)] w fun e w' => ∃ v, e = .returned v ∧ w'.ownsRow w.heap.size 3 1 v X.free.length (nums X.free) ∧ Up w w') := fun w h => by
    obtain ⟨K, O, h1, _⟩ := h.at'
    obtain ⟨R, A, hp⟩ := h1.at'
    exact free_new hp h1.ok HX.out.2.1
  have hfl : X.free.length ≤ 512 := by
    obtain ⟨K, O, h1, _⟩ := A1.out.at'
    have h3 := (h1.ok.pm c X HX.out.2.1).length_eq
    have h4 := (h1.ok.my c X HX.out.2.1).1
    rw [List.length_append, List.length_range'] at h3
    omega
  have hsz : sizes hl ≤ 65536 * 4096 := by
    have := sizes_le (ls := hl) HSz.out
    have h2 : 65536 * hl.length ≤ 65536 * 4096 := Nat.mul_le_mul_left _ hl4
    omega
  have HSL : Hid (sizes L = sizes hl) := keys_sizes HH.out.1
  have hfl0 : 0 < X.free.length := by
    unfold Pl.freeN at hfr
    rw [HX.out.2.1] at hfr
    have hfr : ¬ X.free.length = 0 := hfr
    omega
  have r1 := pickI_lo pk X.free.length (by omega)
  have r2 := pickI_hi pk X.free.length (by omega)
  obtain ⟨r, hr⟩ := Int.eq_ofNat_of_zero_le r1
  have hrl : r < X.free.length := by omega
  obtain ⟨buf, hbuf⟩ : ∃ b, X.free[r]? = some b := ⟨_, List.getElem?_eq_getElem hrl⟩
  have HPr : Hid (∀ w, Calls Try.prog 11 #[.int .i64 pk, .int .i64 (X.free.length : Int)] w fun e w' => e = .returned (.int .i64 (r : Int)) ∧ w' = w) := fun w => by
    have := pick_any pk X.free.length w i4 (by omega) (by omega)
    rw [hr] at this
    exact this
  have HTk : Hid (∀ w1 w, Ax C P (.slice va hl.length vc) (.slice ua hl.length uc) hl hl w1 → Up w1 w → Calls Try.prog 15 #[.pointer (some ⟨C.pb, 0, none⟩), .int .i64 (C.i : Int), .int .i64 SI, .int .i64 pk] w fun e w' => ∃ P2, (e = .returned (.tuple #[.agg #[.int .i64 (buf : Int), .int .i64 (c : Int), .int .i64 (has : Int)], .int .i64 0]) ∧ ∃ blk, P2 = P.taken C.i ⟨q, L⟩ c X r ⟨buf, c, X.size, blk, fun _ => 0⟩) ∧ Ax C P2 (.slice va hl.length vc) (.slice ua hl.length uc) hl hl w' ∧ ∀ b, w1.heap.size ≤ b → b < w.heap.size → w'.heap[b]? = w.heap[b]?) := fun w1 w h u => h.poolN u (fun K hp => by
    have := hp.take (size := SI) (pk := pk) (show I64 SI from ⟨by omega, by omega⟩) i4 HH.out.2.1 (show I64 q from ⟨by omega, by omega⟩) s3 HX.out.1 HX.out.2.1 (by rw [HX.out.2.2]; show (sizes L : Int) + _ ≤ q; rw [HSL.out]; exact hqu) hr hbuf
    rw [HX.out.2.2] at this
    refine this.mono fun e w' ⟨g1, ⟨blk, g2⟩, g3⟩ => ⟨⟨_, ⟨g1, blk, ?_⟩, g2⟩, g3⟩
    rw [HX.out.2.2])
  have HEnd : Hid (∀ P2, (∃ blk, P2 = P.taken C.i ⟨q, L⟩ c X r ⟨buf, c, X.size, blk, fun _ => 0⟩) → ∀ zb, (∃ L', P2.ars = P.ars.set C.i (some ⟨q, L'⟩) ∧ keys L' = keys (hl ++ [⟨buf, c, has, zb, fun _ => 0⟩])) ∧ Cs n P2 ∧ nbs (hl ++ [⟨buf, c, has, zb, fun _ => 0⟩]) = actF kd sz pk at' by' q P.freeN (nbs hl)) := by
    rintro P2 ⟨blk, rfl⟩ zb
    refine ⟨⟨L ++ [⟨buf, c, X.size, blk, fun _ => 0⟩], rfl, keys_snoc HH.out.1 ?_⟩, (HH.out.2.2.1.setFree HX.out.2.1 _).setArn, ?_⟩
    · show (buf, c, X.size, _) = (buf, c, has, _)
      rw [HX.out.2.2]
    · rw [HAF.out]
      unfold nbs
      rw [List.map_append]
      rfl
  have HBu : Hid (X.free[r]? = some buf) := hbuf
  have hie : Try.prog.info? 38 = some Try.t38 := by kernel_rfl
  have hie2 : Try.prog.info? 45 = some Try.t45 := by kernel_rfl
  have HZ : Hid (∀ w : World, Calls Try.prog 21 #[.int .i64 (has : Int)] w fun e w' => ∃ g, e = .returned (.slice (some ⟨g, 0, none⟩) has has) ∧ w.heap.size ≤ g ∧ NmAt w' g has (fun _ => 0) ∧ Up w w') := fun w => zeros_any (by omega) w
  have ecc : ((c : Int) == (c : Int)) = true := by simp
  have ehh : ((has : Int) == (has : Int)) = true := by simp
  have ebb : ((buf : Int) == (buf : Int)) = true := by simp
  have d1 : ¬ q < (sizes hl : Int) + (has : Int) := by omega
  have d2 : ¬ (X.free.length : Int) = 0 := by omega
  have d3 : (r : Int) < (X.free.length : Int) := by omega
  clear hfr r1 r2 hr hbuf HAF
  go_enter Try.func23, Try.ntmps23
  go_upto_if 31 with fail
  rw [← HE.out.2.2, ← HE.out.2.1, ← HE.out.1]
  have HAc : Hid (∀ w : World, w.heap[C.ab]? = some (.cells C.av 60 (0, 0)) → w.cell? ⟨C.ab, 0, none⟩ = some (.int .i64 kd) ∧ w.cell? ⟨C.ab, 2, none⟩ = some (.int .i64 sz) ∧ w.cell? ⟨C.ab, 3, none⟩ = some (.int .i64 pk) ∧ w.cell? ⟨C.ab, 4, none⟩ = some (.int .i64 at') ∧ w.cell? ⟨C.ab, 5, none⟩ = some (.int .i64 by')) := fun w h => by
    rw [HEv.out] at h
    exact ⟨heap_cell h rfl, heap_cell h rfl, heap_cell h rfl, heap_cell h rfl, heap_cell h rfl⟩
  generalize World.alloc (World.alloc (World.alloc C.w0 _) _) _ = w1 at A1 ⊢
  go_cut [10] (fun s wx => w1 = wx ∧ ∃ k, s = .int .i64 k ∧ Hid (0 < hl.length → k = pickI pk hl.length))
  case first =>
    have kk3 := (HAc.out w1 A1.out.ba).2.2.1
    have kk1 := A1.out.cells.2.1
    by_cases h0 : 0 < hl.length
    · have e0 : (0 : Int) < (hl.length : Int) := by omega
      clear HK8 HH HE HEv
      go_wp2_with fail
      refine (HPk.out h0 _).mono ?_
      rintro e w' ⟨rfl, hw'⟩
      obtain rfl := hw'.symm
      go_wp2_with fail
      go_meet
      exact ⟨rfl, _, rfl, fun _ => rfl⟩
    · try (exfalso; omega)
      all_goals
        have e0 : ¬ (0 : Int) < (hl.length : Int) := by omega
        clear HK8 HH HE HEv
        go_wp2_with fail
        go_meet
        exact ⟨rfl, _, rfl, fun h => absurd h h0⟩
  case rest =>
  obtain ⟨hwx, KV, rfl, HKV⟩ := hcut
  subst hwx
  have kk0 := (HAc.out w1 A1.out.ba).1
  go_wp2_with fail
  refine (HK8.out _).mono ?_
  rintro e w' ⟨rfl, hw'⟩
  obtain rfl := hw'.symm
  clear HK8 kk0 HPk
  have ks := (HAc.out w1 A1.out.ba).2.1
  go_wp2_with fail
  refine (HP16.out _).mono ?_
  rintro e w' ⟨rfl, hw'⟩
  obtain rfl := hw'.symm
  clear HP16 ks HKV HE HEv
  go_upto_if 49 with fail
  go_cut [12, 13] (fun x y wx => w1 = wx ∧ x = .int .i64 (c : Int) ∧ y = .int .i64 (has : Int))
  case first =>
    clear HFr HH HX A1 HAc HSz HTk HSL HEnd HPr HZ HBu
    by_cases h4 : 4 < SI
    · obtain ⟨e1, e2⟩ := HC0.out.1 (by omega)
      clear HC0
      go_wp2_with fail
      go_meet
      exact ⟨rfl, by rw [e1]; rfl, by rw [e2]; rfl⟩
    · obtain ⟨e1, e2⟩ := HC0.out.2 (by omega)
      clear HC0
      go_wp2_with fail
      go_meet
      exact ⟨rfl, by rw [e1]; rfl, by rw [e2]; rfl⟩
  case rest =>
  obtain ⟨hwx, rfl, rfl⟩ := hcut
  subst hwx
  clear HC0
  go_wp2_with fail
  refine (HFr.out w1 A1.out).mono ?_
  rintro e w2 ⟨fv, rfl, o2, u2⟩
  obtain ⟨fa, fn, fc, rfl⟩ := own_slice3 o2
  obtain ⟨hfn, hfc1, hfc2⟩ : fn = X.free.length ∧ fn ≤ fc ∧ fc ≤ 9223372036854775807 := by
    rcases own_cases o2 with ⟨hv, hn0, _⟩ | ⟨g, cap, hv, hc1, hm, _⟩
    · injection hv with _ e2 e3
      exact ⟨by omega, by omega, by omega⟩
    · injection hv with _ e2 e3
      unfold maxLen at hm
      exact ⟨e2, by omega, by omega⟩
  subst hfn
  have A2 : Hid (Ax C P (.slice va hl.length vc) (.slice ua hl.length uc) hl hl w1 ∧ Up w1 w2 ∧ w2.ownsRow w1.heap.size 3 1 (.slice fa X.free.length fc) X.free.length (nums X.free)) := ⟨A1.out, u2, o2⟩
  clear o2 u2 A1 HFr
  have kh0 := (A2.out.1.more A2.out.2.1).cells.1
  have kp := (HAc.out w2 (A2.out.1.more A2.out.2.1).ba).2.2.1
  go_wp2_with fail
  refine (HTk.out w1 w2 A2.out.1 A2.out.2.1).mono ?_
  rintro e w3 ⟨P2, ⟨rfl, hP2⟩, a3, hkeep⟩
  have HP2 : Hid (∃ blk, P2 = P.taken C.i ⟨q, L⟩ c X r ⟨buf, c, X.size, blk, fun _ => 0⟩) := hP2
  have A3 : Hid (Ax C P2 (.slice va hl.length vc) (.slice ua hl.length uc) hl hl w3 ∧ w3.ownsRow 0 3 1 (.slice fa X.free.length fc) X.free.length (nums X.free)) := ⟨a3, own_zero (ownsRow_block A2.out.2.2 (fun b hb => hkeep b (own_lt0 A2.out.2.2 hb).1 (own_lt0 A2.out.2.2 hb).2))⟩
  clear hP2 a3 hkeep kh0 kp HTk A2
  have HRx : Hid (∀ o : Obj, (w3.alloc o).rangeAt C.hb 0 [.int .i64 (C.i : Int), .slice va hl.length vc, .slice ua hl.length uc]) := fun o => by
    have := A3.out.1.more ((Up.refl w3).alloc o)
    exact range3 this.cells.1 this.cells.2.1 this.cells.2.2
  have HSx : Hid (∀ o : Obj, _) := fun o => (A3.out.1.more ((Up.refl w3).alloc o)).size HSz.out hl4
  have HAx : Hid (∀ w', Up (w3.alloc (Obj.cells #[.int .i64 (buf : Int), .int .i64 (c : Int), .int .i64 (has : Int)] 38)) w' → Ax C P2 (.slice va hl.length vc) (.slice ua hl.length uc) hl hl w' ∧ Be w3.heap.size X.free (.slice fa X.free.length fc) buf c has w') := fun w' u => ⟨A3.out.1.more (((Up.refl w3).alloc _).trans u), Be.up ⟨heap_alloc_new w3 _, A3.out.2.alloc _⟩ u⟩
  have HXB : Hid (Value.ownBlock (.slice va hl.length vc) ≠ some w3.heap.size ∧ w3.heap.size ≠ C.hb) := ⟨fun e => by have := (own_lt0 A3.out.1.rowsOf.1 e).2; omega, fun e => by have := heap_at A3.out.1.bh; omega⟩
  clear A3
  go_wp2_with (refine wpList_load_mid rfl 56 _ rfl C.hb 0 rfl [.int .i64 (C.i : Int), .slice va hl.length vc, .slice ua hl.length uc] _ (HRx.out _) Try.underlying56 rfl (by kernel_rfl) ?_)
  refine (HSx.out _).mono ?_
  rintro e w4 ⟨rfl, u4⟩
  have A4 : Hid (Ax C P2 (.slice va hl.length vc) (.slice ua hl.length uc) hl hl w4 ∧ Be w3.heap.size X.free (.slice fa X.free.length fc) buf c has w4) := HAx.out _ u4
  clear u4 HRx HSx HAx HSz
  generalize w3.heap.size = xb at A4 HXB ⊢
  have kl4 := A4.out.1.cells.2.1
  have HRb : Hid (w4.rangeAt xb 0 [.int .i64 (buf : Int), .int .i64 (c : Int), .int .i64 (has : Int)]) := range3 (heap_cell A4.out.2.x rfl) (heap_cell A4.out.2.x rfl) (heap_cell A4.out.2.x rfl)
  have HO4 : Hid ((w4.alloc (Obj.cells #[.int .i64 (buf : Int), .int .i64 (c : Int), .int .i64 (has : Int)] 38)).ownsRow 0 38 3 (.slice va hl.length vc) hl.length (leaseCells hl)) := A4.out.1.rowsOf.1.alloc _
  have HN4 : Hid (∀ j u, ([.int .i64 (buf : Int), .int .i64 (c : Int), .int .i64 (has : Int)] : List Value)[j]? = some u → (w4.alloc (Obj.cells #[.int .i64 (buf : Int), .int .i64 (c : Int), .int .i64 (has : Int)] 38)).cell? ((⟨w4.heap.size, 0, none⟩ : Addr).add j) = some u) := fun j u hu => by
    rw [Addr.add_lit, Nat.zero_add, cell_of_row _ _ _ _ _ _ (heap_alloc_new w4 _)]
    simpa using hu
  have HX4 : Hid (∀ u ∈ ([.int .i64 (buf : Int), .int .i64 (c : Int), .int .i64 (has : Int)] : List Value), u.oneCell' = true) := fun u hu => by
    simp at hu
    rcases hu with rfl | rfl | rfl <;> rfl
  have HA5 : Hid (∀ v' w5, w5.ownsRow 0 38 3 v' (hl.length + 1) (leaseCells hl ++ [.int .i64 (buf : Int), .int .i64 (c : Int), .int .i64 (has : Int)]) → (w4.alloc (Obj.cells #[.int .i64 (buf : Int), .int .i64 (c : Int), .int .i64 (has : Int)] 38)).grownBy w5 (Value.ownBlock (.slice va hl.length vc)) → (v'.ownBlock = Value.ownBlock (.slice va hl.length vc) ∨ v'.ownBlock = some (w4.alloc (Obj.cells #[.int .i64 (buf : Int), .int .i64 (c : Int), .int .i64 (has : Int)] 38)).heap.size) → Ax C P2 v' (.slice ua hl.length uc) (hl ++ [⟨buf, c, has, 0, fun _ => 0⟩]) hl (w5.setCell ⟨C.hb, 1, none⟩ v') ∧ Be xb X.free (.slice fa X.free.length fc) buf c has (w5.setCell ⟨C.hb, 1, none⟩ v') ∧ w5.cell? ⟨C.hb, 1, none⟩ = some (.slice va hl.length vc) ∧ w5.frozen? ⟨C.hb, 1, none⟩ = false) := fun v' w5 h1 h2 h3 => by
    have hs5 : w5.heap[C.hb]? = w4.heap[C.hb]? := (h2.block C.hb (Nat.lt_of_lt_of_le (heap_at A4.out.1.bh) ((Up.refl w4).alloc _).size) (fun e => A4.out.1.nob.1 _ e.symm rfl)).trans (((Up.refl w4).alloc _).block C.hb (heap_at A4.out.1.bh))
    have hs6 := hs5.trans A4.out.1.bh
    exact ⟨A4.out.1.lease (x := ⟨buf, c, has, 0, fun _ => 0⟩) h1 h2 h3, A4.out.2.lease A4.out.1 HXB.out.1 HXB.out.2 h2, heap_cell hs6 rfl, heap_fz hs6⟩
  clear A4
  go_wp2_with (first
    | (refine wpList_load_mid rfl 38 _ rfl xb 0 rfl [.int .i64 (buf : Int), .int .i64 (c : Int), .int .i64 (has : Int)] _ HRb.out Try.underlying38 rfl (by kernel_rfl) ?_)
    | (at_builtin
       refine wpList_append_own_at2 _ rfl _ _ 41 41 rfl 0 38 Try.t38 (.agg #[.int .i64 0, .int .i64 0, .int .i64 0]) 3 24 Try.underlying41 Try.underlying41 hie rfl rfl rfl rfl (by decide) (.slice va hl.length vc) hl.length (leaseCells hl) rfl HO4.out ⟨w4.heap.size, 0, none⟩ 1 1 [.int .i64 (buf : Int), .int .i64 (c : Int), .int .i64 (has : Int)] rfl rfl HN4.out HX4.out (by unfold maxLen; omega) (by omega) (Nat.zero_le _) ?_
       intro v' w5 hown hgrow hat
       obtain ⟨vb, vm, vd, rfl⟩ := own_slice3 hown
       have A5 : Hid _ := HA5.out _ w5 hown hgrow hat
       have kb5 := A5.out.2.2.1
       have kz5 := A5.out.2.2.2
       clear hown hgrow hat HA5 HN4 HX4 HO4 HRb kl4))
  have A6 : Hid (Ax C P2 (.slice vb vm vd) (.slice ua hl.length uc) (hl ++ [⟨buf, c, has, 0, fun _ => 0⟩]) hl (w5.setCell ⟨C.hb, 1, none⟩ (.slice vb vm vd)) ∧ Be xb X.free (.slice fa X.free.length fc) buf c has (w5.setCell ⟨C.hb, 1, none⟩ (.slice vb vm vd))) := ⟨A5.out.1, A5.out.2.1⟩
  clear A5 kb5 kz5
  generalize World.setCell w5 _ _ = w6 at A6 ⊢
  go_cut [9] (fun s wx => s = .bool false ∧ ∃ ub um ud zb, Hid (Ax C P2 (.slice vb vm vd) (.slice ub um ud) (hl ++ [⟨buf, c, has, 0, fun _ => 0⟩]) (hl ++ [⟨buf, c, has, zb, fun _ => 0⟩]) wx ∧ Be xb X.free (.slice fa X.free.length fc) buf c has wx))
  case first =>
    clear HPr HEnd HP2 HAc HH HX HSL HBu
    have HKB : Hid (∀ w, Up w6 w → w.cell? ⟨C.hb, 2, none⟩ = some (.slice ua hl.length uc)) := fun w u => (A6.out.1.more u).cells.2.2
    refine wp_region_held_drew (S := fun _ => True) (by kernel_rfl) ?_ (fun hHeld => ?_)
    · trivial
    have u6 : Up w6 w6.drew := (Up.refl w6).drew
    generalize World.drew w6 = wd at u6 ⊢
    refine wpAnyH_take (i := 0) (v := ?_) (by simp only [List.getElem?_toArray, List.getElem?_cons_zero]; rfl) (by kernel_rfl) (by kernel_rfl) (by kernel_rfl) (by intro _ _ _ h; exact h) (Or.inl ⟨by rfl, ?_⟩) (by assumption) ?_
    rotate_left
    · (intro w hSw; (try dsimp only at hSw); go_simp <;> with_reducible rfl)
    try simp only [Act.put, List.setIfInBounds_toArray, List.set_cons_zero, List.set_cons_succ]
    refine wpAnyH_take (i := 2) (v := ?_) (by simp only [List.getElem?_toArray, List.getElem?_cons_succ, List.getElem?_cons_zero]; rfl) (by kernel_rfl) (by kernel_rfl) (by kernel_rfl) (by intro _ _ _ h; exact h) (Or.inl ⟨by rfl, ?_⟩) (by assumption) ?_
    rotate_left
    · (intro w hSw; (try dsimp only at hSw); go_simp <;> with_reducible rfl)
    try simp only [Act.put, List.setIfInBounds_toArray, List.set_cons_zero, List.set_cons_succ]
    refine wpAnyH_ready (rs := [1, 3]) (by kernel_rfl) (by simp) ?_
    refine AllReadyH.cons (by simp only [List.getElem?_toArray, List.getElem?_cons_succ, List.getElem?_cons_zero]; rfl) (fun KK hK => ?_) (AllReadyH.cons (by simp only [List.getElem?_toArray, List.getElem?_cons_succ, List.getElem?_cons_zero]; rfl) (fun KK hK => ?_) AllReadyH.nil)
    · skip
      have kl := HKB.out wd u6
      go_simp
      refine hK.out _ _ trivial (fun hHeld => ?_)
      clear hK KK kl
      try simp only [Act.put, List.setIfInBounds_toArray, List.set_cons_zero, List.set_cons_succ]
      refine wpAnyH_ready (rs := [3]) (by kernel_rfl) (by simp) ?_
      refine AllReadyH.cons (by simp only [List.getElem?_toArray, List.getElem?_cons_succ, List.getElem?_cons_zero]; rfl) (fun KK hK => ?_) AllReadyH.nil
      go_simp
      refine (HZ.out _).mono ?_
      rintro e w7 ⟨zb, rfl, z1, z2, z3⟩
      have H7 : Hid (w6.heap.size ≤ zb ∧ NmAt w7 zb has (fun _ => 0) ∧ Up w6 w7) := ⟨Nat.le_trans u6.size z1, z2, u6.trans z3⟩
      clear z1 z2 z3
      refine hK.out _ _ trivial (fun hHeld => ?_)
      clear hK KK
      try simp only [Act.put, List.setIfInBounds_toArray, List.set_cons_zero, List.set_cons_succ]
      refine wpAnyH_ready (rs := [4]) (by kernel_rfl) (by simp) ?_
      refine AllReadyH.cons (by simp only [List.getElem?_toArray, List.getElem?_cons_succ, List.getElem?_cons_zero]; rfl) (fun KK hK => ?_) AllReadyH.nil
      go_simp
      have kn : (w7.alloc (Obj.cells #[.slice (some ⟨zb, 0, none⟩) has has] 45)).heap[w7.heap.size]? = some (.cells #[.slice (some ⟨zb, 0, none⟩) has has] 45 (0, 0)) := heap_alloc_new w7 _
      refine hK.out _ _ trivial (fun hHeld => ?_)
      clear hK KK
      try simp only [Act.put, List.setIfInBounds_toArray, List.set_cons_zero, List.set_cons_succ]
      refine wpAnyH_ready (rs := [5]) (by kernel_rfl) (by simp) ?_
      refine AllReadyH.cons (by simp only [List.getElem?_toArray, List.getElem?_cons_succ, List.getElem?_cons_zero]; rfl) (fun KK hK => ?_) AllReadyH.nil
      rw [if_pos (by rfl)]
      have ow := ownsRow_up A6.out.1.rowsOf.2 (H7.out.2.2.alloc (Obj.cells #[.slice (some ⟨zb, 0, none⟩) has has] 45))
      refine wp_append_at _ _ _ 54 rfl 0 45 Try.t45 (.slice none 0 0) 1 24 Try.underlying54 hie2 rfl rfl rfl rfl (by decide) (.slice ua hl.length uc) hl.length (byteCells hl) rfl ow ⟨w7.heap.size, 0, none⟩ 1 1 [.slice (some ⟨zb, 0, none⟩) has has] rfl rfl ?c1 ?c2 ?c3 ?c4 ?c5 ?_
      case c1 =>
        intro j u hu
        rw [Addr.add_lit, Nat.zero_add, cell_of_row _ _ _ _ _ _ kn]
        simpa using hu
      case c2 =>
        intro u hu
        simp at hu
        rcases hu with rfl <;> rfl
      case c3 => unfold maxLen; omega
      case c4 => omega
      case c5 => exact Nat.zero_le _
      intro v' w9 ho9 hg9 hat
      obtain ⟨ub, um, ud, rfl⟩ := own_slice3 ho9
      have A9 : Hid (Ax C P2 (.slice vb vm vd) (.slice ub um ud) (hl ++ [⟨buf, c, has, 0, fun _ => 0⟩]) (hl ++ [⟨buf, c, has, zb, fun _ => 0⟩]) (w9.setCell ⟨C.hb, 2, none⟩ (.slice ub um ud)) ∧ Be xb X.free (.slice fa X.free.length fc) buf c has (w9.setCell ⟨C.hb, 2, none⟩ (.slice ub um ud))) := ⟨A6.out.1.bytes (x := ⟨buf, c, has, zb, fun _ => 0⟩) H7.out.2.2 H7.out.1 H7.out.2.1 ho9 hg9 hat, A6.out.2.bytes A6.out.1 H7.out.2.2 HXB.out.2 hg9⟩
      have hs9 : w9.heap[C.hb]? = w6.heap[C.hb]? := (hg9.block C.hb (Nat.lt_of_lt_of_le (heap_at A6.out.1.bh) (H7.out.2.2.alloc _).size) (fun e => A6.out.1.nob.2.1 _ e.symm rfl)).trans ((H7.out.2.2.alloc _).block C.hb (heap_at A6.out.1.bh))
      have hs9' := hs9.trans A6.out.1.bh
      have ks9 : w9.cell? ⟨C.hb, 2, none⟩ = some (.slice ua hl.length uc) := heap_cell hs9' rfl
      have kz9 : w9.frozen? ⟨C.hb, 2, none⟩ = false := heap_fz hs9'
      clear hs9 hs9' ho9 hg9 hat ow kn
      refine hK.out _ _ trivial (fun hHeld => ?_)
      clear hK KK
      try simp only [Act.put, List.setIfInBounds_toArray, List.set_cons_zero, List.set_cons_succ]
      refine wpAnyH_take (i := 6) (v := ?_) (by simp only [List.getElem?_toArray, List.getElem?_cons_succ, List.getElem?_cons_zero]; rfl) (by kernel_rfl) (by kernel_rfl) (by kernel_rfl) (by intro _ _ _ h; exact h) (Or.inl ⟨by rfl, ?_⟩) (by assumption) ?_
      rotate_left
      · (intro w hSw; (try dsimp only at hSw); go_simp <;> with_reducible rfl)
      try simp only [Act.put, List.setIfInBounds_toArray, List.set_cons_zero, List.set_cons_succ]
      refine wpAnyH_ready (rs := [7]) (by kernel_rfl) (by simp) ?_
      refine AllReadyH.cons (by simp only [List.getElem?_toArray, List.getElem?_cons_succ, List.getElem?_cons_zero]; rfl) (fun KK hK => ?_) AllReadyH.nil
      go_simp
      refine hK.out _ _ trivial (fun _ => ?_)
      clear hK KK
      try simp only [Act.put, List.setIfInBounds_toArray, List.set_cons_zero, List.set_cons_succ]
      refine wpAnyH_done (by kernel_rfl) ?_ _
      clear ks9 kz9
      go_wp2_with fail
      go_meet
      exact ⟨rfl, ub, um, ud, zb, A9⟩
    · skip
      go_simp
      refine (HZ.out _).mono ?_
      rintro e w7 ⟨zb, rfl, z1, z2, z3⟩
      have H7 : Hid (w6.heap.size ≤ zb ∧ NmAt w7 zb has (fun _ => 0) ∧ Up w6 w7) := ⟨Nat.le_trans u6.size z1, z2, u6.trans z3⟩
      clear z1 z2 z3
      refine hK.out _ _ trivial (fun hHeld => ?_)
      clear hK KK
      try simp only [Act.put, List.setIfInBounds_toArray, List.set_cons_zero, List.set_cons_succ]
      refine wpAnyH_ready (rs := [1, 4]) (by kernel_rfl) (by simp) ?_
      refine AllReadyH.cons (by simp only [List.getElem?_toArray, List.getElem?_cons_succ, List.getElem?_cons_zero]; rfl) (fun KK hK => ?_) (AllReadyH.cons (by simp only [List.getElem?_toArray, List.getElem?_cons_succ, List.getElem?_cons_zero]; rfl) (fun KK hK => ?_) AllReadyH.nil)
      · skip
        have kl := HKB.out w7 H7.out.2.2
        go_simp
        refine hK.out _ _ trivial (fun hHeld => ?_)
        clear hK KK kl
        try simp only [Act.put, List.setIfInBounds_toArray, List.set_cons_zero, List.set_cons_succ]
        refine wpAnyH_ready (rs := [4]) (by kernel_rfl) (by simp) ?_
        refine AllReadyH.cons (by simp only [List.getElem?_toArray, List.getElem?_cons_succ, List.getElem?_cons_zero]; rfl) (fun KK hK => ?_) AllReadyH.nil
        go_simp
        have kn : (w7.alloc (Obj.cells #[.slice (some ⟨zb, 0, none⟩) has has] 45)).heap[w7.heap.size]? = some (.cells #[.slice (some ⟨zb, 0, none⟩) has has] 45 (0, 0)) := heap_alloc_new w7 _
        refine hK.out _ _ trivial (fun hHeld => ?_)
        clear hK KK
        try simp only [Act.put, List.setIfInBounds_toArray, List.set_cons_zero, List.set_cons_succ]
        refine wpAnyH_ready (rs := [5]) (by kernel_rfl) (by simp) ?_
        refine AllReadyH.cons (by simp only [List.getElem?_toArray, List.getElem?_cons_succ, List.getElem?_cons_zero]; rfl) (fun KK hK => ?_) AllReadyH.nil
        rw [if_pos (by rfl)]
        have ow := ownsRow_up A6.out.1.rowsOf.2 (H7.out.2.2.alloc (Obj.cells #[.slice (some ⟨zb, 0, none⟩) has has] 45))
        refine wp_append_at _ _ _ 54 rfl 0 45 Try.t45 (.slice none 0 0) 1 24 Try.underlying54 hie2 rfl rfl rfl rfl (by decide) (.slice ua hl.length uc) hl.length (byteCells hl) rfl ow ⟨w7.heap.size, 0, none⟩ 1 1 [.slice (some ⟨zb, 0, none⟩) has has] rfl rfl ?c1 ?c2 ?c3 ?c4 ?c5 ?_
        case c1 =>
          intro j u hu
          rw [Addr.add_lit, Nat.zero_add, cell_of_row _ _ _ _ _ _ kn]
          simpa using hu
        case c2 =>
          intro u hu
          simp at hu
          rcases hu with rfl <;> rfl
        case c3 => unfold maxLen; omega
        case c4 => omega
        case c5 => exact Nat.zero_le _
        intro v' w9 ho9 hg9 hat
        obtain ⟨ub, um, ud, rfl⟩ := own_slice3 ho9
        have A9 : Hid (Ax C P2 (.slice vb vm vd) (.slice ub um ud) (hl ++ [⟨buf, c, has, 0, fun _ => 0⟩]) (hl ++ [⟨buf, c, has, zb, fun _ => 0⟩]) (w9.setCell ⟨C.hb, 2, none⟩ (.slice ub um ud)) ∧ Be xb X.free (.slice fa X.free.length fc) buf c has (w9.setCell ⟨C.hb, 2, none⟩ (.slice ub um ud))) := ⟨A6.out.1.bytes (x := ⟨buf, c, has, zb, fun _ => 0⟩) H7.out.2.2 H7.out.1 H7.out.2.1 ho9 hg9 hat, A6.out.2.bytes A6.out.1 H7.out.2.2 HXB.out.2 hg9⟩
        have hs9 : w9.heap[C.hb]? = w6.heap[C.hb]? := (hg9.block C.hb (Nat.lt_of_lt_of_le (heap_at A6.out.1.bh) (H7.out.2.2.alloc _).size) (fun e => A6.out.1.nob.2.1 _ e.symm rfl)).trans ((H7.out.2.2.alloc _).block C.hb (heap_at A6.out.1.bh))
        have hs9' := hs9.trans A6.out.1.bh
        have ks9 : w9.cell? ⟨C.hb, 2, none⟩ = some (.slice ua hl.length uc) := heap_cell hs9' rfl
        have kz9 : w9.frozen? ⟨C.hb, 2, none⟩ = false := heap_fz hs9'
        clear hs9 hs9' ho9 hg9 hat ow kn
        refine hK.out _ _ trivial (fun hHeld => ?_)
        clear hK KK
        try simp only [Act.put, List.setIfInBounds_toArray, List.set_cons_zero, List.set_cons_succ]
        refine wpAnyH_take (i := 6) (v := ?_) (by simp only [List.getElem?_toArray, List.getElem?_cons_succ, List.getElem?_cons_zero]; rfl) (by kernel_rfl) (by kernel_rfl) (by kernel_rfl) (by intro _ _ _ h; exact h) (Or.inl ⟨by rfl, ?_⟩) (by assumption) ?_
        rotate_left
        · (intro w hSw; (try dsimp only at hSw); go_simp <;> with_reducible rfl)
        try simp only [Act.put, List.setIfInBounds_toArray, List.set_cons_zero, List.set_cons_succ]
        refine wpAnyH_ready (rs := [7]) (by kernel_rfl) (by simp) ?_
        refine AllReadyH.cons (by simp only [List.getElem?_toArray, List.getElem?_cons_succ, List.getElem?_cons_zero]; rfl) (fun KK hK => ?_) AllReadyH.nil
        go_simp
        refine hK.out _ _ trivial (fun _ => ?_)
        clear hK KK
        try simp only [Act.put, List.setIfInBounds_toArray, List.set_cons_zero, List.set_cons_succ]
        refine wpAnyH_done (by kernel_rfl) ?_ _
        clear ks9 kz9
        go_wp2_with fail
        go_meet
        exact ⟨rfl, ub, um, ud, zb, A9⟩
      · skip
        go_simp
        have kn : (w7.alloc (Obj.cells #[.slice (some ⟨zb, 0, none⟩) has has] 45)).heap[w7.heap.size]? = some (.cells #[.slice (some ⟨zb, 0, none⟩) has has] 45 (0, 0)) := heap_alloc_new w7 _
        refine hK.out _ _ trivial (fun hHeld => ?_)
        clear hK KK
        try simp only [Act.put, List.setIfInBounds_toArray, List.set_cons_zero, List.set_cons_succ]
        refine wpAnyH_ready (rs := [1]) (by kernel_rfl) (by simp) ?_
        refine AllReadyH.cons (by simp only [List.getElem?_toArray, List.getElem?_cons_succ, List.getElem?_cons_zero]; rfl) (fun KK hK => ?_) AllReadyH.nil
        have kl := HKB.out (w7.alloc (Obj.cells #[.slice (some ⟨zb, 0, none⟩) has has] 45)) (H7.out.2.2.alloc _)
        go_simp
        refine hK.out _ _ trivial (fun hHeld => ?_)
        clear hK KK kl
        try simp only [Act.put, List.setIfInBounds_toArray, List.set_cons_zero, List.set_cons_succ]
        refine wpAnyH_ready (rs := [5]) (by kernel_rfl) (by simp) ?_
        refine AllReadyH.cons (by simp only [List.getElem?_toArray, List.getElem?_cons_succ, List.getElem?_cons_zero]; rfl) (fun KK hK => ?_) AllReadyH.nil
        rw [if_pos (by rfl)]
        have ow := ownsRow_up A6.out.1.rowsOf.2 (H7.out.2.2.alloc (Obj.cells #[.slice (some ⟨zb, 0, none⟩) has has] 45))
        refine wp_append_at _ _ _ 54 rfl 0 45 Try.t45 (.slice none 0 0) 1 24 Try.underlying54 hie2 rfl rfl rfl rfl (by decide) (.slice ua hl.length uc) hl.length (byteCells hl) rfl ow ⟨w7.heap.size, 0, none⟩ 1 1 [.slice (some ⟨zb, 0, none⟩) has has] rfl rfl ?c1 ?c2 ?c3 ?c4 ?c5 ?_
        case c1 =>
          intro j u hu
          rw [Addr.add_lit, Nat.zero_add, cell_of_row _ _ _ _ _ _ kn]
          simpa using hu
        case c2 =>
          intro u hu
          simp at hu
          rcases hu with rfl <;> rfl
        case c3 => unfold maxLen; omega
        case c4 => omega
        case c5 => exact Nat.zero_le _
        intro v' w9 ho9 hg9 hat
        obtain ⟨ub, um, ud, rfl⟩ := own_slice3 ho9
        have A9 : Hid (Ax C P2 (.slice vb vm vd) (.slice ub um ud) (hl ++ [⟨buf, c, has, 0, fun _ => 0⟩]) (hl ++ [⟨buf, c, has, zb, fun _ => 0⟩]) (w9.setCell ⟨C.hb, 2, none⟩ (.slice ub um ud)) ∧ Be xb X.free (.slice fa X.free.length fc) buf c has (w9.setCell ⟨C.hb, 2, none⟩ (.slice ub um ud))) := ⟨A6.out.1.bytes (x := ⟨buf, c, has, zb, fun _ => 0⟩) H7.out.2.2 H7.out.1 H7.out.2.1 ho9 hg9 hat, A6.out.2.bytes A6.out.1 H7.out.2.2 HXB.out.2 hg9⟩
        have hs9 : w9.heap[C.hb]? = w6.heap[C.hb]? := (hg9.block C.hb (Nat.lt_of_lt_of_le (heap_at A6.out.1.bh) (H7.out.2.2.alloc _).size) (fun e => A6.out.1.nob.2.1 _ e.symm rfl)).trans ((H7.out.2.2.alloc _).block C.hb (heap_at A6.out.1.bh))
        have hs9' := hs9.trans A6.out.1.bh
        have ks9 : w9.cell? ⟨C.hb, 2, none⟩ = some (.slice ua hl.length uc) := heap_cell hs9' rfl
        have kz9 : w9.frozen? ⟨C.hb, 2, none⟩ = false := heap_fz hs9'
        clear hs9 hs9' ho9 hg9 hat ow kn
        refine hK.out _ _ trivial (fun hHeld => ?_)
        clear hK KK
        try simp only [Act.put, List.setIfInBounds_toArray, List.set_cons_zero, List.set_cons_succ]
        refine wpAnyH_take (i := 6) (v := ?_) (by simp only [List.getElem?_toArray, List.getElem?_cons_succ, List.getElem?_cons_zero]; rfl) (by kernel_rfl) (by kernel_rfl) (by kernel_rfl) (by intro _ _ _ h; exact h) (Or.inl ⟨by rfl, ?_⟩) (by assumption) ?_
        rotate_left
        · (intro w hSw; (try dsimp only at hSw); go_simp <;> with_reducible rfl)
        try simp only [Act.put, List.setIfInBounds_toArray, List.set_cons_zero, List.set_cons_succ]
        refine wpAnyH_ready (rs := [7]) (by kernel_rfl) (by simp) ?_
        refine AllReadyH.cons (by simp only [List.getElem?_toArray, List.getElem?_cons_succ, List.getElem?_cons_zero]; rfl) (fun KK hK => ?_) AllReadyH.nil
        go_simp
        refine hK.out _ _ trivial (fun _ => ?_)
        clear hK KK
        try simp only [Act.put, List.setIfInBounds_toArray, List.set_cons_zero, List.set_cons_succ]
        refine wpAnyH_done (by kernel_rfl) ?_ _
        clear ks9 kz9
        go_wp2_with fail
        go_meet
        exact ⟨rfl, ub, um, ud, zb, A9⟩
  case rest =>
  obtain ⟨rfl, ub, um, ud, zb, A9⟩ := hcut
  have A10 : Hid (Ax C P2 (.slice vb vm vd) (.slice ub um ud) (hl ++ [⟨buf, c, has, zb, fun _ => 0⟩]) (hl ++ [⟨buf, c, has, zb, fun _ => 0⟩]) wc ∧ Be xb X.free (.slice fa X.free.length fc) buf c has wc) := ⟨A9.out.1.leaseEq (by rw [leaseCells_snoc, leaseCells_snoc]; rfl) (by rw [List.length_append, List.length_append]; rfl), A9.out.2⟩
  clear A9 HZ HXB A6
  go_wp2_with fail
  have HSt : Hid (∀ w, Up wc w ∨ Fr C.rb wc.drew w → w.rangeAt C.hb 0 [.int .i64 (C.i : Int), .slice vb vm vd, .slice ub um ud] ∧ w.cell? ⟨xb, 0, none⟩ = some (.int .i64 (buf : Int)) ∧ w.cell? ⟨xb, 1, none⟩ = some (.int .i64 (c : Int)) ∧ w.cell? ⟨xb, 2, none⟩ = some (.int .i64 (has : Int)) ∧ w.cell? ⟨C.ab, 3, none⟩ = some (.int .i64 pk) ∧ ∃ fg, fa = some ⟨fg, 0, none⟩ ∧ w.cell? ⟨fg, r, none⟩ = some (.int .i64 (buf : Int))) := fun w hw => by
    obtain ⟨fg, cap, hv, _, _, hfgl, hfo⟩ : ∃ g cap, (Value.slice fa X.free.length fc) = .slice (some ⟨g, 0, none⟩) X.free.length cap ∧ X.free.length ≤ cap ∧ cap ≤ maxLen ∧ g < wc.heap.size ∧ (Value.slice fa X.free.length fc).ownBlock = some g := by
      rcases own_cases A10.out.2.f with ⟨hv, hn0, _⟩ | h
      · omega
      · exact h
    injection hv with hv1 _ hv3
    have hfgc : wc.cell? ⟨fg, r, none⟩ = some (.int .i64 (buf : Int)) := by
      have hf := A10.out.2.f
      rw [hv1] at hf
      have := own_cell hf r (by omega)
      rw [Nat.zero_add] at this
      rw [this]
      exact nums_at HBu.out
    have hbk : ∀ b, b < wc.heap.size → b ≠ C.rb → w.heap[b]? = wc.heap[b]? := fun b hb hn => by
      rcases hw with u | f
      · exact u.block b hb
      · exact f.block b hb hn
    have hh := (hbk C.hb (heap_at A10.out.1.bh) A10.out.1.d2).trans A10.out.1.bh
    have hx := (hbk xb (heap_at A10.out.2.x) (fun e => by
      have h1 := A10.out.1.br
      have h2 := A10.out.2.x
      rw [e, h1] at h2
      injection h2 with h2
      injection h2 with _ h3
      exact absurd h3 (by decide))).trans A10.out.2.x
    have ha := (hbk C.ab (heap_at A10.out.1.ba) A10.out.1.d3).trans A10.out.1.ba
    have hf2 := hbk fg hfgl (fun e => own_not A10.out.2.f (e ▸ A10.out.1.br) (by decide) hfo)
    refine ⟨range3 (heap_cell hh rfl) (heap_cell hh rfl) (heap_cell hh rfl), heap_cell hx rfl, heap_cell hx rfl, heap_cell hx rfl, (HAc.out w ha).2.2.1, fg, hv1, ?_⟩
    unfold World.cell? at hfgc ⊢
    simp only [hf2]
    exact hfgc
  obtain ⟨fg, rfl⟩ : ∃ fg, fa = some ⟨fg, 0, none⟩ := by
    obtain ⟨_, _, _, _, _, fg, e, _⟩ := HSt.out wc (Or.inl (Up.refl wc))
    exact ⟨fg, e⟩
  have HSu : Hid (∀ w, Up wc w ∨ Fr C.rb wc.drew w → w.rangeAt C.hb 0 [.int .i64 (C.i : Int), .slice vb vm vd, .slice ub um ud] ∧ w.cell? ⟨xb, 0, none⟩ = some (.int .i64 (buf : Int)) ∧ w.cell? ⟨xb, 1, none⟩ = some (.int .i64 (c : Int)) ∧ w.cell? ⟨xb, 2, none⟩ = some (.int .i64 (has : Int)) ∧ w.cell? ⟨C.ab, 3, none⟩ = some (.int .i64 pk) ∧ w.cell? ⟨fg, r, none⟩ = some (.int .i64 (buf : Int))) := fun w hw => by
    obtain ⟨h1, h2, h3, h4, h5, fg', e, h6⟩ := HSt.out w hw
    have e : (⟨fg, 0, none⟩ : Addr) = ⟨fg', 0, none⟩ := Option.some.inj e
    injection e with e
    subst e
    exact ⟨h1, h2, h3, h4, h5, h6⟩
  clear HSt
  refine wp_region_held_drew (S := fun w : World => w.rangeAt C.hb 0 [.int .i64 (C.i : Int), .slice vb vm vd, .slice ub um ud] ∧ w.cell? ⟨xb, 0, none⟩ = some (.int .i64 (buf : Int)) ∧ w.cell? ⟨xb, 1, none⟩ = some (.int .i64 (c : Int)) ∧ w.cell? ⟨xb, 2, none⟩ = some (.int .i64 (has : Int)) ∧ w.cell? ⟨C.ab, 3, none⟩ = some (.int .i64 pk) ∧ w.cell? ⟨fg, r, none⟩ = some (.int .i64 (buf : Int))) (by kernel_rfl) ?_ (fun hHeld => ?_)
  · exact HSu.out _ (Or.inl (Up.refl wc).drew)
  refine wpAnyH_take (i := 0) (v := .agg [.int .i64 (C.i : Int), .slice vb vm vd, .slice ub um ud].toArray) (by simp only [List.getElem?_toArray, List.getElem?_cons_zero]; rfl) (by kernel_rfl) (by kernel_rfl) (by kernel_rfl) (by intro _ _ _ h; exact h) (yieldsIf_load_mid (by rfl) 56 _ rfl C.hb 0 rfl [.int .i64 (C.i : Int), .slice vb vm vd, .slice ub um ud] _ (fun w hw => hw.1) Try.underlying56 rfl (by kernel_rfl)) (by assumption) ?_
  simp only [Act.put, List.setIfInBounds_toArray, List.set_cons_zero, List.set_cons_succ]
  refine wpAnyH_take (i := 1) (v := ?_) (by simp only [List.getElem?_toArray, List.getElem?_cons_succ, List.getElem?_cons_zero]; rfl) (by kernel_rfl) (by kernel_rfl) (by kernel_rfl) (by intro _ _ _ h; exact h) (Or.inl ⟨by rfl, ?_⟩) (by assumption) ?_
  rotate_left
  · (intro w hSw; (try dsimp only at hSw); go_simp <;> with_reducible rfl)
  try simp only [Act.put, List.setIfInBounds_toArray, List.set_cons_zero, List.set_cons_succ]
  refine wpAnyH_take (i := 2) (v := ?_) (by simp only [List.getElem?_toArray, List.getElem?_cons_succ, List.getElem?_cons_zero]; rfl) (by kernel_rfl) (by kernel_rfl) (by kernel_rfl) (by intro _ _ _ h; exact h) (Or.inl ⟨by rfl, ?_⟩) (by assumption) ?_
  rotate_left
  · (intro w hSw; (try dsimp only at hSw); go_simp <;> with_reducible rfl)
  try simp only [Act.put, List.setIfInBounds_toArray, List.set_cons_zero, List.set_cons_succ]
  refine wpAnyH_take (i := 3) (v := ?_) (by simp only [List.getElem?_toArray, List.getElem?_cons_succ, List.getElem?_cons_zero]; rfl) (by kernel_rfl) (by kernel_rfl) (by kernel_rfl) (by intro _ _ _ h; exact h) (Or.inl ⟨by rfl, ?_⟩) (by assumption) ?_
  rotate_left
  · (intro w hSw; (try dsimp only at hSw); go_simp <;> with_reducible rfl)
  try simp only [Act.put, List.setIfInBounds_toArray, List.set_cons_zero, List.set_cons_succ]
  refine wpAnyH_take (i := 4) (v := ?_) (by simp only [List.getElem?_toArray, List.getElem?_cons_succ, List.getElem?_cons_zero]; rfl) (by kernel_rfl) (by kernel_rfl) (by kernel_rfl) (by intro _ _ _ h; exact h) (Or.inl ⟨by rfl, ?_⟩) (by assumption) ?_
  rotate_left
  · (intro w hSw; (try dsimp only at hSw); go_simp <;> with_reducible rfl)
  try simp only [Act.put, List.setIfInBounds_toArray, List.set_cons_zero, List.set_cons_succ]
  refine wpAnyH_take (i := 5) (v := ?_) (by simp only [List.getElem?_toArray, List.getElem?_cons_succ, List.getElem?_cons_zero]; rfl) (by kernel_rfl) (by kernel_rfl) (by kernel_rfl) (by intro _ _ _ h; exact h) (Or.inl ⟨by rfl, ?_⟩) (by assumption) ?_
  rotate_left
  · (intro w hSw; (try dsimp only at hSw); go_simp <;> with_reducible rfl)
  try simp only [Act.put, List.setIfInBounds_toArray, List.set_cons_zero, List.set_cons_succ]
  refine wpAnyH_take (i := 6) (v := ?_) (by simp only [List.getElem?_toArray, List.getElem?_cons_succ, List.getElem?_cons_zero]; rfl) (by kernel_rfl) (by kernel_rfl) (by kernel_rfl) (by intro _ _ _ h; exact h) (Or.inl ⟨by rfl, ?_⟩) (by assumption) ?_
  rotate_left
  · (intro w hSw; (try dsimp only at hSw); go_simp <;> with_reducible rfl)
  try simp only [Act.put, List.setIfInBounds_toArray, List.set_cons_zero, List.set_cons_succ]
  refine wpAnyH_take (i := 7) (v := ?_) (by simp only [List.getElem?_toArray, List.getElem?_cons_succ, List.getElem?_cons_zero]; rfl) (by kernel_rfl) (by kernel_rfl) (by kernel_rfl) (by intro _ _ _ h; exact h) (Or.inl ⟨by rfl, ?_⟩) (by assumption) ?_
  rotate_left
  · (intro w hSw; (try dsimp only at hSw); go_simp <;> with_reducible rfl)
  try simp only [Act.put, List.setIfInBounds_toArray, List.set_cons_zero, List.set_cons_succ]
  refine wpAnyH_take (i := 8) (v := ?_) (by simp only [List.getElem?_toArray, List.getElem?_cons_succ, List.getElem?_cons_zero]; rfl) (by kernel_rfl) (by kernel_rfl) (by kernel_rfl) (by intro _ _ _ h; exact h) (Or.inl ⟨by rfl, ?_⟩) (by assumption) ?_
  rotate_left
  · (intro w hSw; (try dsimp only at hSw); go_simp <;> with_reducible rfl)
  try simp only [Act.put, List.setIfInBounds_toArray, List.set_cons_zero, List.set_cons_succ]
  refine wpAnyH_take (i := 9) (v := ?_) (by simp only [List.getElem?_toArray, List.getElem?_cons_succ, List.getElem?_cons_zero]; rfl) (by kernel_rfl) (by kernel_rfl) (by kernel_rfl) (by intro _ _ _ h; exact h) (Or.inl ⟨by rfl, ?_⟩) (by assumption) ?_
  rotate_left
  · (intro w hSw; (try dsimp only at hSw); go_simp <;> with_reducible rfl)
  try simp only [Act.put, List.setIfInBounds_toArray, List.set_cons_zero, List.set_cons_succ]
  refine wpAnyH_take (i := 10) (v := ?_) (by simp only [List.getElem?_toArray, List.getElem?_cons_succ, List.getElem?_cons_zero]; rfl) (by kernel_rfl) (by kernel_rfl) (by kernel_rfl) (by intro _ _ _ h; exact h) (Or.inl ⟨by rfl, ?_⟩) (by assumption) ?_
  rotate_left
  · (intro w hSw; (try dsimp only at hSw); go_simp <;> with_reducible rfl)
  try simp only [Act.put, List.setIfInBounds_toArray, List.set_cons_zero, List.set_cons_succ]
  refine wpAnyH_take (i := 11) (v := ?_) (by simp only [List.getElem?_toArray, List.getElem?_cons_succ, List.getElem?_cons_zero]; rfl) (by kernel_rfl) (by kernel_rfl) (by kernel_rfl) (by intro _ _ _ h; exact h) (Or.inl ⟨by rfl, ?_⟩) (by assumption) ?_
  rotate_left
  · (intro w hSw; (try dsimp only at hSw); go_simp <;> with_reducible rfl)
  try simp only [Act.put, List.setIfInBounds_toArray, List.set_cons_zero, List.set_cons_succ]
  refine wpAnyH_take (i := 12) (v := ?_) (by simp only [List.getElem?_toArray, List.getElem?_cons_succ, List.getElem?_cons_zero]; rfl) (by kernel_rfl) (by kernel_rfl) (by kernel_rfl) (by intro _ _ _ h; exact h) (Or.inl ⟨by rfl, ?_⟩) (by assumption) ?_
  rotate_left
  · (intro w hSw; (try dsimp only at hSw); go_simp <;> with_reducible rfl)
  try simp only [Act.put, List.setIfInBounds_toArray, List.set_cons_zero, List.set_cons_succ]
  refine wpAnyH_take (i := 13) (v := ?_) (by simp only [List.getElem?_toArray, List.getElem?_cons_succ, List.getElem?_cons_zero]; rfl) (by kernel_rfl) (by kernel_rfl) (by kernel_rfl) (by intro _ _ _ h; exact h) (Or.inl ⟨by rfl, ?_⟩) (by assumption) ?_
  rotate_left
  · (intro w hSw; (try dsimp only at hSw); go_simp <;> with_reducible rfl)
  try simp only [Act.put, List.setIfInBounds_toArray, List.set_cons_zero, List.set_cons_succ]
  refine wpAnyH_take (i := 14) (v := ?_) (by simp only [List.getElem?_toArray, List.getElem?_cons_succ, List.getElem?_cons_zero]; rfl) (by kernel_rfl) (by kernel_rfl) (by kernel_rfl) (by intro _ _ _ h; exact h) (Or.inl ⟨by rfl, ?_⟩) (by assumption) ?_
  rotate_left
  · (intro w hSw; (try dsimp only at hSw); go_simp <;> with_reducible rfl)
  try simp only [Act.put, List.setIfInBounds_toArray, List.set_cons_zero, List.set_cons_succ]
  refine wpAnyH_take (i := 15) (v := ?_) (by simp only [List.getElem?_toArray, List.getElem?_cons_succ, List.getElem?_cons_zero]; rfl) (by kernel_rfl) (by kernel_rfl) (by kernel_rfl) (by intro _ _ _ h; exact h) (Or.inl ⟨by rfl, ?_⟩) (by assumption) ?_
  rotate_left
  · (intro w hSw; (try dsimp only at hSw); go_simp <;> with_reducible rfl)
  try simp only [Act.put, List.setIfInBounds_toArray, List.set_cons_zero, List.set_cons_succ]
  refine wpAnyH_take (i := 16) (v := ?_) (by simp only [List.getElem?_toArray, List.getElem?_cons_succ, List.getElem?_cons_zero]; rfl) (by kernel_rfl) (by kernel_rfl) (by kernel_rfl) (by intro _ _ _ h; exact h) (Or.inl ⟨by rfl, ?_⟩) (by assumption) ?_
  rotate_left
  · (intro w hSw; (try dsimp only at hSw); go_simp <;> with_reducible rfl)
  try simp only [Act.put, List.setIfInBounds_toArray, List.set_cons_zero, List.set_cons_succ]
  refine wpAnyH_take (i := 17) (v := ?_) (by simp only [List.getElem?_toArray, List.getElem?_cons_succ, List.getElem?_cons_zero]; rfl) (by kernel_rfl) (by kernel_rfl) (by kernel_rfl) (by intro _ _ _ h; exact h) (Or.inl ⟨by rfl, ?_⟩) (by assumption) ?_
  rotate_left
  · (intro w hSw; (try dsimp only at hSw); go_simp <;> with_reducible rfl)
  try simp only [Act.put, List.setIfInBounds_toArray, List.set_cons_zero, List.set_cons_succ]
  refine wpAnyH_take (i := 18) (v := ?_) (by simp only [List.getElem?_toArray, List.getElem?_cons_succ, List.getElem?_cons_zero]; rfl) (by kernel_rfl) (by kernel_rfl) (by kernel_rfl) (by intro _ _ _ h; exact h) (Or.inl ⟨by rfl, ?_⟩) (by assumption) ?_
  rotate_left
  · (intro w hSw; (try dsimp only at hSw); go_simp <;> with_reducible rfl)
  try simp only [Act.put, List.setIfInBounds_toArray, List.set_cons_zero, List.set_cons_succ]
  refine wpAnyH_take (i := 19) (v := ?_) (by simp only [List.getElem?_toArray, List.getElem?_cons_succ, List.getElem?_cons_zero]; rfl) (by kernel_rfl) (by kernel_rfl) (by kernel_rfl) (by intro _ _ _ h; exact h) (Or.inl ⟨by rfl, ?_⟩) (by assumption) ?_
  rotate_left
  · (intro w hSw; (try dsimp only at hSw); go_simp <;> with_reducible rfl)
  try simp only [Act.put, List.setIfInBounds_toArray, List.set_cons_zero, List.set_cons_succ]
  refine wpAnyH_take (i := 20) (v := ?_) (by simp only [List.getElem?_toArray, List.getElem?_cons_succ, List.getElem?_cons_zero]; rfl) (by kernel_rfl) (by kernel_rfl) (by kernel_rfl) (by intro _ _ _ h; exact h) (Or.inl ⟨by rfl, ?_⟩) (by assumption) ?_
  rotate_left
  · (intro w hSw; (try dsimp only at hSw); go_simp <;> with_reducible rfl)
  try simp only [Act.put, List.setIfInBounds_toArray, List.set_cons_zero, List.set_cons_succ]
  refine wpAnyH_take (i := 21) (v := ?_) (by simp only [List.getElem?_toArray, List.getElem?_cons_succ, List.getElem?_cons_zero]; rfl) (by kernel_rfl) (by kernel_rfl) (by kernel_rfl) (by intro _ _ _ h; exact h) (Or.inl ⟨by rfl, ?_⟩) (by assumption) ?_
  rotate_left
  · (intro w hSw; (try dsimp only at hSw); go_simp <;> with_reducible rfl)
  try simp only [Act.put, List.setIfInBounds_toArray, List.set_cons_zero, List.set_cons_succ]
  refine wpAnyH_take (i := 22) (v := ?_) (by simp only [List.getElem?_toArray, List.getElem?_cons_succ, List.getElem?_cons_zero]; rfl) (by kernel_rfl) (by kernel_rfl) (by kernel_rfl) (by intro _ _ _ h; exact h) (Or.inl ⟨by rfl, ?_⟩) (by assumption) ?_
  rotate_left
  · (intro w hSw; (try dsimp only at hSw); go_simp <;> with_reducible rfl)
  try simp only [Act.put, List.setIfInBounds_toArray, List.set_cons_zero, List.set_cons_succ]
  refine wpAnyH_ready (rs := [23]) (by kernel_rfl) (by simp) ?_
  refine AllReadyH.cons (by simp only [List.getElem?_toArray, List.getElem?_cons_succ, List.getElem?_cons_zero]; rfl) (fun KK hK => ?_) AllReadyH.nil
  go_simp
  refine (HPr.out _).mono ?_
  rintro e w' ⟨rfl, hw'⟩
  obtain rfl := hw'.symm
  clear hw'
  refine hK.out _ _ (HSu.out _ (Or.inl (Up.refl wc).drew)) (fun hHeld => ?_)
  clear hK KK
  try simp only [Act.put, List.setIfInBounds_toArray, List.set_cons_zero, List.set_cons_succ]
  refine wpAnyH_take (i := 24) (v := ?_) (by simp only [List.getElem?_toArray, List.getElem?_cons_succ, List.getElem?_cons_zero]; rfl) (by kernel_rfl) (by kernel_rfl) (by kernel_rfl) (by intro _ _ _ h; exact h) (Or.inl ⟨by rfl, ?_⟩) (by assumption) ?_
  rotate_left
  · (intro w hSw; (try dsimp only at hSw); go_simp <;> with_reducible rfl)
  try simp only [Act.put, List.setIfInBounds_toArray, List.set_cons_zero, List.set_cons_succ]
  refine wpAnyH_take (i := 25) (v := ?_) (by simp only [List.getElem?_toArray, List.getElem?_cons_succ, List.getElem?_cons_zero]; rfl) (by kernel_rfl) (by kernel_rfl) (by kernel_rfl) (by intro _ _ _ h; exact h) (Or.inl ⟨by rfl, ?_⟩) (by assumption) ?_
  rotate_left
  · (intro w hSw; (try dsimp only at hSw); go_simp <;> with_reducible rfl)
  try simp only [Act.put, List.setIfInBounds_toArray, List.set_cons_zero, List.set_cons_succ]
  refine wpAnyH_take (i := 26) (v := ?_) (by simp only [List.getElem?_toArray, List.getElem?_cons_succ, List.getElem?_cons_zero]; rfl) (by kernel_rfl) (by kernel_rfl) (by kernel_rfl) (by intro _ _ _ h; exact h) (Or.inl ⟨by rfl, ?_⟩) (by assumption) ?_
  rotate_left
  · (intro w hSw; (try dsimp only at hSw); go_simp <;> with_reducible rfl)
  try simp only [Act.put, List.setIfInBounds_toArray, List.set_cons_zero, List.set_cons_succ]
  refine wpAnyH_take (i := 27) (v := ?_) (by simp only [List.getElem?_toArray, List.getElem?_cons_succ, List.getElem?_cons_zero]; rfl) (by kernel_rfl) (by kernel_rfl) (by kernel_rfl) (by intro _ _ _ h; exact h) (Or.inl ⟨by rfl, ?_⟩) (by assumption) ?_
  rotate_left
  · (intro w hSw; (try dsimp only at hSw); go_simp <;> with_reducible rfl)
  try simp only [Act.put, List.setIfInBounds_toArray, List.set_cons_zero, List.set_cons_succ]
  refine wpAnyH_ready (rs := [28]) (by kernel_rfl) (by simp) ?_
  refine AllReadyH.cons (by simp only [List.getElem?_toArray, List.getElem?_cons_succ, List.getElem?_cons_zero]; rfl) (fun KK hK => ?_) AllReadyH.nil
  rw [if_pos (by rfl)]
  refine wp_store_mid 56 _ _ rfl C.rb 0 #[.int .i64 (C.i : Int), .slice vb vm vd, .slice ub um ud] rfl rfl (there3 A10.out.1.br) (by kernel_rfl) (by simp [Value.oneCell']) ?_
  refine hK.out _ _ (HSu.out _ (Or.inr (fr_setCells C.rb _ 0 _))) (fun hHeld => ?_)
  clear hK KK
  try simp only [Act.put, List.setIfInBounds_toArray, List.set_cons_zero, List.set_cons_succ]
  refine wpAnyH_take (i := 29) (v := ?_) (by simp only [List.getElem?_toArray, List.getElem?_cons_succ, List.getElem?_cons_zero]; rfl) (by kernel_rfl) (by kernel_rfl) (by kernel_rfl) (by intro _ _ _ h; exact h) (Or.inl ⟨by rfl, ?_⟩) (by assumption) ?_
  rotate_left
  · (intro w hSw; (try dsimp only at hSw); go_simp <;> with_reducible rfl)
  try simp only [Act.put, List.setIfInBounds_toArray, List.set_cons_zero, List.set_cons_succ]
  refine wpAnyH_done (by kernel_rfl) ?_ _
  have fr : Fr C.rb wc (wc.drew.setCells C.rb 0 [.int .i64 (C.i : Int), .slice vb vm vd, .slice ub um ud]) := (Fr.ofUp (Up.refl wc).drew).trans (fr_setCells C.rb _ 0 _)
  have hrb : (wc.drew.setCells C.rb 0 [.int .i64 (C.i : Int), .slice vb vm vd, .slice ub um ud]).heap[C.rb]? = some (.cells #[.int .i64 (C.i : Int), .slice vb vm vd, .slice ub um ud] 56 (0, 0)) := heap_setCells_same C.rb _ _ 0 _ wc.drew A10.out.1.br
  have HDn : Hid _ := A10.out.1.done fr
  have HRb : Hid _ := hrb
  have HE2 : Hid _ := HEnd.out P2 HP2.out zb
  clear fr hrb A10 hHeld HSu
  generalize World.setCells _ C.rb 0 _ = wz at HDn HRb ⊢
  rename_i K9 ha9 hh9
  clear hh9
  show K9 _ _
  refine ha9 _ _ (wp_ret ?_)
  first | show bodyPost Try.prog Try.f23 (Rs C n q P (actF kd sz pk at' by' q P.freeN (nbs hl))) Exit.ret _ _ | dsimp only [Exit.inBlock, Exit.then]
  refine bodyPost_ret (v := .tuple #[.agg _, .bool true]) (results_row_tmp Try.results23 _ _ _ 56 _ (0, 0) _ rfl HRb.out Try.underlying56 rfl (by kernel_rfl)) rfl ?_
  exact ⟨_, _, _, P2, rfl, HDn.out, HE2.out⟩
end Go.Proofs.Yteijdcidemajfaa
