/- PortsQuiet: the walk. -/
import Derived.Test.YteomldlmdpphaaaDoorPpQ
namespace Go.Proofs.YteomldlmdpphaaaDoor
open Go.RowKit
set_option linter.unusedVariables false
theorem Two.split {W0 W : World} {bp bq : Nat} {p q : Po} {zp zq : List Int} (h : Two W0 bp p zp bq q zq W) :
    ∃ K, Pb W0 K bp p zp W ∧ ∀ (w' : World) (p' : Po) (zp' : List Int), Pb W0 K bp p' zp' w' → Two W0 bp p' zp' bq q zq w' := by
  obtain ⟨vp, vq, h1, h2, h3, h4, h5, h6, h7, h8⟩ := h.row
  have ob : ∀ g, vq.ownBlock = some g → ∃ o, W.heap[g]? = some o := fun g e => ⟨_, Array.getElem?_eq_getElem (h4.lt g e).2⟩
  obtain ⟨K, hK, hKq, hKr⟩ : ∃ K : List (Nat × Obj), (∀ k o, (k, o) ∈ K → W.heap[k]? = some o ∧ k ≠ bp ∧ vp.ownBlock ≠ some k) ∧ (∃ o, (bq, o) ∈ K) ∧ ∀ g, vq.ownBlock = some g → ∃ o, (g, o) ∈ K := by
    have hq0 : W.heap[bq]? = some (.cells (q.cells vq) 60 (0, 0)) := h3
    cases hv : vq.ownBlock with
    | none =>
      refine ⟨[(bq, .cells (q.cells vq) 60 (0, 0))], fun k o hk => ?_, ⟨_, List.mem_singleton.2 rfl⟩, fun g e => by cases e⟩
      have := List.mem_singleton.1 hk
      injection this with e1 e2
      subst e1 e2
      exact ⟨hq0, fun e => h5 e.symm, h6⟩
    | some g =>
      obtain ⟨og, hg⟩ := ob g hv
      refine ⟨[(bq, .cells (q.cells vq) 60 (0, 0)), (g, og)], fun k o hk => ?_, ⟨_, List.mem_cons_self ..⟩, fun g' e => ?_⟩
      · rcases List.mem_cons.1 hk with e | hk
        · injection e with e1 e2
          subst e1 e2
          exact ⟨hq0, fun e => h5 e.symm, h6⟩
        · have := List.mem_singleton.1 hk
          injection this with e1 e2
          subst e1 e2
          exact ⟨hg, fun e => h7 (by rw [hv, e]), fun e => h8 _ e hv⟩
      · injection e with e
        subst e
        exact ⟨og, List.mem_cons_of_mem _ (List.mem_singleton.2 rfl)⟩
  refine ⟨K, ⟨h.laid, h.okp, h.lp, h.np, h.up, vp, h1, h2, hK⟩, fun w' p' zp' g => ?_⟩
  obtain ⟨vp', g1, g2, g3⟩ := g.row
  have same : ∀ k o, (k, o) ∈ K → w'.heap[k]? = W.heap[k]? := fun k o hk => (g3 k o hk).1.trans (hK k o hk).1.symm
  obtain ⟨oq, hoq⟩ := hKq
  refine ⟨h.laid, g.ok, h.okq, g.len, h.lq, h.np, h.nq, g.up, vp', vq, g1, g2, (same bq oq hoq).trans h3, h4.of_block (fun k hk => ?_), h5, (g3 bq oq hoq).2.2, h7, fun g0 e e' => ?_⟩
  · obtain ⟨o, ho⟩ := hKr k hk
    exact same k o ho
  · obtain ⟨o, ho⟩ := hKr g0 e'
    exact (g3 g0 o ho).2.2 e
/-- bytes that come in -/
structure Byts (W : World) (aa : Option Addr) (ab ao len cap : Nat) (f : Nat → Int) : Prop where
  lc : len ≤ cap
  cm : cap ≤ maxLen
  ad : 0 < len → aa = some ⟨ab, ao, none⟩
  u8 : ∀ k, 0 ≤ f k ∧ f k ≤ 255
  cell : ∀ k, k < len → W.cell? ⟨ab, ao + k, none⟩ = some (.int .u8 (f k))
theorem Byts.up {W W' : World} {aa : Option Addr} {ab ao len cap : Nat} {f : Nat → Int} (h : Byts W aa ab ao len cap f) (u : Up W W') : Byts W' aa ab ao len cap f :=
  ⟨h.lc, h.cm, h.ad, h.u8, fun k hk => (u.cell (World.block_lt_of_cell? _ _ (h.cell k hk))).trans (h.cell k hk)⟩
theorem Two.loadAny {W0 W : World} {bp bq : Nat} {p q : Po} {zp zq : List Int} (h : Two W0 bp p zp bq q zq W) {sa : Option Addr} {sb so slen scap : Nat} {x : Nat → Int} (hS : Byts W sa sb so slen scap x) :
    Calls Tryd.prog 24 #[.pointer (some ⟨bp, 0, none⟩), .slice sa slen scap] W fun e w' => (e = .returned (.int .i64 0) ∧ ∃ r, Two W0 bp r [] bq q zq w') ∨ (e = .returned (.int .i64 52) ∧ Up W w') := by
  obtain ⟨K, h1, h2⟩ := h.split
  refine (h1.loadAny sa slen scap x sb so hS.ad hS.cell hS.u8 hS.lc (by have := hS.cm; unfold maxLen at this; omega)).mono ?_
  rintro e w' (⟨he, r, hr⟩ | hu)
  · exact Or.inl ⟨he, r, h2 w' r [] hr⟩
  · exact Or.inr hu
set_option maxRecDepth 100000 in
set_option maxHeartbeats 4000000 in
theorem quiet_walk {W : World} (hL : LaidP W) {aa : Option Addr} {ab ao len cap : Nat} {f : Nat → Nat → Int} (hA : Acts W aa ab ao len cap f) (c : Int) (hc : I64 c) {sa : Option Addr} {sb so slen scap : Nat} {x : Nat → Int} (hS : Byts W sa sb so slen scap x) :
    Calls Tryd.prog 10 #[.slice aa len cap, .int .i64 c, .slice sa slen scap] W fun e w' => e = .returned (.bool true) ∧ Up W w' := by
  have HM : Hid _ := made_any hL hA
  have HM2 : Hid (∀ w, Up W w → Calls Tryd.prog 13 #[.slice aa len cap] w fun e w' => e = .returned (.pointer (some ⟨w.heap.size, 0, none⟩)) ∧ Pb w [] w.heap.size (madeP len f).1 (madeP len f).2 w') := fun w u => made_any (hL.up u) (hA.up u)
  have HP : Hid (∀ W, Calls Tryd.prog 14 #[.int .i64 c, .int .i64 1099511627776] W fun e w' => e = .returned (.int .i64 (pickI c 1099511627776)) ∧ w' = W) := fun W => pick_any c 1099511627776 W hc (by decide) (by decide)
  have HI : Hid _ := hS
  have n0 := pickI_lo c 1099511627776 (by decide)
  have n1 := pickI_hi c 1099511627776 (by decide)
  generalize pickI c 1099511627776 = N at *
  have mk := actsP_ok f (newPo, []) newPo_ok newPo_ln (by decide) (min len 200)
  change (madeP len f).1.Ok ∧ (madeP len f).1.Ln ∧ (madeP len f).2.length ≤ 256 at mk
  generalize madeP len f = S at *
  obtain ⟨q, us⟩ := S
  dsimp only at *
  have ok := mk.1
  have ln := mk.2.1
  clear mk
  clear hL hA hc hS
  generalize hB : W.heap.size = B at *
  go_enter Tryd.func10, Tryd.ntmps10
  go_wp2_with fail
  refine Calls.mono HM.out ?_
  rintro e w1 ⟨rfl, h1⟩
  have P1 : Hid _ := h1
  clear h1 HM
  go_wp2_with fail
  refine (HM2.out w1 P1.out.up).mono ?_
  rintro e w2 ⟨rfl, h2⟩
  have T2 : Hid _ := Two.made P1.out h2
  generalize w1.heap.size = D at *
  clear h2 P1 HM2
  go_wp2_with fail
  refine (HP.out _).mono ?_
  rintro e w' ⟨rfl, hw'⟩
  obtain rfl := hw'.symm
  clear HP
  go_wp2_with fail
  refine (step_low (-1 - N) (by omega) _).mono ?_
  rintro e w3 ⟨rfl, u3⟩
  have T3 : Hid _ := T2.out.more u3
  clear T2 u3
  go_wp2_with fail
  refine (step_high (1000001 + N) (by omega) _).mono ?_
  rintro e w4 ⟨rfl, u4⟩
  have T4 : Hid _ := T3.out.more u4
  clear T3 u4
  go_wp2_with fail
  refine (press_high (256 + N) (by omega) _).mono ?_
  rintro e w5 ⟨rfl, u5⟩
  have T5 : Hid _ := T4.out.more u5
  clear T4 u5
  go_wp2_with fail
  refine (raise_high (5 + N) (by omega) _).mono ?_
  rintro e w6 ⟨rfl, u6⟩
  have T6 : Hid _ := T5.out.more u6
  clear T5 u6
  go_wp2_with fail
  refine (take_low (-1 - N) (by omega) _).mono ?_
  rintro e w7 ⟨rfl, u7⟩
  have T7 : Hid _ := T6.out.more u7
  clear T6 u7
  go_wp2_with fail
  refine (write_high (256 + N) (by omega) _).mono ?_
  rintro e w8 ⟨rfl, u8⟩
  have T8 : Hid _ := T7.out.more u8
  clear T7 u8
  go_wp2_with fail
  refine (write_far (65296 + N) 1 (by omega) _).mono ?_
  rintro e w9 ⟨rfl, u9⟩
  have T9 : Hid _ := T8.out.more u9
  clear T8 u9
  go_wp2_with fail
  refine (T9.out.loadAny (HI.out.up T9.out.up)).mono ?_
  rintro e w10 (⟨rfl, r, h10⟩ | ⟨rfl, u10⟩)
  · have TA : Hid _ := h10
    clear h10 T9
    go_wp2_with fail
    refine (TA.out.symm.fst.state).mono ?_
    rintro e w11 ⟨rfl, B11, u11⟩
    have TB : Hid _ := TA.out.more u11
    have HLd : Hid _ := TB.out.left (fun K k => k.load ok ln _ 0 19 (by decide) (by decide) B11)
    clear u11 B11 TA
    go_wp2_with fail
    refine Calls.mono HLd.out ?_
    rintro e w12 ⟨rfl, h12⟩
    have TC : Hid _ := h12
    clear h12 HLd TB
    go_wp2_with fail
    refine (read_far (65279 - N) (by omega) _).mono ?_
    rintro e w13 ⟨rfl, u13⟩
    have HAl : Hid _ := Two.alike (TC.out.more u13)
    clear TC u13
    go_wp2_with fail
    refine Calls.mono HAl.out ?_
    rintro e w14 ⟨rfl, h14⟩
    have TD : Hid _ := h14
    clear h14 HAl
    go_wp2_with fail
    go_ret
    exact ⟨by first | rfl | exact retB (by simp), TD.out.up⟩
  · have TC : Hid _ := T9.out.more u10
    clear T9 u10
    go_wp2_with fail
    refine (read_far (65279 - N) (by omega) _).mono ?_
    rintro e w13 ⟨rfl, u13⟩
    have HAl : Hid _ := Two.alike (TC.out.more u13)
    clear TC u13
    go_wp2_with fail
    refine Calls.mono HAl.out ?_
    rintro e w14 ⟨rfl, h14⟩
    have TD : Hid _ := h14
    clear h14 HAl
    go_wp2_with fail
    go_ret
    exact ⟨by first | rfl | exact retB (by simp), TD.out.up⟩
end Go.Proofs.YteomldlmdpphaaaDoor
