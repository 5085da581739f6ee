/- Sched: the law's settle. -/
import Derived.Test.YtakciepfckdpfaaSaD
namespace Go.Proofs.Ytakciepfckdpfaa
open Go.RowKit
set_option linter.unusedVariables false
set_option linter.unusedSimpArgs false
variable {w w' W W0 : World} {ρ : Nat → Nat} {wb : Nat} {P : Pos} {ps : List (Nat × Nat)} {Sx Sy : List Sd} {F : List (Nat × List Int)} {A : List Value} {G : List (List Int)} {Lv : List Value} {Lm : List Int}
theorem fval_inj {e e' : Nat × List Int} (h : fval e' = fval e) : e'.1 = e.1 ∧ e'.2.length = e.2.length := by
  unfold fval at h
  injection h with h1 h2 _
  injection h1 with h1
  injection h1 with h1 _
  exact ⟨h1, h2⟩
/-- an entry of a list of entries that look the same -/
theorem fval_at {F F' : List (Nat × List Int)} {i : Nat} {e : Nat × List Int} (h : F'.map fval = F.map fval) (he : F'[i]? = some e) : (F.map fval)[i]? = some (fval e) := by rw [← h, List.getElem?_map, he]; rfl
theorem own_base {w : World} {b1 b2 n size : Nat} {ty : TypeId} {v : Value} {xs : List Value} (h : w.ownsRow b2 ty size v n xs) (hb : b1 ≤ b2) : w.ownsRow b1 ty size v n xs :=
  ⟨h.1, h.2.imp (fun h => h) fun ⟨g, cap, cur, q⟩ => ⟨g, cap, cur, q.1, Nat.le_trans hb q.2.1, q.2.2⟩⟩
theorem heap_alloc_lt9 (w : World) (o : Obj) : w.heap.size < (w.alloc o).heap.size := by simp
theorem cells_new (w : World) (cs : List Value) (t : TypeId) : ∀ j u, cs[j]? = some u → (w.alloc (.cells cs.toArray t)).cell? ((⟨w.heap.size, 0, none⟩ : Addr).add j) = some u := by
  intro j u hu
  rw [Addr.add_lit, Nat.zero_add, cell_of_row _ _ _ _ _ _ (heap_alloc_new w _)]
  simpa using hu
theorem cell_two_new (w : World) (x y : Value) (t : TypeId) : ∀ j u, [x, y][j]? = some u → (w.alloc (.cells #[x, y] t)).cell? ((⟨w.heap.size, 0, none⟩ : Addr).add j) = some u := cells_new w [x, y] t
theorem cell_three_new (w : World) (x y z : Value) (t : TypeId) : ∀ j u, [x, y, z][j]? = some u → (w.alloc (.cells #[x, y, z] t)).cell? ((⟨w.heap.size, 0, none⟩ : Addr).add j) = some u := cells_new w [x, y, z] t
theorem cell_four_new (w : World) (x y z q : Value) (t : TypeId) : ∀ j u, [x, y, z, q][j]? = some u → (w.alloc (.cells #[x, y, z, q] t)).cell? ((⟨w.heap.size, 0, none⟩ : Addr).add j) = some u := cells_new w [x, y, z, q] t
def mkI (f i : Nat) : Int := -2 - (f : Int) - 4 * (i : Int)
theorem rep_of {l : List Int} {m : Int} (h : ∀ x ∈ l, x = m) : l = List.replicate l.length m := List.eq_replicate_iff.2 ⟨rfl, h⟩
set_option maxRecDepth 100000 in
set_option maxHeartbeats 4000000 in
theorem settle_any (h : Bk 22 W0 ρ W wb P ps Sx Sy F A G Lv Lm) (hL : Lm.length = Lv.length) (hA : A.length = F.length) (hG : G = F.map Prod.snd) (hF : F.length ≤ 100) (hM : Lv.length ≤ 1099511627776) :
    Calls Try.prog 21 #[.pointer (some ⟨wb, 0, none⟩)] W fun e w' => e = .returned (.bool true) ∧ ∃ ρ' P' Lv' Lm', Bk 22 W0 ρ' w' wb P' ps Sx Sy [] [] [] Lv' Lm' ∧ Lm'.length = Lv'.length ∧ Lv'.length = Lv.length + 4 * F.length := by
  obtain ⟨fa, fc, hfv, f1, f2⟩ := own_slice h.fR.own
  obtain ⟨xa, xc, hav, x1, x2⟩ := own_slice h.aR.own
  obtain ⟨ma, mc, hmv, m1, m2⟩ := own_slice h.mR.own
  have k4 : W.cell? ⟨wb, 4, none⟩ = some (.slice ma Lm.length mc) := by rw [← hmv]; exact heap_cell h.blk rfl
  have HK : Hid (∀ w, Up W w → w.cell? ⟨wb, 1, none⟩ = some (.slice fa F.length fc) ∧ w.cell? ⟨wb, 2, none⟩ = some (.slice xa A.length xc)) := fun w u => ⟨cell_up u (by rw [← hfv]; exact heap_cell h.blk rfl), cell_up u (by rw [← hav]; exact heap_cell h.blk rfl)⟩
  have HR : Hid (∀ (i : Nat), i < F.length → ∃ gf ga l1 l2 l3 l4 l5 l6, fa = some ⟨gf, 0, none⟩ ∧ xa = some ⟨ga, 0, none⟩ ∧ (∀ w, Up W w → w.cell? ⟨gf, i, none⟩ = some (.slice l1 l2 l3) ∧ w.cell? ⟨ga, i, none⟩ = some (.slice l4 l5 l6) ∧ Calls Try.prog 18 #[.slice l1 l2 l3, .slice l4 l5 l6] w fun e w' => e = .returned (.bool true) ∧ Up w w')) := fun i hi => by
    obtain ⟨e, he⟩ : ∃ e, F[i]? = some e := ⟨_, List.getElem?_eq_getElem hi⟩
    obtain ⟨v, hv⟩ : ∃ v, A[i]? = some v := ⟨_, List.getElem?_eq_getElem (by omega)⟩
    obtain ⟨gf, cf, e1, k1⟩ := h.fR.at1 (x := fval e) (j := i) (by rw [List.getElem?_map, he]; rfl)
    obtain ⟨ga, ca, e2, k2⟩ := h.aR.at1 hv
    have hx := h.fI e (List.mem_of_getElem? he)
    have hy := h.aI i v e.2 hv (by rw [hG, List.getElem?_map, he]; rfl)
    obtain ⟨l4, l5, l6, e3⟩ := own_slice3 hy.own
    rw [hfv] at e1
    rw [hav] at e2
    injection e1 with e1
    injection e2 with e2
    rw [e3] at k2
    refine ⟨gf, ga, some ⟨e.1, 0, none⟩, e.2.length, e.2.length, l4, l5, l6, e1, e2, fun w u => ⟨cell_up u k1, cell_up u k2, ?_⟩⟩
    rw [← e3]
    exact same_yes (l := e.2) ((Ln.of hx.own).up u) ((Ln.of hy.own).up u)
  have HB : Hid (Bk 22 W0 ρ W wb P ps Sx Sy F A G Lv Lm) := h
  have HPf : Hid (P.fV = .slice fa F.length fc) := hfv
  have HLm : Hid (Lm.length = Lv.length) := hL
  have haF : A.length = F.length := hA
  have hl40 : Lm.length ≤ 1099511627776 := by omega
  rw [haF] at HK
  have hii : Try.prog.info? 3 = some Try.t3 := by kernel_rfl
  have hil : Try.prog.info? 35 = some Try.t35 := by kernel_rfl
  clear h hfv hav hmv hL hG hA haF x1
  obtain ⟨nF, hnF⟩ : ∃ nF, nF = F.length := ⟨_, rfl⟩
  have HNF : Hid (nF = F.length) := hnF
  rw [← hnF] at HK HR hF f1 HPf
  clear hnF
  obtain ⟨fr, hfr⟩ : ∃ fr, fr = Lm.length := ⟨_, rfl⟩
  have HFR : Hid (fr = Lm.length) := hfr
  rw [← hfr] at k4 hl40 m1
  clear hfr
  go_enter Try.func21, Try.ntmps21
  go_wp2_with fail
  go_loopw [4, 5] (fun I _ wr => ∃ i : Nat, i ≤ nF ∧ I = .int .i64 (i : Int) ∧ Hid (Up W wr)) (fun I _ _ => nF - (intOf I).toNat)
  case atStart => exact ⟨0, by omega, rfl, Up.refl W⟩
  case round =>
    obtain ⟨i, hi, rfl, HU⟩ := hrel
    obtain ⟨k1, k2⟩ := HK.out wr HU.out
    by_cases hlt : i < nF
    · have d1 : (i : Int) < (nF : Int) := by omega
      obtain ⟨gf, ga, l1, l2, l3, l4, l5, l6, rfl, rfl, hc⟩ := HR.out i hlt
      have HC : Hid _ := hc
      clear hc HR
      go_wp2_with fail
      refine wp_still2 14 (by kernel_rfl) (by decide +kernel) ?_
      intro w1 hw1
      have HU1 : Hid (Up W w1) := by rw [hw1]; exact HU.out.drew
      clear k1 k2 hw1 HU
      obtain ⟨k1, k2⟩ := HK.out w1 HU1.out
      obtain ⟨q1, q2, hq⟩ := HC.out w1 HU1.out
      have HQ : Hid _ := hq
      clear hq HC
      simp only [List.take_succ_cons, List.take_zero, List.drop_succ_cons, List.drop_zero]
      repeat (go_big_quiet_step (fail))
      refine wpQuiet_nil ?_
      go_wp2_with fail
      refine Calls.mono HQ.out ?_
      rintro e w2 ⟨rfl, u2⟩
      have HU2 : Hid (Up W w2) := HU1.out.trans u2
      clear u2 HQ HU1
      go_wp2_with fail
      refine ⟨⟨i + 1, by omega, by first | rfl | (simp; done), HU2⟩, ?_⟩
      simp [intOf]
      omega
    · have d1 : ¬ (i : Int) < (nF : Int) := by omega
      have HB1 : Hid (∃ ρ' F', Bk 22 W0 ρ' wr wb P ps Sx Sy F' A G Lv Lm ∧ F'.map fval = F.map fval ∧ ∀ (j : Nat) (e : Nat × List Int), j < 0 → F'[j]? = some e → ∀ x ∈ e.2, x = mkI fr j) := ⟨_, F, HB.out.upR (r := 30) HU.out (by omega), rfl, fun j e hj => absurd hj (by omega)⟩
      clear HB HR HU k2 HK
      generalize wr = w5 at HB1 k1 ⊢
      go_wp2_with fail
      clear k1
      go_loopw [6, 7] (fun I _ wr => ∃ i : Nat, i ≤ nF ∧ I = .int .i64 (i : Int) ∧ Hid (∃ ρ' F', Bk 22 W0 ρ' wr wb P ps Sx Sy F' A G Lv Lm ∧ F'.map fval = F.map fval ∧ ∀ (j : Nat) (e : Nat × List Int), j < i → F'[j]? = some e → ∀ x ∈ e.2, x = mkI fr j)) (fun I _ _ => nF - (intOf I).toNat)
      case atStart => exact ⟨0, by omega, rfl, HB1⟩
      case round =>
        clear HB1
        obtain ⟨i2, hi2, rfl, HB1⟩ := hrel
        obtain ⟨ρ1, F1, hb, hm, hp⟩ := HB1.out
        have k1 : wr.cell? ⟨wb, 1, none⟩ = some (.slice fa nF fc) := by rw [← HPf.out]; exact heap_cell hb.blk rfl
        by_cases hlt : i2 < nF
        · have d2 : (i2 : Int) < (nF : Int) := by omega
          have hl1 : F1.length = nF := by have := congrArg List.length hm; simp at this; rw [this]; exact HNF.out.symm
          obtain ⟨⟨g, ids⟩, he⟩ : ∃ e, F1[i2]? = some e := ⟨_, List.getElem?_eq_getElem (by omega)⟩
          obtain ⟨gf, cf, e1, kf⟩ := hb.fR.at1 (x := fval (g, ids)) (j := i2) (by rw [List.getElem?_map, he]; rfl)
          rw [HPf.out] at e1
          injection e1 with e1
          subst e1
          have HFM : Hid ((F.map fval)[i2]? = some (fval (g, ids))) := fval_at hm he
          have HGF : Hid (∀ (ρ' : Nat → Nat) (F' : List (Nat × List Int)) (w : World), Bk 22 W0 ρ' w wb P ps Sx Sy F' A G Lv Lm → F'.map fval = F.map fval → w.cell? ⟨wb, 1, none⟩ = some (.slice (some ⟨gf, 0, none⟩) nF fc) ∧ w.cell? ⟨gf, i2, none⟩ = some (.slice (some ⟨g, 0, none⟩) ids.length ids.length) ∧ ∃ ids', F'[i2]? = some (g, ids') ∧ ids'.length = ids.length ∧ ∀ k, k < ids.length → ∃ x, w.cell? ⟨g, k, none⟩ = some (.int .i64 x) ∧ w.frozen? ⟨g, k, none⟩ = false) := fun ρ' F' w hb' hm' => by
            have q1 : w.cell? ⟨wb, 1, none⟩ = some P.fV := heap_cell hb'.blk rfl
            have q2 : (F'.map fval)[i2]? = some (fval (g, ids)) := by rw [hm']; exact HFM.out
            obtain ⟨gf', cf', e2, kf'⟩ := hb'.fR.at1 q2
            rw [HPf.out] at e2 q1
            injection e2 with e2
            injection e2 with e2
            injection e2 with e2 _
            subst e2
            rw [List.getElem?_map] at q2
            obtain ⟨⟨g', ids'⟩, q3, q4⟩ := Option.map_eq_some_iff.1 q2
            obtain ⟨q5, q6⟩ := fval_inj q4
            have q5 : g' = g := q5
            have q6 : ids'.length = ids.length := q6
            subst q5
            refine ⟨q1, kf', ids', q3, q6, fun k hk => ?_⟩
            have hx := hb'.fI _ (List.mem_of_getElem? q3)
            have ho : w.ownsRow 0 3 1 (.slice (some ⟨g', 0, none⟩) ids'.length ids'.length) ids'.length (nums ids') := hx.own
            obtain ⟨cur, hg, _⟩ := own_open ho
            have := own_cell ho k (by omega)
            rw [Nat.zero_add] at this
            obtain ⟨x, hx2⟩ : ∃ x, ids'[k]? = some x := ⟨_, List.getElem?_eq_getElem (by omega)⟩
            exact ⟨x, by rw [this]; exact nums_at hx2, heap_fz hg⟩
          have HI2 : Hid (∃ ρ' F', Bk 22 W0 ρ' wr wb P ps Sx Sy F' A G Lv Lm ∧ F'.map fval = F.map fval ∧ (∀ (j : Nat) (e : Nat × List Int), j < i2 → F'[j]? = some e → ∀ x ∈ e.2, x = mkI fr j) ∧ ∀ (e : Nat × List Int), F'[i2]? = some e → ∀ (t : Nat) (x : Int), t < 0 → e.2[t]? = some x → x = mkI fr i2) := ⟨ρ1, F1, hb, hm, hp, fun e he t x ht => absurd ht (by omega)⟩
          have hn64 : ids.length ≤ 64 := hb.fl _ (List.mem_of_getElem? he)
          clear hb hm hp he kf HB1 hl1 HFM
          obtain ⟨n, hn⟩ : ∃ n, n = ids.length := ⟨_, rfl⟩
          rw [← hn] at HGF hn64
          clear hn
          go_wp2_with fail
          clear k1
          obtain ⟨w6, hw6⟩ : ∃ w6, w6 = wr := ⟨_, rfl⟩
          rw [← hw6] at HI2 ⊢
          clear hw6
          go_loopw [7] (fun J wr => ∃ k : Nat, k ≤ n ∧ J = .int .i64 (k : Int) ∧ Hid (∃ ρ' F', Bk 22 W0 ρ' wr wb P ps Sx Sy F' A G Lv Lm ∧ F'.map fval = F.map fval ∧ (∀ (j : Nat) (e : Nat × List Int), j < i2 → F'[j]? = some e → ∀ x ∈ e.2, x = mkI fr j) ∧ ∀ (e : Nat × List Int), F'[i2]? = some e → ∀ (t : Nat) (x : Int), t < k → e.2[t]? = some x → x = mkI fr i2)) (fun J _ => n - (intOf J).toNat)
          case atStart => exact ⟨0, by omega, rfl, HI2⟩
          case round =>
            clear HI2
            obtain ⟨k, hk, rfl, HI2⟩ := hrel
            obtain ⟨ρ2, F2, hb, hm, hp, hq⟩ := HI2.out
            obtain ⟨k1, kf, ids', q3, q6, hcell⟩ := HGF.out ρ2 F2 wr hb hm
            by_cases hkl : k < n
            · have d3 : (k : Int) < (n : Int) := by omega
              obtain ⟨x, kx, zx⟩ := hcell k hkl
              have HN : Hid (∃ ρ' F', Bk 22 W0 ρ' (wr.setCell ⟨g, k, none⟩ (.int .i64 (mkI fr i2))) wb P ps Sx Sy F' A G Lv Lm ∧ F'.map fval = F.map fval ∧ (∀ (j : Nat) (e : Nat × List Int), j < i2 → F'[j]? = some e → ∀ x ∈ e.2, x = mkI fr j) ∧ ∀ (e : Nat × List Int), F'[i2]? = some e → ∀ (t : Nat) (x : Int), t < k + 1 → e.2[t]? = some x → x = mkI fr i2) := by
                obtain ⟨ρ3, hb3⟩ := hb.mark (m := mkI fr i2) q3 (show k < ids'.length by omega)
                have hi9 := (List.getElem?_eq_some_iff.1 q3).1
                refine ⟨ρ3, _, hb3, by rw [set_map q3 (by unfold fval; simp)]; exact hm, fun j e hj he => ?_, fun e he t y ht hy => ?_⟩
                · rw [List.getElem?_set, if_neg (by omega)] at he
                  exact hp j e hj he
                · rw [List.getElem?_set, if_pos rfl, if_pos hi9] at he
                  injection he with he
                  subst he
                  have hy : (ids'.set k (mkI fr i2))[t]? = some y := hy
                  rw [List.getElem?_set] at hy
                  by_cases e9 : k = t
                  · rw [if_pos e9, if_pos (by omega)] at hy
                    injection hy with hy
                    exact hy.symm
                  · rw [if_neg e9] at hy
                    exact hq _ q3 t y (by omega) hy
              unfold mkI at HN
              clear hb hm hp hq q3 q6 hcell HI2
              go_wp2_with fail
              refine ⟨⟨k + 1, by omega, by first | rfl | (simp; done), HN⟩, ?_⟩
              simp [intOf]
              omega
            · have d3 : ¬ (k : Int) < (n : Int) := by omega
              have HN : Hid (∃ ρ' F', Bk 22 W0 ρ' wr wb P ps Sx Sy F' A G Lv Lm ∧ F'.map fval = F.map fval ∧ ∀ (j : Nat) (e : Nat × List Int), j < i2 + 1 → F'[j]? = some e → ∀ x ∈ e.2, x = mkI fr j) := ⟨ρ2, F2, hb, hm, fun j e hj he x hx => by
                by_cases e9 : j = i2
                · subst e9
                  obtain ⟨t, ht⟩ := List.mem_iff_getElem?.1 hx
                  have h7 := (List.getElem?_eq_some_iff.1 ht).1
                  refine hq e he t x ?_ ht
                  rw [q3] at he
                  injection he with he
                  subst he
                  have h8 : ids'.length = n := q6
                  have h7 : t < ids'.length := h7
                  omega
                · exact hp j e (by omega) he x hx⟩
              clear hb hm hp hq q3 q6 hcell HI2
              go_wp2_with fail
              refine ⟨⟨i2 + 1, by omega, by first | rfl | (simp; done), HN⟩, ?_⟩
              simp [intOf]
              omega
        · have d2 : ¬ (i2 : Int) < (nF : Int) := by omega
          obtain ⟨ρ2, hb2⟩ := hb.rerole
          have HAll : Hid (∀ (j : Nat) (e : Nat × List Int), F1[j]? = some e → ∀ x ∈ e.2, x = mkI fr j) := fun j e he x hx => hp j e (by
            have h7 := (List.getElem?_eq_some_iff.1 he).1
            have h8 := congrArg List.length hm
            simp at h8
            have h9 := HNF.out
            omega) he x hx
          have HFM : Hid (F1.map fval = F.map fval) := hm
          have HB4 : Hid (∃ ρ' P' Lv' Lm', Bk 21 W0 ρ' wr wb P' ps Sx Sy F1 A G Lv' Lm' ∧ P'.fV = P.fV ∧ Lm'.length = Lv'.length ∧ Lv'.length = Lv.length + 4 * 0) := ⟨ρ2, P, Lv, Lm, hb2, rfl, HLm.out, by omega⟩
          clear hb hm hp hb2 HB1
          generalize wr = w7 at HB4 k1 ⊢
          go_wp2_with fail
          clear k1
          go_loopw [8, 9, 10, 11, 12, 13] (fun I _ _ _ _ _ wr => ∃ i : Nat, i ≤ nF ∧ I = .int .i64 (i : Int) ∧ Hid (∃ ρ' P' Lv' Lm', Bk 21 W0 ρ' wr wb P' ps Sx Sy F1 A G Lv' Lm' ∧ P'.fV = P.fV ∧ Lm'.length = Lv'.length ∧ Lv'.length = Lv.length + 4 * i)) (fun I _ _ _ _ _ _ => nF - (intOf I).toNat)
          case atStart => exact ⟨0, by omega, rfl, HB4⟩
          case round =>
            clear HB4
            obtain ⟨i4, hi4, rfl, HB4⟩ := hrel
            obtain ⟨ρ4, P4, Lv4, Lm4, hb, hpf, hl4, hl5⟩ := HB4.out
            have k1 : wr.cell? ⟨wb, 1, none⟩ = some (.slice fa nF fc) := by rw [← HPf.out, ← hpf]; exact heap_cell hb.blk rfl
            by_cases hlt : i4 < nF
            · have d4 : (i4 : Int) < (nF : Int) := by omega
              obtain ⟨⟨g, ids⟩, he⟩ : ∃ e, F1[i4]? = some e := ⟨_, List.getElem?_eq_getElem (by have h8 := congrArg List.length HFM.out; simp at h8; have h9 := HNF.out; omega)⟩
              obtain ⟨gf, cf, e1, kf⟩ := hb.fR.at1 (x := fval (g, ids)) (j := i4) (by rw [List.getElem?_map, he]; rfl)
              rw [hpf, HPf.out] at e1
              injection e1 with e1
              subst e1
              have hn64 : ids.length ≤ 64 := hb.fl _ (List.mem_of_getElem? he)
              have hrep := rep_of (HAll.out i4 _ he)
              have hrep : ids = List.replicate ids.length (mkI fr i4) := hrep
              have hl0 := hb.fI _ (List.mem_of_getElem? he)
              have hl0 : Rw ρ4 21 wr 3 1 (.slice (some ⟨g, 0, none⟩) ids.length ids.length) ids.length (nums ids) := hl0
              obtain ⟨n, hn⟩ : ∃ n, n = ids.length := ⟨_, rfl⟩
              rw [hrep, List.length_replicate, ← hn] at hl0
              have kf2 : wr.cell? ⟨gf, i4, none⟩ = some (.slice (some ⟨g, 0, none⟩) n n) := by rw [hn]; exact kf
              rw [← hn] at hn64
              obtain ⟨m, hm⟩ : ∃ m, m = mkI fr i4 := ⟨_, rfl⟩
              rw [← hm] at hl0
              have em : -2 - (fr : Int) - 4 * (i4 : Int) = m := by rw [hm]; rfl
              have HLc : Hid (∀ w, Up wr w → ∀ b, some (⟨g, 0, none⟩ : Addr) = some b → ∀ j u, (nums (List.replicate n m))[j]? = some u → w.cell? (b.add j) = some u) := fun w u b hb j v hv => by
                injection hb with hb
                subst hb
                have hjl := (List.getElem?_eq_some_iff.1 hv).1
                rw [nums_len, List.length_replicate] at hjl
                have := own_cell hl0.own j (by omega)
                rw [Addr.add_lit]
                exact cell_up u (by rw [this]; exact hv)
              have HNl : Hid ((nums (List.replicate n m)).length = n * 1) := by show _ = _; rw [nums_len, List.length_replicate]; omega
              have HOne : Hid (∀ u ∈ nums (List.replicate n m), u.oneCell' = true) := nums_one _
              obtain ⟨sa, sc, hsv, s1, s2⟩ := own_slice hb.sR.own
              obtain ⟨ma4, mc4, hmv, mm1, mm2⟩ := own_slice hb.mR.own
              have HFour : Hid (∀ w6 v1 v2 v3, Up wr w6 → w6.ownsRow wr.heap.size 3 1 v1 (n + 1) (nums (List.replicate (n + 1) m)) → w6.ownsRow wr.heap.size 3 1 v2 (n + 2) (nums (List.replicate (n + 2) m)) → w6.ownsRow wr.heap.size 3 1 v3 (n + 3) (nums (List.replicate (n + 3) m)) →
                (∀ w7, Up w6 w7 → w7.ownsRow 0 35 1 (.slice sa Lv4.length sc) Lv4.length Lv4) ∧ (w6.cell? ⟨wb, 3, none⟩ = some (.slice sa Lv4.length sc)) ∧ ∀ w7 w8 v', Up w6 w7 → w7.grownBy w8 (Value.slice sa Lv4.length sc).ownBlock → w8.ownsRow 0 35 1 v' (Lv4.length + 4) (Lv4 ++ [.slice (some ⟨g, 0, none⟩) n n, v1, v2, v3]) → (v'.ownBlock = (Value.slice sa Lv4.length sc).ownBlock ∨ v'.ownBlock = some w7.heap.size) →
                  (w8.cell? ⟨wb, 3, none⟩ = some (.slice sa Lv4.length sc) ∧ w8.frozen? ⟨wb, 3, none⟩ = false) ∧ (∀ w9, Up (w8.setCell ⟨wb, 3, none⟩ v') w9 → w9.ownsRow 0 3 1 (.slice ma4 Lm4.length mc4) Lm4.length (nums Lm4)) ∧ (w8.setCell ⟨wb, 3, none⟩ v').cell? ⟨wb, 4, none⟩ = some (.slice ma4 Lm4.length mc4) ∧
                  ∀ w9 w10 v'', Up (w8.setCell ⟨wb, 3, none⟩ v') w9 → w9.grownBy w10 (Value.slice ma4 Lm4.length mc4).ownBlock → w10.ownsRow 0 3 1 v'' (Lm4.length + 4) (nums Lm4 ++ [.int .i64 m, .int .i64 m, .int .i64 m, .int .i64 m]) → (v''.ownBlock = (Value.slice ma4 Lm4.length mc4).ownBlock ∨ v''.ownBlock = some w9.heap.size) →
                    (w10.cell? ⟨wb, 4, none⟩ = some (.slice ma4 Lm4.length mc4) ∧ w10.frozen? ⟨wb, 4, none⟩ = false) ∧ ∃ ρ' P' Lv' Lm', Bk 21 W0 ρ' (w10.setCell ⟨wb, 4, none⟩ v'') wb P' ps Sx Sy F1 A G Lv' Lm' ∧ P'.fV = P.fV ∧ Lm'.length = Lv'.length ∧ Lv'.length = Lv.length + 4 * (i4 + 1)) := fun w6 v1 v2 v3 u6 o1 o2 o3 => by
                obtain ⟨ρ6, b6, hvs⟩ := hb.four u6 hl0 o1 o2 o3 hn64
                refine ⟨fun w7 u7 => by rw [← hsv]; exact ownsRow_up b6.sR.own u7, by rw [← hsv]; exact heap_cell b6.blk rfl, fun w7 w8 v' u7 g8 o8 a8 => ?_⟩
                rw [← hsv] at g8 a8 ⊢
                obtain ⟨⟨ρ8, b8, hcar⟩, q1, q2⟩ := b6.putS (vs := [.slice (some ⟨g, 0, none⟩) n n, v1, v2, v3]) hl4 u7 g8 o8 a8
                refine ⟨⟨q1, q2⟩, fun w9 u9 => by rw [← hmv]; exact ownsRow_up b8.mR.own u9, by rw [← hmv]; exact heap_cell b8.blk rfl, fun w9 w10 v'' u9 g10 o10 a10 => ?_⟩
                rw [← hmv] at g10 a10 ⊢
                obtain ⟨⟨ρ10, b10⟩, q3, q4⟩ := b8.putM (vs := [.slice (some ⟨g, 0, none⟩) n n, v1, v2, v3]) (ms := [m, m, m, m]) hl4 (fun i v m' hv hm' => by
                  obtain ⟨k, z1, z2⟩ := hvs i v m' hv hm'
                  exact ⟨k, z1, hcar _ _ _ _ _ z2⟩) u9 g10 o10 a10
                exact ⟨⟨q3, q4⟩, ρ10, _, _, _, b10, hpf, by rw [List.length_append, List.length_append, hl4]; rfl, by rw [List.length_append, hl5]; simp; omega⟩
              have hLb : Lv4.length ≤ 1099511628176 := by omega
              have hMb : Lm4.length ≤ 1099511628176 := by omega
              clear hb hpf hl4 hl5 he kf hrep hl0 hsv hmv HB4 hn
              generalize Lv4.length = nv at *
              generalize Lm4.length = nm at *
              clear hm
              go_wp2_with (first
                | (at_builtin; refine wpList_append_grows _ rfl _ _ 35 rfl 3 Try.t3 (.int .i64 0) 1 8 Try.underlying35 hii rfl rfl rfl rfl (by decide) (some ⟨g, 0, none⟩) n n _ rfl (fun e => by cases e) HNl.out (HLc.out _ ((Up.refl wr).alloc _)) ⟨wr.heap.size, 0, none⟩ 1 1 [.int .i64 m] rfl rfl (cell_one_new _ _ _) (by intro u hu; simp at hu; subst hu; rfl) (by omega) (by unfold maxLen; omega) (by omega) ?_; intro v1 wA oA gA; have HA1 : Hid (Up wr wA ∧ wA.ownsRow wr.heap.size 3 1 v1 (n + 1) (nums (List.replicate (n + 1) m))) := And.intro (((Up.refl wr).alloc _).trans ⟨gA.os, gA.output, gA.size, fun b hb => gA.block b hb (by simp)⟩) (by rw [← rep_snoc]; exact own_base oA (Nat.le_of_lt (heap_alloc_lt9 wr _))); obtain ⟨a1, n1, c1, rfl⟩ := own_slice3 oA; clear oA gA)
                | (at_builtin; refine wpList_append_grows _ rfl _ _ 35 rfl 3 Try.t3 (.int .i64 0) 1 8 Try.underlying35 hii rfl rfl rfl rfl (by decide) (some ⟨g, 0, none⟩) n n _ rfl (fun e => by cases e) HNl.out (HLc.out _ (HA1.out.1.trans ((Up.refl wA).alloc _))) ⟨wA.heap.size, 0, none⟩ 2 2 [.int .i64 m, .int .i64 m] rfl rfl (cell_two_new _ _ _ _) (by intro u hu; simp at hu; subst hu; rfl) (by omega) (by unfold maxLen; omega) (by omega) ?_; intro v2 wB oB gB; have HB2 : Hid (Up wA wB ∧ wB.ownsRow wr.heap.size 3 1 v2 (n + 2) (nums (List.replicate (n + 2) m))) := And.intro (((Up.refl wA).alloc _).trans ⟨gB.os, gB.output, gB.size, fun b hb => gB.block b hb (by simp)⟩) (by rw [← rep_two]; exact own_base oB (Nat.le_trans HA1.out.1.size (Nat.le_of_lt (heap_alloc_lt9 wA _)))); obtain ⟨a2, n2, c2, rfl⟩ := own_slice3 oB; clear oB gB)
                | (at_builtin; refine wpList_append_grows _ rfl _ _ 35 rfl 3 Try.t3 (.int .i64 0) 1 8 Try.underlying35 hii rfl rfl rfl rfl (by decide) (some ⟨g, 0, none⟩) n n _ rfl (fun e => by cases e) HNl.out (HLc.out _ ((HA1.out.1.trans HB2.out.1).trans ((Up.refl wB).alloc _))) ⟨wB.heap.size, 0, none⟩ 3 3 [.int .i64 m, .int .i64 m, .int .i64 m] rfl rfl (cell_three_new _ _ _ _ _) (by intro u hu; simp at hu; subst hu; rfl) (by omega) (by unfold maxLen; omega) (by omega) ?_; intro v3 wC oC gC; have HC3 : Hid (Up wB wC ∧ wC.ownsRow wr.heap.size 3 1 v3 (n + 3) (nums (List.replicate (n + 3) m))) := And.intro (((Up.refl wB).alloc _).trans ⟨gC.os, gC.output, gC.size, fun b hb => gC.block b hb (by simp)⟩) (by rw [← rep_three]; exact own_base oC (Nat.le_trans (HA1.out.1.trans HB2.out.1).size (Nat.le_of_lt (heap_alloc_lt9 wB _)))); obtain ⟨a3, n3, c3, rfl⟩ := own_slice3 oC; clear oC gC; have hF9 := HFour.out wC _ _ _ ((HA1.out.1.trans HB2.out.1).trans HC3.out.1) (ownsRow_up (ownsRow_up HA1.out.2 HB2.out.1) HC3.out.1) (ownsRow_up HB2.out.2 HC3.out.1) HC3.out.2; have HO9 : Hid _ := hF9.1; have k3 := hF9.2.1; have HF9 : Hid _ := hF9.2.2; clear hF9)
                | (at_builtin; refine wpList_append_own_at2 _ rfl _ _ 49 49 rfl 0 35 Try.t35 (.slice none 0 0) 1 24 Try.underlying49 Try.underlying49 hil rfl rfl rfl rfl (by decide) _ _ _ rfl (HO9.out _ ((Up.refl wC).alloc _)) ⟨wC.heap.size, 0, none⟩ 4 4 [.slice (some ⟨g, 0, none⟩) n n, .slice a1 n1 c1, .slice a2 n2 c2, .slice a3 n3 c3] rfl rfl (cell_four_new _ _ _ _ _ _) (by intro u hu; simp at hu; rcases hu with rfl | rfl | rfl | rfl <;> rfl) (by unfold maxLen; omega) (by omega) (Nat.zero_le _) ?_; intro v4 wD oD gD aD; have hD := HF9.out _ wD v4 ((Up.refl wC).alloc _) gD oD aD; obtain ⟨a4, n4, c4, rfl⟩ := own_slice3 oD; have kD := hD.1.1; have zD := hD.1.2; have HOD : Hid _ := hD.2.1; have k4D := hD.2.2.1; have HD : Hid _ := hD.2.2.2; clear hD oD gD aD; generalize hwE : World.setCell wD _ _ = wE at HOD k4D HD)
                | (at_builtin; refine wpList_append_own_at2 _ rfl _ _ 35 35 rfl 0 3 Try.t3 (.int .i64 0) 1 8 Try.underlying35 Try.underlying35 hii rfl rfl rfl rfl (by decide) _ _ _ rfl (HOD.out _ ((Up.refl wE).alloc _)) ⟨wE.heap.size, 0, none⟩ 4 4 [.int .i64 m, .int .i64 m, .int .i64 m, .int .i64 m] rfl rfl (cell_four_new _ _ _ _ _ _) (by intro u hu; simp at hu; subst hu; rfl) (by unfold maxLen; omega) (by omega) (Nat.zero_le _) ?_; intro v5 wF oF gF aF; have hF := HD.out _ wF v5 ((Up.refl wE).alloc _) gF oF aF; obtain ⟨a5, n5, c5, rfl⟩ := own_slice3 oF; have kF := hF.1.1; have zF := hF.1.2; have HFin : Hid _ := hF.2; clear hF oF gF aF))
              refine ⟨⟨i4 + 1, by omega, by first | rfl | (push_cast; rfl) | (simp; done), HFin.out⟩, ?_⟩
              simp [intOf]
              omega
            · have d4 : ¬ (i4 : Int) < (nF : Int) := by omega
              have e9 : i4 = nF := by omega
              obtain ⟨ρ9, P9, b9⟩ := hb.clear
              have k9 : ∀ k, k < 5 → ∃ v, wr.cell? ⟨wb, k, none⟩ = some v := fun k hk => by
                have : k = 0 ∨ k = 1 ∨ k = 2 ∨ k = 3 ∨ k = 4 := by omega
                rcases this with rfl | rfl | rfl | rfl | rfl <;> exact ⟨_, heap_cell hb.blk rfl⟩
              obtain ⟨v2, k2⟩ := k9 2 (by decide)
              have z1 : wr.frozen? ⟨wb, 1, none⟩ = false := heap_fz hb.blk
              have z2 : wr.frozen? ⟨wb, 2, none⟩ = false := heap_fz hb.blk
              have HLk : Hid _ := looks_any b9 hl4
              have HE9 : Hid (Bk 22 W0 ρ9 ((wr.setCell ⟨wb, 1, none⟩ (.slice none 0 0)).setCell ⟨wb, 2, none⟩ (.slice none 0 0)) wb P9 ps Sx Sy [] [] [] Lv4 Lm4 ∧ Lm4.length = Lv4.length ∧ Lv4.length = Lv.length + 4 * F.length) := ⟨b9, hl4, by rw [hl5, e9, HNF.out]⟩
              clear hb b9 hl4 hl5 hpf HB4 k9
              go_wp2_with fail
              refine Calls.mono HLk.out ?_
              rintro e wz ⟨rfl, uz⟩
              have HEz : Hid _ := And.intro (HE9.out.1.upR (r := 30) uz (by omega)) HE9.out.2
              clear uz HLk HE9
              go_wp2_with fail
              go_ret
              exact ⟨by first | rfl | (simp; done), _, _, _, _, HEz.out⟩
end Go.Proofs.Ytakciepfckdpfaa
