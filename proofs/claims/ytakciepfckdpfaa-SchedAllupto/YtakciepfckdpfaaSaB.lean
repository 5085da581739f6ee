/- Sched: the law's looks. -/
import Derived.Test.YtakciepfckdpfaaSaA
namespace Go.Proofs.Ytakciepfckdpfaa
open Go.RowKit
set_option linter.unusedVariables false
set_option linter.unusedSimpArgs false
variable {w w' W W0 : World} {ρ : Nat → Nat} {wb φ : Nat} {P : Pos} {ps : List (Nat × Nat)} {Sx Sy : List Sd} {F : List (Nat × List Int)} {A : List Value} {G : List (List Int)} {Lv : List Value} {Lm : List Int}
theorem rep_at {n k : Nat} {m : Int} (h : k < n) : (nums (List.replicate n m))[k]? = some (.int .i64 m) := nums_at (by rw [List.getElem?_replicate, if_pos h])
/-- a cell of a row of one cell each -/
theorem Rw.at1 {r n j : Nat} {ty : TypeId} {v x : Value} {xs : List Value} (h : Rw ρ r w ty 1 v n xs) (hj : xs[j]? = some x) : ∃ g c, v = .slice (some ⟨g, 0, none⟩) n c ∧ w.cell? ⟨g, j, none⟩ = some x := by
  have hl := (List.getElem?_eq_some_iff.1 hj).1
  have h1 := h.own.1
  rcases own_cases h.own with ⟨_, hn, _⟩ | ⟨g, cap, rfl, c1, c2, _⟩
  · omega
  · have := own_cell h.own j (by omega)
    rw [Nat.zero_add] at this
    exact ⟨g, cap, rfl, by rw [this]; exact hj⟩
set_option maxRecDepth 100000 in
set_option maxHeartbeats 1000000 in
theorem looks_any (h : Bk φ W0 ρ W wb P ps Sx Sy F A G Lv Lm) (hL : Lm.length = Lv.length) :
    Calls Try.prog 22 #[.pointer (some ⟨wb, 0, none⟩)] W fun e w' => e = .returned (.bool true) ∧ Up W w' := by
  obtain ⟨sa, sc, hsv, s1, s2⟩ := own_slice h.sR.own
  obtain ⟨ma, mc, hmv, m1, m2⟩ := own_slice h.mR.own
  rw [hL] at hmv m1
  have HK : Hid (∀ w, Up W w → w.cell? ⟨wb, 3, none⟩ = some (.slice sa Lv.length sc) ∧ w.cell? ⟨wb, 4, none⟩ = some (.slice ma Lv.length mc)) := fun w u => ⟨cell_up u (by rw [← hsv]; exact heap_cell h.blk rfl), cell_up u (by rw [← hmv]; exact heap_cell h.blk rfl)⟩
  have HR : Hid (∀ (i : Nat), i < Lv.length → ∃ m gs gm la ln lc, sa = some ⟨gs, 0, none⟩ ∧ ma = some ⟨gm, 0, none⟩ ∧ ln ≤ lc ∧ lc ≤ 9223372036854775807 ∧ (∀ w, Up W w → w.cell? ⟨gs, i, none⟩ = some (.slice la ln lc) ∧ w.cell? ⟨gm, i, none⟩ = some (.int .i64 m)) ∧ (∀ k, k < ln → ∃ b, la = some ⟨b, 0, none⟩ ∧ ∀ w, Up W w → w.cell? ⟨b, k, none⟩ = some (.int .i64 m))) := fun i hi => by
    obtain ⟨v, hv⟩ : ∃ v, Lv[i]? = some v := ⟨_, List.getElem?_eq_getElem hi⟩
    obtain ⟨m, hm⟩ : ∃ m, Lm[i]? = some m := ⟨_, List.getElem?_eq_getElem (by omega)⟩
    obtain ⟨gs, cs, e1, k1⟩ := h.sR.at1 hv
    obtain ⟨gm, cm, e2, k2⟩ := h.mR.at1 (x := .int .i64 m) (j := i) (nums_at hm)
    obtain ⟨n, hn, hL⟩ := h.sI i v m hv hm
    obtain ⟨la, lc, e3, l1, l2⟩ := own_slice hL.own
    rw [hsv] at e1
    rw [hmv] at e2
    injection e1 with e1
    injection e2 with e2
    rw [e3] at k1
    refine ⟨m, gs, gm, la, n, lc, e1, e2, l1, l2, fun w u => ⟨cell_up u k1, cell_up u k2⟩, fun k hk => ?_⟩
    obtain ⟨b, c, e4, k4⟩ := hL.at1 (rep_at hk)
    rw [e3] at e4
    injection e4 with e4
    exact ⟨b, e4, fun w u => cell_up u k4⟩
  clear h hsv hmv
  go_enter Try.func22, Try.ntmps22
  go_wp2_with fail
  go_loopw [3, 4] (fun I _ wr => ∃ i : Nat, i ≤ Lv.length ∧ I = .int .i64 (i : Int) ∧ Hid (Up W wr)) (fun I _ _ => Lv.length - (intOf I).toNat)
  case atStart => exact ⟨0, by omega, rfl, Up.refl W⟩
  case round =>
    obtain ⟨i, hi, rfl, HU⟩ := hrel
    obtain ⟨k3, k4⟩ := HK.out wr HU.out
    by_cases hlt : i < Lv.length
    · have d1 : (i : Int) < (Lv.length : Int) := by omega
      obtain ⟨m, gs, gm, la, ln, lc, rfl, rfl, l1, l2, hc, hk⟩ := HR.out i hlt
      have HC : Hid _ := hc
      have HL : Hid _ := hk
      clear hc hk HR
      go_wp2_with fail
      obtain ⟨w0, hw0⟩ : ∃ w0, w0 = wr := ⟨_, rfl⟩
      have HU0 : Hid (Up W w0) := by rw [hw0]; exact HU.out
      rw [← hw0] at *
      clear HU
      clear hw0
      go_loopw [4] (fun J wr => ∃ j : Nat, j ≤ ln ∧ J = .int .i64 (j : Int) ∧ Hid (Up W wr)) (fun J _ => ln - (intOf J).toNat)
      case atStart => exact ⟨0, by omega, rfl, HU0⟩
      case round =>
        clear HU0
        obtain ⟨j, hj, rfl, HU⟩ := hrel
        clear k3 k4
        obtain ⟨k3, k4⟩ := HK.out wr HU.out
        obtain ⟨k5, k6⟩ := HC.out wr HU.out
        by_cases hjl : j < ln
        · have d2 : (j : Int) < (ln : Int) := by omega
          obtain ⟨b, rfl, hb⟩ := HL.out j hjl
          have k7 := hb wr HU.out
          clear hb
          go_wp2_with fail
          go_quiet (fail)
          have HV : Hid (Up W (wr.drewN nq)) := HU.out.trans (Up.drewN wr nq)
          clear HU
          go_wp2_with fail
          refine ⟨⟨j + 1, by omega, by first | rfl | (simp; done), HV⟩, ?_⟩
          simp [intOf]
          omega
        · have d2 : ¬ (j : Int) < (ln : Int) := by omega
          go_wp2_with fail
          refine ⟨⟨i + 1, by omega, by first | rfl | (simp; done), HU⟩, ?_⟩
          simp [intOf]
          omega
    · have d1 : ¬ (i : Int) < (Lv.length : Int) := by omega
      go_wp2_with fail
      go_ret
      exact ⟨by first | rfl | (simp; done), HU.out⟩
end Go.Proofs.Ytakciepfckdpfaa
