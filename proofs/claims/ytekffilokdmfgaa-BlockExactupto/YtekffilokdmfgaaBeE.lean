/- Block: Of, of any list. -/
import Derived.Test.YtekffilokdmfgaaBeD
namespace Go.Proofs.Ytekffilokdmfgaa
open Go.RowKit
set_option linter.unusedVariables false
set_option linter.unusedSimpArgs false
variable {w w' w1 W W0 : World} {ρ ρ' ρ1 : Nat → Nat} {r r' pb H n N : Nat} {ps : List (Nat × Nat)} {Sx Sy Sx' Sy' Ss : List Sto} {S : Nat → Prop} {L : Bd} {hf f : Nat → Int} {R : Nat → Prop} {v : Value} {aa : Option Addr} {ab ao cap : Nat}
theorem StepAns.pre {e : Ending} (h : StepAns W0 pb N ρ1 w1 e w') (m : Mv (fun r => r = 6) ρ ρ1 w w1) : StepAns W0 pb N ρ w e w' := by
  obtain ⟨h1, ρ', h2, h3⟩ := h
  exact ⟨h1, ρ', h2, m.trans h3⟩
set_option maxRecDepth 100000 in
set_option maxHeartbeats 2000000 in
theorem of_no' (h : Wd W0 pb ρ ps Ss Ss S L H hf w) (hN : L.es.length ≤ N) (hP : ∀ s ∈ Ss, s.pend.length ≤ N) (D : Byts w aa ab ao n cap f) (hn : n ≤ 4000000) (hno : n = 0 ∨ n % 512 ≠ 0 ∨ 2097152 < n) :
    Calls Try.prog 11 #[.pointer (some ⟨pb, 0, none⟩), .slice aa n cap] w (StepAns W0 pb N ρ w) := by
  have HD : Hid (Byts w aa ab ao n cap f) := D
  have HH : Hid _ := h
  have HN : Hid (L.es.length ≤ N ∧ ∀ s ∈ Ss, s.pend.length ≤ N) := ⟨hN, hP⟩
  have HNo : Hid (n = 0 ∨ n % 512 ≠ 0 ∨ 2097152 < n) := hno
  have hc : n ≤ cap := D.lc
  have hm : cap ≤ 9223372036854775807 := by have := D.cm; unfold maxLen at this; omega
  clear D h hN hP hno
  go_enter Try.func11, Try.ntmps11
  go_wp2_with fail
  refine Calls.mono (lentB_any HD.out (by omega)) ?_
  rintro e w1 ⟨l, rfl, hl, hby, u1⟩
  have H1 : Hid (Up w w1 ∧ By w1 l (n + 8) (lentF n f) ∧ w.heap.size ≤ l) := ⟨u1, hby, hl⟩
  clear hl hby u1
  go_wp2_with fail
  refine Calls.mono (of_no (by omega) HNo.out) ?_
  rintro e w' ⟨rfl, hw⟩
  obtain rfl := hw.symm
  clear hw
  go_wp2_with fail
  refine Calls.mono (ofR_no HD.out.lc HD.out.cm (by have := HNo.out; omega)) ?_
  rintro e w' ⟨rfl, hw⟩
  obtain rfl := hw.symm
  clear hw
  go_wp2_with fail
  refine Calls.mono (backB_any (HD.out.upC H1.out.1) (by omega) H1.out.2.1) ?_
  rintro e w4 ⟨rfl, f4⟩
  have u4 : Up w w4 := Fr.up H1.out.1 H1.out.2.2 f4
  have H4 : Hid _ := HH.out.upR u4 5
  have HM : Hid (Mv (fun r => r = 6) ρ (ext ρ w.heap.size 5) w w4) := Mv.ofUp ρ u4 5
  clear f4 u4 H1 HD HH
  go_wp2_with fail
  refine Calls.mono (more_no H4.out HN.out.1 HN.out.2) ?_
  intro e w5 h5
  have H5 : Hid _ := h5.pre HM.out
  have he := h5.1
  clear h5
  subst he
  go_wp2_with fail
  go_ret
  exact ⟨by first | rfl | (simp; done), H5.out.2⟩
set_option maxRecDepth 100000 in
set_option maxHeartbeats 2000000 in
theorem of_yes' {m : Nat} (h : Wd W0 pb ρ ps Ss Ss S L H hf w) (hN : L.es.length ≤ N) (hP : ∀ s ∈ Ss, s.pend.length ≤ N) (D : Byts w aa ab ao n cap f) (hn : n = 512 * m) (h1 : 1 ≤ m) (h2 : m ≤ 4096) :
    Calls Try.prog 11 #[.pointer (some ⟨pb, 0, none⟩), .slice aa n cap] w (StepAns W0 pb N ρ w) := by
  have HD : Hid (Byts w aa ab ao n cap f) := D
  have HH : Hid _ := h
  have HN : Hid (L.es.length ≤ N ∧ ∀ s ∈ Ss, s.pend.length ≤ N) := ⟨hN, hP⟩
  have HNm : Hid (n = 512 * m ∧ 1 ≤ m ∧ m ≤ 4096) := ⟨hn, h1, h2⟩
  have hc : n ≤ cap := D.lc
  have hn4 : n ≤ 4000000 := by omega
  have hm : cap ≤ 9223372036854775807 := by have := D.cm; unfold maxLen at this; omega
  clear D h hN hP hn h1 h2
  go_enter Try.func11, Try.ntmps11
  go_wp2_with fail
  refine Calls.mono (lentB_any HD.out (by omega)) ?_
  rintro e w1 ⟨l, rfl, hl, hby, u1⟩
  have H1 : Hid (Wd W0 pb (ext ρ w.heap.size 5) ps Ss Ss S L H hf w1 ∧ By w1 l (n + 8) (lentF n f) ∧ ext ρ w.heap.size 5 l = 5 ∧ Up w w1) := ⟨HH.out.upR u1 5, hby, ext_ge hl, u1⟩
  have HM1 : Hid (Mv (fun r => r = 6) ρ (ext ρ w.heap.size 5) w w1) := Mv.ofUp ρ u1 5
  generalize ext ρ w.heap.size 5 = ρ1 at H1 HM1
  clear hl hby u1
  go_wp2_with fail
  refine Calls.mono (by
    have q := of_ok (W := w1) (K := fun b => b < w1.heap.size) (v := .slice (some ⟨l, 0, none⟩) n (n + 8)) (f := f) (n := m) (by
      rw [← HNm.out.1]
      have hl : By w1 l n f := by
        obtain ⟨cs, ty, q1, q2, q3⟩ := H1.out.2.1.row
        exact ⟨cs, ty, q1, by omega, fun k hk => by rw [q3 k (by omega)]; unfold lentF; rw [if_pos hk]⟩
      exact hl.lb (by omega) (by unfold maxLen; omega)) HNm.out.2.1 HNm.out.2.2 (fun b hb => hb)
    exact q) ?_
  rintro e w2 ⟨xb, rfl, hx, u2⟩
  have H2 : Hid (Wd W0 pb (ext ρ1 w1.heap.size (10 + 2 * ps.length)) ps Ss Ss S L H hf w2 ∧ By w2 l (n + 8) (lentF n f) ∧ ext ρ1 w1.heap.size (10 + 2 * ps.length) l = 5 ∧ Up w w2 ∧ StAt (Kr (ext ρ1 w1.heap.size (10 + 2 * ps.length)) (10 + 2 * ps.length) w2) w2 xb (Sto.fresh m f)) := ⟨H1.out.1.upR u2 _, H1.out.2.1.up u2, by rw [ext_lt H1.out.2.1.lt]; exact H1.out.2.2.1, H1.out.2.2.2.trans u2, hx.less fun b hb => kr_new hb⟩
  have HM2 : Hid (Mv (fun r => r = 6) ρ (ext ρ1 w1.heap.size (10 + 2 * ps.length)) w w2) := HM1.out.trans (Mv.ofUp ρ1 u2 _)
  generalize ext ρ1 w1.heap.size (10 + 2 * ps.length) = ρ2 at H2 HM2
  clear hx u2 H1 HM1
  go_wp2_with fail
  refine Calls.mono (by
    have q := ofR_ok (W := w2) (K := fun b => b < w2.heap.size) (m := m) (f := f) (by rw [← HNm.out.1]; exact HD.out.upC H2.out.2.2.2.1) HNm.out.2.1 HNm.out.2.2 (fun b hb => hb)
    rw [← HNm.out.1] at q
    exact q) ?_
  rintro e w3 ⟨yb, rfl, hy, u3⟩
  have H3 : Hid (Wd W0 pb (ext ρ2 w2.heap.size (11 + 2 * ps.length)) ps Ss Ss S L H hf w3 ∧ By w3 l (n + 8) (lentF n f) ∧ ext ρ2 w2.heap.size (11 + 2 * ps.length) l = 5 ∧ Up w w3 ∧ StAt (Kr (ext ρ2 w2.heap.size (11 + 2 * ps.length)) (10 + 2 * ps.length) w3) w3 xb (Sto.fresh m f) ∧ RfAt (Kr (ext ρ2 w2.heap.size (11 + 2 * ps.length)) (11 + 2 * ps.length) w3) w3 yb (Sto.fresh m f)) := ⟨H2.out.1.upR u3 _, H2.out.2.1.up u3, by rw [ext_lt H2.out.2.1.lt]; exact H2.out.2.2.1, H2.out.2.2.2.1.trans u3, H2.out.2.2.2.2.mv (R := fun _ => True) (Mv.ofUp ρ2 u3 _) trivial, hy.less fun b hb => kr_new hb⟩
  have HM3 : Hid (Mv (fun r => r = 6) ρ (ext ρ2 w2.heap.size (11 + 2 * ps.length)) w w3) := HM2.out.trans (Mv.ofUp ρ2 u3 _)
  generalize ext ρ2 w2.heap.size (11 + 2 * ps.length) = ρ3 at H3 HM3
  clear hy u3 H2 HM2
  go_wp2_with fail
  refine Calls.mono (backB_any (HD.out.upC H3.out.2.2.2.1) (by omega) H3.out.2.1) ?_
  rintro e w4 ⟨rfl, f4⟩
  have m4 := Mv.ofFr f4 H3.out.2.2.1 5
  have H4 : Hid (Wd W0 pb (ext ρ3 w3.heap.size 5) ps Ss Ss S L H hf w4 ∧ StAt (Kr (ext ρ3 w3.heap.size 5) (10 + 2 * ps.length) w4) w4 xb (Sto.fresh m f) ∧ RfAt (Kr (ext ρ3 w3.heap.size 5) (11 + 2 * ps.length) w4) w4 yb (Sto.fresh m f) ∧ (Sto.fresh m f).Gd) := ⟨H3.out.1.mv m4 (by omega) (fun r hr => by omega), H3.out.2.2.2.2.1.mv m4 (by omega), H3.out.2.2.2.2.2.mv m4 (by omega), Sto.Gd.fresh HD.out.u8⟩
  have HM4 : Hid (Mv (fun r => r = 6) ρ (ext ρ3 w3.heap.size 5) w w4) := HM3.out.trans (m4.mono fun r hr => by omega)
  generalize ext ρ3 w3.heap.size 5 = ρ4 at H4 HM4
  clear f4 m4 H3 HM3
  go_wp2_with fail
  refine Calls.mono (more_yes H4.out.1 HN.out.1 HN.out.2 H4.out.2.1 H4.out.2.2.1 H4.out.2.2.2 (Nat.zero_le _)) ?_
  intro e w5 h5
  have H5 : Hid _ := h5.pre HM4.out
  have he := h5.1
  clear h5
  subst he
  go_wp2_with fail
  go_ret
  exact ⟨by first | rfl | (simp; done), H5.out.2⟩
theorem of_any (h : Wd W0 pb ρ ps Ss Ss S L H hf w) (hN : L.es.length ≤ N) (hP : ∀ s ∈ Ss, s.pend.length ≤ N) (D : Byts w aa ab ao n cap f) (hn : n ≤ 4000000) :
    Calls Try.prog 11 #[.pointer (some ⟨pb, 0, none⟩), .slice aa n cap] w (StepAns W0 pb N ρ w) := by
  by_cases hno : n = 0 ∨ n % 512 ≠ 0 ∨ 2097152 < n
  · exact of_no' h hN hP D hn hno
  · exact of_yes' (m := n / 512) h hN hP D (by omega) (by omega) (by omega)
end Go.Proofs.Ytekffilokdmfgaa
