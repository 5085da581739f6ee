/- Block: steps of the script: a store more. -/
import Derived.Test.YtekffilokdmfgaaBeE
namespace Go.Proofs.Ytekffilokdmfgaa
open Go.RowKit
set_option linter.unusedVariables false
set_option linter.unusedSimpArgs false
variable {w w' w1 W W0 : World} {ρ ρ' ρ1 : Nat → Nat} {r r' pb H n N ob : Nat} {ps : List (Nat × Nat)} {Sx Sy Sx' Sy' Ss : List Sto} {S : Nat → Prop} {L : Bd} {hf f : Nat → Int} {R : Nat → Prop} {v : Value} {ls : Value} {kd a b c d : Int}
abbrev opC (kd a b c d : Int) (ls : Value) : Array Value := #[.int .i64 kd, .int .i64 a, .int .i64 b, .int .i64 c, .int .i64 d, ls]
set_option maxRecDepth 100000 in
set_option maxHeartbeats 2000000 in
theorem stepNewNo (h : Wd W0 pb ρ ps Ss Ss S L H hf w) (hN : L.es.length ≤ N) (hP : ∀ s ∈ Ss, s.pend.length ≤ N) (hb : I64 b) (hno : b < 1 ∨ 4096 < b) :
    Calls Try.prog 4 #[.pointer (some ⟨pb, 0, none⟩), .agg #[.int .i64 1, .int .i64 a, .int .i64 b, .int .i64 c, .int .i64 d, ls]] w (StepAns W0 pb N ρ w) := by
  have HH : Hid _ := h
  have HN : Hid (L.es.length ≤ N ∧ ∀ s ∈ Ss, s.pend.length ≤ N) := ⟨hN, hP⟩
  have HNo : Hid (I64 b ∧ (b < 1 ∨ 4096 < b)) := ⟨hb, hno⟩
  clear h hN hP hb hno
  go_enter Try.func4, Try.ntmps4
  go_wp2_with fail
  have u1 : Up w (w.alloc (Obj.cells (opC 1 a b c d ls) 31)) := (Up.refl w).alloc _
  have k1 := heap_cell (o := 2) (v := .int .i64 b) (heap_alloc_new w (Obj.cells (opC 1 a b c d ls) 31)) rfl
  generalize World.alloc w _ = w1 at u1 k1 ⊢
  generalize w.heap.size = ob at k1 ⊢
  refine Calls.mono (new_no HNo.out.1 HNo.out.2) ?_
  rintro e w' ⟨rfl, hw⟩
  obtain rfl := hw.symm
  clear hw
  go_wp2_with fail
  refine Calls.mono (newR_no HNo.out.1 HNo.out.2) ?_
  rintro e w' ⟨rfl, hw⟩
  obtain rfl := hw.symm
  clear hw
  have H1 : Hid _ := HH.out.upR u1 5
  have HM : Hid (Mv (fun r => r = 6) ρ (ext ρ w.heap.size 5) w w1) := Mv.ofUp ρ u1 5
  clear k1 u1 HH
  go_wp2_with fail
  refine Calls.mono (more_no H1.out HN.out.1 HN.out.2) ?_
  intro e w5 h5
  have H5 : Hid _ := h5.pre HM.out
  have he := h5.1
  clear h5
  subst he
  go_wp2_with fail
  go_ret
  exact ⟨by first | rfl | (simp; done), H5.out.2⟩
set_option maxRecDepth 100000 in
set_option maxHeartbeats 2000000 in
theorem stepNewYes {m : Nat} (h : Wd W0 pb ρ ps Ss Ss S L H hf w) (hN : L.es.length ≤ N) (hP : ∀ s ∈ Ss, s.pend.length ≤ N) (h1 : 1 ≤ m) (h2 : m ≤ 4096) :
    Calls Try.prog 4 #[.pointer (some ⟨pb, 0, none⟩), .agg #[.int .i64 1, .int .i64 a, .int .i64 (m : Int), .int .i64 c, .int .i64 d, ls]] w (StepAns W0 pb N ρ w) := by
  have HH : Hid _ := h
  have HN : Hid (L.es.length ≤ N ∧ ∀ s ∈ Ss, s.pend.length ≤ N) := ⟨hN, hP⟩
  have HNm : Hid (1 ≤ m ∧ m ≤ 4096) := ⟨h1, h2⟩
  clear h hN hP h1 h2
  go_enter Try.func4, Try.ntmps4
  go_wp2_with fail
  have u1 : Up w (w.alloc (Obj.cells (opC 1 a (m : Int) c d ls) 31)) := (Up.refl w).alloc _
  have k1 := heap_cell (o := 2) (v := .int .i64 (m : Int)) (heap_alloc_new w (Obj.cells (opC 1 a (m : Int) c d ls) 31)) rfl
  have H1 : Hid _ := HH.out.upR u1 5
  have HM1 : Hid (Mv (fun r => r = 6) ρ (ext ρ w.heap.size 5) w _) := Mv.ofUp ρ u1 5
  clear u1 HH
  generalize ext ρ w.heap.size 5 = ρ1 at H1 HM1
  generalize World.alloc w _ = w1 at H1 HM1 k1 ⊢
  generalize w.heap.size = ob at k1 ⊢
  refine Calls.mono (new_ok (K := fun b => b < w1.heap.size) HNm.out.1 HNm.out.2 (fun b hb => hb)) ?_
  rintro e w2 ⟨xb, rfl, hx, u2⟩
  have H2 : Hid (Wd W0 pb (ext ρ1 w1.heap.size (10 + 2 * ps.length)) ps Ss Ss S L H hf w2 ∧ StAt (Kr (ext ρ1 w1.heap.size (10 + 2 * ps.length)) (10 + 2 * ps.length) w2) w2 xb (Sto.fresh m (fun _ => 0))) := ⟨H1.out.upR u2 _, hx.less fun b hb => kr_new hb⟩
  have HM2 : Hid (Mv (fun r => r = 6) ρ (ext ρ1 w1.heap.size (10 + 2 * ps.length)) w w2) := HM1.out.trans (Mv.ofUp ρ1 u2 _)
  have k2 := cell_up u2 k1
  generalize ext ρ1 w1.heap.size (10 + 2 * ps.length) = ρ2 at H2 HM2
  clear hx u2 H1 HM1 k1
  go_wp2_with fail
  refine Calls.mono (newR_ok (K := fun b => b < w2.heap.size) HNm.out.1 HNm.out.2 (fun b hb => hb)) ?_
  rintro e w3 ⟨yb, rfl, hy, u3⟩
  have H3 : Hid (Wd W0 pb (ext ρ2 w2.heap.size (11 + 2 * ps.length)) ps Ss Ss S L H hf w3 ∧ StAt (Kr (ext ρ2 w2.heap.size (11 + 2 * ps.length)) (10 + 2 * ps.length) w3) w3 xb (Sto.fresh m (fun _ => 0)) ∧ RfAt (Kr (ext ρ2 w2.heap.size (11 + 2 * ps.length)) (11 + 2 * ps.length) w3) w3 yb (Sto.fresh m (fun _ => 0))) := ⟨H2.out.1.upR u3 _, H2.out.2.mv (R := fun _ => True) (Mv.ofUp ρ2 u3 _) trivial, hy.less fun b hb => kr_new hb⟩
  have HM3 : Hid (Mv (fun r => r = 6) ρ (ext ρ2 w2.heap.size (11 + 2 * ps.length)) w w3) := HM2.out.trans (Mv.ofUp ρ2 u3 _)
  generalize ext ρ2 w2.heap.size (11 + 2 * ps.length) = ρ3 at H3 HM3
  clear hy u3 H2 HM2 k2
  go_wp2_with fail
  refine Calls.mono (more_yes H3.out.1 HN.out.1 HN.out.2 H3.out.2.1 H3.out.2.2 (Sto.Gd.fresh (fun _ => by decide)) (Nat.zero_le _)) ?_
  intro e w5 h5
  have H5 : Hid _ := h5.pre HM3.out
  have he := h5.1
  clear h5
  subst he
  go_wp2_with fail
  go_ret
  exact ⟨by first | rfl | (simp; done), H5.out.2⟩
set_option maxRecDepth 100000 in
set_option maxHeartbeats 2000000 in
theorem stepLast (h : Wd W0 pb ρ ps Ss Ss S L H hf w) (hN : L.es.length ≤ N) (hP : ∀ s ∈ Ss, s.pend.length ≤ N) :
    Calls Try.prog 4 #[.pointer (some ⟨pb, 0, none⟩), .agg #[.int .i64 11, .int .i64 a, .int .i64 b, .int .i64 c, .int .i64 d, ls]] w (StepAns W0 pb N ρ w) := by
  have HN : Hid (L.es.length ≤ N ∧ ∀ s ∈ Ss, s.pend.length ≤ N) := ⟨hN, hP⟩
  have hla := h.la
  obtain ⟨aa, ab, ao, n, cap, f, e1, hy, hn, h0, h3⟩ := hla
  have hk := h.c1
  rw [e1] at hk
  have pl := h.pl
  have u1 : Up w (w.alloc (Obj.cells (opC 11 a b c d ls) 31)) := (Up.refl w).alloc _
  have H1 : Hid (Wd W0 pb (ext ρ w.heap.size 5) ps Ss Ss S L H hf (w.alloc (Obj.cells (opC 11 a b c d ls) 31)) ∧ Byts (w.alloc (Obj.cells (opC 11 a b c d ls) 31)) aa ab ao n cap f ∧ n ≤ 4000000 ∧ (w.alloc (Obj.cells (opC 11 a b c d ls) 31)).cell? ⟨pb, 1, none⟩ = some (.slice aa n cap)) := ⟨h.upR u1 5, hy.upC u1, hn, cell_up u1 hk⟩
  have HM : Hid (Mv (fun r => r = 6) ρ (ext ρ w.heap.size 5) w (w.alloc (Obj.cells (opC 11 a b c d ls) 31))) := Mv.ofUp ρ u1 5
  clear h hN hP hy hn h0 h3 u1 e1
  go_enter Try.func4, Try.ntmps4
  have hpo : ¬ pb = w.heap.size := by omega
  go_wp2_with fail
  refine Calls.mono (of_any H1.out.1 HN.out.1 HN.out.2 H1.out.2.1 H1.out.2.2.1) ?_
  intro e w5 h5
  have H5 : Hid _ := h5.pre HM.out
  have he := h5.1
  clear h5
  subst he
  go_wp2_with fail
  go_ret
  exact ⟨by first | rfl | (simp; done), H5.out.2⟩
set_option maxRecDepth 100000 in
set_option maxHeartbeats 2000000 in
theorem stepNone (h : Wd W0 pb ρ [] Ss Ss S L H hf w) (hN : L.es.length ≤ N) (hP : ∀ s ∈ Ss, s.pend.length ≤ N) (b1 : (kd == 1) = false) (b2 : (kd == 2) = false) (b3 : (kd == 11) = false) :
    Calls Try.prog 4 #[.pointer (some ⟨pb, 0, none⟩), .agg #[.int .i64 kd, .int .i64 a, .int .i64 b, .int .i64 c, .int .i64 d, ls]] w (StepAns W0 pb N ρ w) := by
  obtain ⟨la, lc, hlv, l1⟩ : ∃ la lc, L.x0 = .slice la 0 lc ∧ lc ≤ 9223372036854775807 := by
    rcases own_cases h.pr with ⟨e1, e2, _⟩ | ⟨g, cap, e1, e2, e3, _⟩
    · exact ⟨none, 0, e1, by omega⟩
    · exact ⟨_, cap, e1, by unfold maxLen at e3; omega⟩
  have k0 := h.c0
  rw [hlv] at k0
  have pl := h.pl
  have u1 : Up w (w.alloc (Obj.cells (opC kd a b c d ls) 31)) := (Up.refl w).alloc _
  have HE : Hid (∃ ρ', Sp W0 pb N ρ' (w.alloc (Obj.cells (opC kd a b c d ls) 31)) ∧ Mv (fun r => r = 6) ρ ρ' w (w.alloc (Obj.cells (opC kd a b c d ls) 31))) := ⟨_, ⟨_, _, _, _, _, _, h.upR u1 5, hN, hP⟩, Mv.ofUp ρ u1 5⟩
  have k1 := cell_up u1 k0
  clear h hN hP hlv u1 k0
  go_enter Try.func4, Try.ntmps4
  have hpo : ¬ pb = w.heap.size := by omega
  go_wp2_with fail
  go_ret
  exact ⟨by first | rfl | (simp; done), HE.out⟩
end Go.Proofs.Ytekffilokdmfgaa
