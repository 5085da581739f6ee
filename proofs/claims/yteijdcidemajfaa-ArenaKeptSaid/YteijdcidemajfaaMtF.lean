import Derived.Test.YteijdcidemajfaaAtI0
import Derived.Test.YteijdcidemajfaaAtI1
import Derived.Test.YteijdcidemajfaaMtC
import Derived.Test.YteijdcidemajfaaMtD
import Derived.Test.YteijdcidemajfaaMtB
import Derived.Test.YteijdcidemajfaaAtM
import Derived.Test.YteijdcidemajfaaMtA
/- Arena: acts, whatever it is. -/
namespace Go.Proofs.Yteijdcidemajfaa
open Go.RowKit
set_option linter.unusedVariables false
variable {K O : Nat → Prop} {w W : World} {pb n i : Nat} {P : Pl} {lv bv : Value} {hl L : List Loan} {q : Int}
theorem acts_any {kd who sz pk at' by' : Int} (i1 : I64 kd) (i3 : I64 sz) (i4 : I64 pk) (i5 : I64 at') (i6 : I64 by') (hp : Pb W K pb P w) (hh : Ht O w lv bv hl hl) (ho : ∀ b, O b → K b ∧ W.heap.size ≤ b) (ha : P.ars[i]? = some (some ⟨q, L⟩)) (hk : keys L = keys hl) (hc : Cs n P) (q0 : 0 ≤ q) (q1 : q ≤ 1000) (hop : ∀ j, j < i → ∃ b, P.ars[j]? = some (some b)) :
    Calls Try.prog 23 #[.pointer (some ⟨pb, 0, none⟩), .agg #[.int .i64 (i : Int), lv, bv], .agg #[.int .i64 kd, .int .i64 who, .int .i64 sz, .int .i64 pk, .int .i64 at', .int .i64 by'], .int .i64 q] w fun e w' => ∃ lv' bv' hl' P' K' O' L', e = .returned (.tuple #[.agg #[.int .i64 (i : Int), lv', bv'], .bool true]) ∧ Pb W K' pb P' w' ∧ Ht O' w' lv' bv' hl' hl' ∧ (∀ b, O' b → K' b ∧ W.heap.size ≤ b) ∧ (∀ b, O' b → O b ∨ w.heap.size ≤ b) ∧ (∀ b, K b → K' b) ∧ FK (fun b => K b ∧ ¬ O b) w w' ∧ P'.ars = P.ars.set i (some ⟨q, L'⟩) ∧ keys L' = keys hl' ∧ Cs n P' ∧ nbs hl' = actF kd sz pk at' by' q P.freeN (nbs hl) := by
  obtain ⟨C, hC⟩ : ∃ C : Cx, C = ⟨W, w, K, O, pb, i, w.heap.size, w.heap.size + 1, w.heap.size + 2, #[.int .i64 kd, .int .i64 who, .int .i64 sz, .int .i64 pk, .int .i64 at', .int .i64 by']⟩ := ⟨_, rfl⟩
  have key : Calls Try.prog 23 #[.pointer (some ⟨C.pb, 0, none⟩), .agg #[.int .i64 (C.i : Int), lv, bv], .agg C.av, .int .i64 q] C.w0 (Rs C n q P (actF kd sz pk at' by' q P.freeN (nbs hl))) := by
    have p1 := pickI_lo kd 8 (by decide)
    have p2 := pickI_hi kd 8 (by decide)
    have eh : C.hb = C.w0.heap.size := by rw [hC]
    have ea : C.ab = C.w0.heap.size + 1 := by rw [hC]
    have er : C.rb = C.w0.heap.size + 2 := by rw [hC]
    have ev : C.av = #[.int .i64 kd, .int .i64 who, .int .i64 sz, .int .i64 pk, .int .i64 at', .int .i64 by'] := by rw [hC]
    have hp' : Pb C.W C.K0 C.pb P C.w0 := by rw [hC]; exact hp
    have hh' : Ht C.O0 C.w0 lv bv hl hl := by rw [hC]; exact hh
    have ho' : ∀ b, C.O0 b → C.K0 b ∧ C.W.heap.size ≤ b := by rw [hC]; exact ho
    have ha' : P.ars[C.i]? = some (some ⟨q, L⟩) := by rw [hC]; exact ha
    have hop' : ∀ j, j < C.i → ∃ b, P.ars[j]? = some (some b) := by rw [hC]; exact hop
    clear hC hp hh ho ha hop
    have hcase : pickI kd 8 = 0 ∨ pickI kd 8 = 1 ∨ pickI kd 8 = 2 ∨ pickI kd 8 = 3 ∨ pickI kd 8 = 4 ∨ pickI kd 8 = 5 ∨ 6 ≤ pickI kd 8 := by omega
    have hz : 0 < hl.length ∨ hl.length = 0 := by omega
    rcases hcase with h | h | h | h | h | h | h
    · by_cases hq : q < (sizes hl : Int) + (hasOf (1 + pickI sz 16) : Int)
      · exact acts_quota0 i1 i3 i4 i5 i6 eh ea er ev hp' hh' ho' ha' hk hc q0 q1 hop' h hq
      · by_cases hf : P.freeN (clsOf (1 + pickI sz 16)) = 0
        · exact acts_empty0 i1 i3 i4 i5 i6 eh ea er ev hp' hh' ho' ha' hk hc q0 q1 hop' h (by omega) hf
        · exact acts_take0 i1 i3 i4 i5 i6 eh ea er ev hp' hh' ho' ha' hk hc q0 q1 hop' h (by omega) hf
    · by_cases hq : q < (sizes hl : Int) + (hasOf (1 + pickI sz 16) : Int)
      · exact acts_quota1 i1 i3 i4 i5 i6 eh ea er ev hp' hh' ho' ha' hk hc q0 q1 hop' h hq
      · by_cases hf : P.freeN (clsOf (1 + pickI sz 16)) = 0
        · exact acts_empty1 i1 i3 i4 i5 i6 eh ea er ev hp' hh' ho' ha' hk hc q0 q1 hop' h (by omega) hf
        · exact acts_take1 i1 i3 i4 i5 i6 eh ea er ev hp' hh' ho' ha' hk hc q0 q1 hop' h (by omega) hf
    · rcases hz with h0 | h0
      · exact acts_store2 i1 i3 i4 i5 i6 eh ea er ev hp' hh' ho' ha' hk hc q0 q1 hop' h h0
      · exact acts_none2 i1 i3 i4 i5 i6 eh ea er ev hp' hh' ho' ha' hk hc q0 q1 hop' h h0
    · rcases hz with h0 | h0
      · exact acts_store3 i1 i3 i4 i5 i6 eh ea er ev hp' hh' ho' ha' hk hc q0 q1 hop' h h0
      · exact acts_none3 i1 i3 i4 i5 i6 eh ea er ev hp' hh' ho' ha' hk hc q0 q1 hop' h h0
    · rcases hz with h0 | h0
      · exact acts_give i1 i3 i4 i5 i6 eh ea er ev hp' hh' ho' ha' hk hc q0 q1 hop' h h0
      · exact acts_none4 i1 i3 i4 i5 i6 eh ea er ev hp' hh' ho' ha' hk hc q0 q1 hop' h h0
    · exact acts_close i1 i3 i4 i5 i6 eh ea er ev hp' hh' ho' ha' hk hc q0 q1 hop' h
    · exact acts_else i1 i3 i4 i5 i6 eh ea er ev hp' hh' ho' ha' hk hc q0 q1 hop' h
  subst hC
  exact key.mono fun e w' ⟨lv', bv', hl', P', e1, ⟨K', O', d1, d2, d3, d4, d5, d6⟩, ⟨L', l1, l2⟩, c1, n1⟩ => ⟨lv', bv', hl', P', K', O', L', e1, d1, d2, d3, d4, d5, d6, l1, l2, c1, n1⟩
theorem acts_all : ActsAny := fun K O w W pb n i P lv bv hl L q kd who sz pk at' by' i1 i3 i4 i5 i6 hp hh ho ha hk hc q0 q1 hop => acts_any i1 i3 i4 i5 i6 hp hh ho ha hk hc q0 q1 hop
end Go.Proofs.Yteijdcidemajfaa
