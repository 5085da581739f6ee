/- Sched: any step of the script; what is asked in any case. -/
import Derived.Test.YtakciepfckdpfaaSaGAdd
import Derived.Test.YtakciepfckdpfaaSaGRem
import Derived.Test.YtakciepfckdpfaaSaGRdy
import Derived.Test.YtakciepfckdpfaaSaGBeg
import Derived.Test.YtakciepfckdpfaaSaGEnd
import Derived.Test.YtakciepfckdpfaaSaGNew
import Derived.Test.YtakciepfckdpfaaSaGRnd
import Derived.Test.YtakciepfckdpfaaSaGEls
namespace Go.Proofs.Ytakciepfckdpfaa
open Go.RowKit
set_option linter.unusedVariables false
set_option linter.unusedSimpArgs false
variable {w w' W W0 : World} {ρ : Nat → Nat} {wb : Nat} {P : Pos} {ps : List (Nat × Nat)} {S : List Sd} {F : List (Nat × List Int)} {A : List Value} {G : List (List Int)} {Lv : List Value} {Lm : List Int}
theorem step_any {kd pp nn : Int} {rr : Bool} (h : Bk 22 W0 ρ W wb P ps S S F A G Lv Lm) (hL : Lm.length = Lv.length) (hA : A.length = F.length) (hG : G = F.map Prod.snd) (hF : F.length ≤ 100) (hps : ps.length ≤ 1099511627776) (hpp : I64 pp) (hnn : I64 nn) :
    Calls Try.prog 20 #[.pointer (some ⟨wb, 0, none⟩), .agg #[.int .i64 kd, .int .i64 pp, .int .i64 nn, .bool rr]] W fun e w' => e = .returned (.bool true) ∧ Sp W0 wb (ps.length + 1) (F.length + 2) Lv.length w' := by
  by_cases k1 : kd = 1
  · subst k1
    by_cases hr : nn < 1 ∨ 8 < nn
    · exact stepNewNo h hL hA hG hF hps hpp hnn hr
    · exact stepNewYes (k := nn.toNat) h hL hA hG hF hps hpp hnn (by omega) (by omega) (by omega)
  by_cases hn0 : ps = []
  · exact stepNone h hL hA hG hF hps hpp hnn k1 hn0
  by_cases k2 : kd = 2
  · subst k2; exact stepAdd h hL hA hG hF hps hn0 hpp hnn
  by_cases k3 : kd = 3
  · subst k3; exact stepRem h hL hA hG hF hps hn0 hpp hnn
  by_cases k4 : kd = 4
  · subst k4; exact stepRdy h hL hA hG hF hps hn0 hpp hnn
  by_cases k5 : kd = 5
  · subst k5; exact stepBeg h hL hA hG hF hps hn0 hpp hnn
  by_cases k6 : kd = 6
  · subst k6; exact stepEnd h hL hA hG hF hps hn0 hpp hnn
  by_cases k7 : kd = 7
  · subst k7; exact stepRnd h hL hA hG hF hps hn0 hpp hnn
  exact stepElse h hL hA hG hF hps hn0 hpp hnn k1 k2 k3 k4 k5 k6 k7
def opv (k p n : Int) (r : Bool) : List Value := [.int .i64 k, .int .i64 p, .int .i64 n, .bool r]
def firsts : List Value := opv 1 0 2 false ++ opv 2 0 5 false ++ opv 2 0 7 false ++ opv 4 0 7 true ++ opv 5 0 1 false ++ opv 7 0 0 false
set_option maxRecDepth 100000 in
set_option maxHeartbeats 4000000 in
theorem first_any (W : World) : Calls Try.prog 19 #[] W fun e w' => e = .returned (.slice (some ⟨W.heap.size, 0, none⟩) 6 6) ∧ w' = W.alloc (Obj.cells firsts.toArray 54) := by
  go_enter Try.func19, Try.ntmps19
  go_wp2
  go_ret
  exact ⟨by first | rfl | (simp; done), rfl⟩
end Go.Proofs.Ytakciepfckdpfaa
