/- The causes of the STAT line, the window, the line. -/
import Derived.Test.YtmjfccdhjhkocaaPxH
namespace Go.Proofs.Ytmjfccdhjhkocaa
open Go.RowKit
set_option linter.unusedVariables false
variable {b : Nat} {p : Pic}
theorem PxAt.drewN {W : World} (h : PxAt W b p) (n : Nat) : PxAt (W.drewN n) b p := h.up (Up.drewN W n)
theorem run_index_cell {P : Program} (t e : TypeId) (n : Nat) (cs : Array Value) (k : IntKind) (i : Int) (d : TypeDesc) (v : Value) (w : World) (h : P.underlying t = some (.array n e)) (h0 : 0 ≤ i) (h1 : i < (n : Int))
    (hu : P.underlying e = some d) (hd : (match d with | .struct _ | .array _ _ => true | _ => false) = false) (hi : (P.info? e).map (·.size) = some 1) (hv : cs[i.toNat]? = some v) :
    (Instr.index t (.agg cs) (.int k i)).run P w = .ok v w := by
  have ha : (isAgg e).run P w = .ok false w := by
    cases d <;> simp_all [isAgg, run_underlying hu]
  have hs : (sizeOf e).run P w = .ok 1 w := by
    obtain ⟨x, hx, hm⟩ := Option.map_eq_some_iff.1 hi
    simp [sizeOf, typeInfo, hx, hm]
  simp [Instr.index, run_underlying h, asIntOf, h0, h1, part, ha, hs, hv, go_sem]
theorem wpList_index_cell {P : Program} {ops : Array Oper} {rest : List Oper} {o : Oper} {a : Act} {w : World} {Q : Exit → Act → World → Prop} (hgd : o.guard = none) (t : TypeId) (x y : Operand) (ho : o.op = .index t x y)
    (e : TypeId) (n : Nat) (cs : Array Value) (k : IntKind) (i : Int) (d : TypeDesc) (v : Value) (hx : a.eval x = .agg cs) (hy : a.eval y = .int k i)
    (h : P.underlying t = some (.array n e)) (h0 : 0 ≤ i) (h1 : i < (n : Int)) (hu : P.underlying e = some d) (hd : (match d with | .struct _ | .array _ _ => true | _ => false) = false) (hi : (P.info? e).map (·.size) = some 1)
    (hv : cs[i.toNat]? = some v) (hh : wpList P ops Q rest (a.put o.dst v) w) : wpList P ops Q (o :: rest) a w := by
  refine wpList_plain hgd fun K hK => ?_
  unfold Oper.wp execOp
  simp only [ho, hx, hy, Sem.run_bind, run_index_cell t e n cs k i d v w h h0 h1 hu hd hi hv, Result.andThen_ok, Sem.run_pure]
  exact hK _ _ hh
def Pic.cause (p : Pic) : Int := if p.mode = 0 then 8 else if p.mode = 1 then 16 else if p.mode = 2 then 32 else 0
def Pic.causes (p : Pic) : Int := if p.matches = true then bits .or .u8 p.cause 64 else p.cause
set_option maxRecDepth 100000 in
theorem causes_any (W : World) (h : PxAt W b p) : Calls Try.prog 62 #[.pointer (some ⟨b, 0, none⟩)] W fun e w' => e = .returned (.int .u8 p.causes) ∧ ∃ n, w' = W.drewN n := by
  have HM : Hid (∀ W, PxAt W b p → Calls Try.prog 59 #[.pointer (some ⟨b, 0, none⟩)] W fun e w' => e = .returned (.int .i64 p.mode) ∧ w' = W) := fun W h => mode_any W h
  have HX : Hid (∀ W, PxAt W b p → Calls Try.prog 69 #[.pointer (some ⟨b, 0, none⟩)] W fun e w' => e = .returned (.bool p.matches) ∧ ∃ n, w' = W.drewN n) := fun W h => matches_any W h
  have H : Hid (PxAt W b p) := h
  clear h
  have mb := p.mode_b
  unfold Pic.causes Pic.cause
  generalize p.mode = M at *
  generalize p.matches = X at *
  rcases mb with rfl | rfl | rfl | rfl <;> cases X <;>
  · go_enter Try.func62, Try.ntmps62
    go_wp2_with fail
    refine (HM.out _ H.out).mono ?_
    rintro e w' ⟨rfl, hw'⟩
    obtain rfl := hw'.symm
    go_wp2_with (refine wpList_index_cell rfl 91 _ _ rfl 5 4 #[.int .u8 8, .int .u8 16, .int .u8 32, .int .u8 0] .i64 _ _ _ rfl rfl Try.underlying91 (by decide) (by decide) Try.underlying5 rfl (by kernel_rfl) rfl ?_)
    refine (HX.out _ H.out).mono ?_
    rintro e w' ⟨rfl, n, rfl⟩
    go_wp2_with fail
    go_ret
    exact ⟨rfl, _, rfl⟩
end Go.Proofs.Ytmjfccdhjhkocaa
