/- Whether a row is over, over the translation. -/
import Derived.Test.YtdkibohpdkdooaaGreatDoorCpQ1
import Derived.Test.YtdkibohpdkdooaaGreatDoorCpQ2
namespace Go.Proofs.YtdkibohpdkdooaaGreatDoor
open Go.RowKit
set_option linter.unusedVariables false
theorem over_any (r : Row) (b : Nat) (s : St) (w : World) (h : Cp w b s) (o : s.Ok) (hr : r.sure ≤ 2) :
    Calls Tryz.prog 27 #[.pointer (some ⟨b, 0, none⟩), .agg r.cells] w fun e w' => e = .returned (.bool (s.over r)) ∧ Up w w' := by
  have hd := cases6 o.done.1 o.done.2
  rcases hd with hd | hd | hd | hd | hd | hd
  · have e : s.over r = (r.a0 == 0 || ((0 : Int) == (r.sure : Int) && !s.takes r)) := by unfold St.over; rw [hd]; rfl
    have e2 : (r.a0 == 0) = ((r.a0 : Int) == 0) := by
      by_cases hz : r.a0 = 0
      · rw [hz]; rfl
      · rw [beq_eq_false_iff_ne.2 hz, beq_eq_false_iff_ne.2 (by omega)]
    rw [e, e2]
    cases e0 : ((r.a0 : Int) == 0)
    · cases e1 : ((0 : Int) == (r.sure : Int))
      · exact over_0B r b s w h o hr hd e0 e1
      · exact over_0C r b s w h o hr hd e0 e1
    · exact over_0A r b s w h o hr hd e0
  · have e : s.over r = (r.a1 == 0 || ((1 : Int) == (r.sure : Int) && !s.takes r)) := by unfold St.over; rw [hd]; rfl
    have e2 : (r.a1 == 0) = ((r.a1 : Int) == 0) := by
      by_cases hz : r.a1 = 0
      · rw [hz]; rfl
      · rw [beq_eq_false_iff_ne.2 hz, beq_eq_false_iff_ne.2 (by omega)]
    rw [e, e2]
    cases e0 : ((r.a1 : Int) == 0)
    · cases e1 : ((1 : Int) == (r.sure : Int))
      · exact over_1B r b s w h o hr hd e0 e1
      · exact over_1C r b s w h o hr hd e0 e1
    · exact over_1A r b s w h o hr hd e0
  · have e : s.over r = (r.a2 == 0 || ((2 : Int) == (r.sure : Int) && !s.takes r)) := by unfold St.over; rw [hd]; rfl
    have e2 : (r.a2 == 0) = ((r.a2 : Int) == 0) := by
      by_cases hz : r.a2 = 0
      · rw [hz]; rfl
      · rw [beq_eq_false_iff_ne.2 hz, beq_eq_false_iff_ne.2 (by omega)]
    rw [e, e2]
    cases e0 : ((r.a2 : Int) == 0)
    · cases e1 : ((2 : Int) == (r.sure : Int))
      · exact over_2B r b s w h o hr hd e0 e1
      · exact over_2C r b s w h o hr hd e0 e1
    · exact over_2A r b s w h o hr hd e0
  · have e : s.over r = (r.a3 == 0 || ((3 : Int) == (r.sure : Int) && !s.takes r)) := by unfold St.over; rw [hd]; rfl
    have e2 : (r.a3 == 0) = ((r.a3 : Int) == 0) := by
      by_cases hz : r.a3 = 0
      · rw [hz]; rfl
      · rw [beq_eq_false_iff_ne.2 hz, beq_eq_false_iff_ne.2 (by omega)]
    rw [e, e2]
    cases e0 : ((r.a3 : Int) == 0)
    · cases e1 : ((3 : Int) == (r.sure : Int))
      · exact over_3B r b s w h o hr hd e0 e1
      · exact absurd (eq_of_beq e1) (by omega)
    · exact over_3A r b s w h o hr hd e0
  · have e : s.over r = (r.a4 == 0 || ((4 : Int) == (r.sure : Int) && !s.takes r)) := by unfold St.over; rw [hd]; rfl
    have e2 : (r.a4 == 0) = ((r.a4 : Int) == 0) := by
      by_cases hz : r.a4 = 0
      · rw [hz]; rfl
      · rw [beq_eq_false_iff_ne.2 hz, beq_eq_false_iff_ne.2 (by omega)]
    rw [e, e2]
    cases e0 : ((r.a4 : Int) == 0)
    · cases e1 : ((4 : Int) == (r.sure : Int))
      · exact over_4B r b s w h o hr hd e0 e1
      · exact absurd (eq_of_beq e1) (by omega)
    · exact over_4A r b s w h o hr hd e0
  · have e : s.over r = (r.a5 == 0 || ((5 : Int) == (r.sure : Int) && !s.takes r)) := by unfold St.over; rw [hd]; rfl
    have e2 : (r.a5 == 0) = ((r.a5 : Int) == 0) := by
      by_cases hz : r.a5 = 0
      · rw [hz]; rfl
      · rw [beq_eq_false_iff_ne.2 hz, beq_eq_false_iff_ne.2 (by omega)]
    rw [e, e2]
    cases e0 : ((r.a5 : Int) == 0)
    · cases e1 : ((5 : Int) == (r.sure : Int))
      · exact over_5B r b s w h o hr hd e0 e1
      · exact absurd (eq_of_beq e1) (by omega)
    · exact over_5A r b s w h o hr hd e0
end Go.Proofs.YtdkibohpdkdooaaGreatDoor
