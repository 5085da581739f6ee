/- The end of an instruction, over the translation. -/
import Derived.Test.YtdkibohpdkdooaaGreatDoorCpX
namespace Go.Proofs.YtdkibohpdkdooaaGreatDoor
open Go.RowKit
set_option linter.unusedVariables false
theorem if_does {s : St} {r : Row} (h : s.takes r = true) : s.does r = doP r.d s := by unfold St.does; rw [if_pos h]
theorem if_not_does {s : St} {r : Row} (h : s.takes r = false) : s.does r = s := by unfold St.does; rw [h]; rfl
theorem okRest {s : St} (o : s.Ok) {i d t : Bool} : ({ (St.rest ({ s with ime := i, due := d } : St)) with twice := t } : St).Ok :=
  { o with phase := (show (0 : Int) ≤ 0 ∧ (0 : Int) ≤ 2 by decide), code := (show (0 : Int) ≤ 0 ∧ (0 : Int) ≤ 255 by decide), done := (show (0 : Int) ≤ 0 ∧ (0 : Int) ≤ 5 by decide), rd := fun _ => (show (0 : Int) ≤ 0 ∧ (0 : Int) ≤ 255 by decide), many := (show (0 : Int) ≤ 0 ∧ (0 : Int) ≤ 3 by decide), asked := (show (0 : Int) ≤ 0 ∧ (0 : Int) ≤ 31 by decide) }
end Go.Proofs.YtdkibohpdkdooaaGreatDoor
