/- A rule's text filled in, over the translation. Conditions: the text is of ASCII and at most 100 bytes; y and z are below 8; the rows of words lie in their variables. -/
import Derived.Test.YtmboogkpbcjfoaaDoorTabA
import Derived.Test.YtmboogkpbcjfoaaDoorShelf
namespace Go.Proofs.YtmboogkpbcjfoaaDoor
open Go.RowKit
set_option linter.unusedVariables false

theorem ib_below {T e : TypeId} {B b : Nat} {bs : List Value} {W W' : World} (h : Lib.IsBuilderF T e B b bs W) (hb : Below W.heap.size W W') : Lib.IsBuilderF T e B b bs W' := by
  have go : ∀ p, Lib.BuilderAtF T e B b p bs W → Lib.BuilderAtF T e B b p bs W' := by
    intro p h
    have hlt := h.lt
    obtain ⟨hB, v, hv, hown, hne⟩ := h
    refine ⟨hB, v, (hb.block b hlt).trans hv, ?_, hne⟩
    exact hown.kept (row := none) ⟨hb.os, hb.tape, hb.output, hb.size, fun k hk _ => hb.block k hk⟩ (by by_cases hh : v.ownBlock = none <;> simp [hh])
  rcases h with h | h
  · exact .inl (go _ h)
  · exact .inr (go _ h)

theorem wordL_len (c y z : Nat) (hy : y < 8) (hz : z < 8) : (wordL c y z).length ≤ 5 := by
  have h : ∀ (l : List (List UInt8)) (i : Nat), (∀ x ∈ l, x.length ≤ 5) → (l.getD i []).length ≤ 5 := by
    intro l i hl
    rw [List.getD_eq_getElem?_getD]
    cases hx : l[i]? with
    | none => simp
    | some x => simpa using hl x (List.mem_of_getElem? hx)
  unfold wordL
  repeat' split
  all_goals first | exact h _ _ (by decide) | simp

theorem fillC_len (y z : Nat) (c : UInt8) (hy : y < 8) (hz : z < 8) : (fillC y z c).length ≤ 5 := by
  unfold fillC; split <;> exact wordL_len _ _ _ hy hz

theorem Tryd.WriteString_k (B b : Nat) (bs : List Value) (s : ByteArray) (w : World) (h : Lib.IsBuilderF 54 5 B b bs w) (hlen : bs.length + s.size ≤ 140737488355328) (hBw : B ≤ w.heap.size) :
    Calls Tryd.prog 20 #[.pointer (some ⟨b, 0, none⟩), .string s] w fun e w' => e = .returned (.tuple #[.int .i64 s.size, .nilIface]) ∧ (Lib.BuilderAtF 54 5 B b (.pointer (some ⟨b, 0, none⟩)) (bs ++ Lib.strCells s) w' ∧ Below B w w' ∧ Lib.OthersKept 5 (some b) w w') :=
  Any.Builder_WriteString_k { Tryd.lays154 with } Tryd.Builder_Extra_154 B b bs s w h hlen hBw

end Go.Proofs.YtmboogkpbcjfoaaDoor
