/- Load on ports with all that is theirs. -/
import Derived.Test.YteomldlmdpphaaaDoorKld
import Derived.Test.YteomldlmdpphaaaDoorPpL
namespace Go.Proofs.YteomldlmdpphaaaDoor
open Go.RowKit
set_option linter.unusedVariables false
variable {b : Nat} {p : Po}
theorem Fr.toPb {W0 : World} {K : List (Nat × Obj)} {zs : List Int} {W w' : World} {q : Po} (h : Pb W0 K b p zs W) (oq : q.Ok) (hq : PoAt w' b q (.slice none 0 0)) (f : Fr b W w') : Pb W0 K b q [] w' :=
  h.moved oq (by decide) fun v h1 h2 => ⟨.slice none 0 0, hq, ⟨by simp, Or.inl ⟨rfl, rfl⟩⟩, FrS.ofFr f, Or.inr (Or.inl rfl)⟩
/-- a state that was told -/
theorem Pb.load {W0 : World} {K : List (Nat × Obj)} {zs : List Int} {W : World} {q : Po} (h : Pb W0 K b p zs W) (oq : q.Ok) (lq : q.Ln) (g o c : Nat) (hc : 19 ≤ c) (hcm : c ≤ 9223372036854775807) (hB : Bs W (.slice (some ⟨g, o, none⟩) 19 c) (stB q)) :
    Calls Tryd.prog 24 #[.pointer (some ⟨b, 0, none⟩), .slice (some ⟨g, o, none⟩) 19 c] W fun e w' => e = .returned (.int .i64 0) ∧ Pb W0 K b q [] w' := by
  obtain ⟨v, h1, _⟩ := h.row
  have hx : ∀ j, j < 19 → W.cell? ⟨g, o + j, none⟩ = some (.int .u8 ((stB q).getD j 0)) := by
    rcases hB.at' with ⟨e, _⟩ | ⟨g', o', c', e, hh⟩
    · cases e
    · injection e with e1 e2 e3
      injection e1 with e1
      injection e1 with e4 e5
      subst e4 e5
      intro j hj
      refine hh j _ ?_
      rw [List.getD_eq_getElem?_getD, List.getElem?_eq_getElem (show j < (stB q).length from hj)]
      rfl
  have hb : ∀ j, 0 ≤ (stB q).getD j 0 ∧ (stB q).getD j 0 ≤ 255 := fun j => by
    rw [List.getD_eq_getElem?_getD]
    cases e : (stB q)[j]? with
    | none => exact ⟨by decide, by decide⟩
    | some y => exact byte_back oq y (List.mem_of_getElem? e)
  refine (load_19 v W h1 g o c (fun j => (stB q).getD j 0) hx hb hc hcm).mono ?_
  have hz : zB (fun j => (stB q).getD (14 + j) 0) = true := rfl
  rw [ld_back oq]
  rintro e w' (⟨_, he, hp, hf⟩ | ⟨hm, _, _⟩)
  · exact ⟨he, Fr.toPb h oq hp hf⟩
  · rw [may_back oq lq] at hm
    cases hm
end Go.Proofs.YteomldlmdpphaaaDoor
