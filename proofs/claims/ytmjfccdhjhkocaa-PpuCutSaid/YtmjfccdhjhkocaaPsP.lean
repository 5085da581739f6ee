/- Up to ten sprites: the stable sort. -/
import Derived.Test.YtmjfccdhjhkocaaPsO
namespace Go.Proofs.Ytmjfccdhjhkocaa
open Go.RowKit
set_option linter.unusedVariables false
variable {b : Nat} {p : Pic}
set_option maxRecDepth 100000 in
theorem stableS_any (g n : Nat) (hn : n ≤ 10) (l : List Spr) (hl : l.length = n) (W : World) (h : LsAt W g l) : Calls Try.prog 92 #[.slice (some ⟨g, 0, none⟩) n 10, .int .i64 (n : Int), .func (.func 82) #[] #[]] W fun e w' => e = .returned (.tuple #[]) ∧ LsAt w' g (sortTo n l) ∧ Fr g W w' := by
  have HI : Hid _ := insertionS_any g n hn l hl W h
  clear h hl
  have d1 : decide ((20 : Int) ≤ (n : Int)) = false := decide_eq_false (by omega)
  have d2 : decide ((20 : Int) < (n : Int)) = false := decide_eq_false (by omega)
  go_enter Try.func92, Try.ntmps92
  go_wp2_with fail
  go_loopw [7, 8] (fun A B wr => A = .int .i64 0 ∧ B = .int .i64 20 ∧ wr = W) (fun _ _ _ => 0)
  case atStart => exact ⟨rfl, rfl, rfl⟩
  case round =>
    obtain ⟨rfl, rfl, rfl⟩ := hrel
    go_wp2_with fail
    refine Calls.mono HI.out ?_
    rintro e w2 ⟨rfl, h2⟩
    have H2 : Hid _ := h2
    clear h2 HI
    go_wp2_with fail
    go_loopw [6] (fun A wr => A = .int .i64 20 ∧ wr = w2) (fun _ _ => 0)
    case atStart => exact ⟨rfl, rfl⟩
    case round =>
      obtain ⟨rfl, rfl⟩ := hrel
      go_wp2_with fail
      go_end0
      exact ⟨rfl, H2.out⟩
set_option maxRecDepth 100000 in
theorem sortS_any (g n : Nat) (hn : n ≤ 10) (l : List Spr) (hl : l.length = n) (W : World) (h : LsAt W g l) : Calls Try.prog 81 #[.slice (some ⟨g, 0, none⟩) n 10, .func (.func 82) #[] #[]] W fun e w' => e = .returned (.tuple #[]) ∧ LsAt w' g (sortTo n l) ∧ Fr g W w' := by
  have HI : Hid _ := stableS_any g n hn l hl W h
  clear h hl
  go_enter Try.func81, Try.ntmps81
  go_wp2_with fail
  refine Calls.mono HI.out ?_
  rintro e w2 ⟨rfl, h2⟩
  have H2 : Hid _ := h2
  clear h2 HI
  go_wp2_with fail
  go_end0
  exact ⟨rfl, H2.out⟩
/-- all that lie in the sorted row lay in it before -/
theorem insTo_mem : ∀ j l, ∀ s ∈ insTo j l, s ∈ l := by
  intro j
  induction j with
  | zero => intro l s hs; exact hs
  | succ j ih =>
    intro l s hs
    unfold insTo at hs
    split at hs
    · rename_i a c ha hc
      split at hs
      · have h1 := ih _ s hs
        unfold swapL at h1
        rcases List.mem_or_eq_of_mem_set h1 with h2 | h2
        · rcases List.mem_or_eq_of_mem_set h2 with h3 | h3
          · exact h3
          · rw [h3]; exact List.mem_of_getElem? hc
        · rw [h2]; exact List.mem_of_getElem? ha
      · exact hs
    · exact hs
theorem sortTo_mem : ∀ i l, ∀ s ∈ sortTo i l, s ∈ l := by
  intro i
  induction i with
  | zero => intro l s hs; exact hs
  | succ i ih => intro l s hs; exact ih l s (insTo_mem i _ s hs)
end Go.Proofs.Ytmjfccdhjhkocaa
