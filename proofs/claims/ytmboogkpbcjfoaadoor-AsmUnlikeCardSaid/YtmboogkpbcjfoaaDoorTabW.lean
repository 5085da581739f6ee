/- An opcode's text with its number, over the translation. -/
import Derived.Test.YtmboogkpbcjfoaaDoorTabO
import Derived.Test.YtmboogkpbcjfoaaDoorTabH
namespace Go.Proofs.YtmboogkpbcjfoaaDoor
open Go.RowKit
set_option linter.unusedVariables false
theorem decDig (y : Nat) (h : y < 8) : Lib.decDigits y = [UInt8.ofNat (48 + y)] :=
  (by decide +kernel : ∀ n : Fin 8, Lib.decDigits n.val = [UInt8.ofNat (48 + n.val)]) ⟨y, h⟩
theorem retS' {a b : List UInt8} (h : a = b) : Ending.returned (.string ⟨a.toArray⟩) = .returned (.string ⟨b.toArray⟩) := by rw [h]
set_option maxRecDepth 1000000 in
set_option maxHeartbeats 400000 in
theorem with_any (t n : List UInt8) (a y : Nat) (rb rc rt : Int) (w : World) (ht : t.length ≤ 1000) (hn : n.length ≤ 100) (L : Laid w) :
    Calls Tryd.prog 6 #[.agg #[.string ⟨t.toArray⟩, .int .i64 a, .int .i64 y, .int .i64 rb, .int .i64 rc, .int .i64 rt], .string ⟨n.toArray⟩] w fun e w' => e = .returned (.string ⟨(Lib.replace t [35] n 1).toArray⟩) ∧ Below w.heap.size w w' := by
  obtain ⟨m, hm⟩ := L.most.2
  have hml := L.most.1
  go_enter Tryd.func6, Tryd.ntmps6
  go_wp2_with fail
  refine (Tryd.strings_Replace ⟨t.toArray⟩ ⟨#[35]⟩ ⟨n.toArray⟩ 1 m _ (by simp only [ByteArray.size, List.size_toArray]; omega) ((World.cell?_alloc_lt _ _ _ hml).trans hm) (by decide) ?_).mono ?_
  · have h1 := Lib.countB_mul_le (⟨#[35]⟩ : ByteArray) (by decide) t.length ⟨t.toArray⟩ (by simp [ByteArray.size])
    have h2 : (⟨#[35]⟩ : ByteArray).size = 1 := rfl
    simp only [ByteArray.size, List.size_toArray] at h1 ⊢
    have h3 : Lib.countB ⟨t.toArray⟩ ⟨#[35]⟩ ≤ 1000 := by simp at h1; omega
    have := Nat.mul_le_mul h3 hn
    omega
  rintro e w1 ⟨rfl, hb1⟩
  go_wp2
  go_ret
  exact ⟨rfl, ((Below.refl _ w).alloc (Nat.le_refl _) _).trans (hb1.mono (by simp))⟩
set_option maxRecDepth 1000000 in
set_option maxHeartbeats 1000000 in
theorem letter_any (t : List UInt8) (a y : Nat) (rb rc rt : Int) (w : World) (ha : a < 8) (hy : y < 8) :
    Calls Tryd.prog 7 #[.agg #[.string ⟨t.toArray⟩, .int .i64 a, .int .i64 y, .int .i64 rb, .int .i64 rc, .int .i64 rt]] w fun e w' => e = .returned (.string ⟨(letterL ⟨t, a, y, rb, rc, rt⟩).toArray⟩) ∧ Below w.heap.size w w' := by
  have h8 : a = 0 ∨ a = 1 ∨ a = 2 ∨ a = 3 ∨ a = 4 ∨ a = 5 ∨ a = 6 ∨ a = 7 := by omega
  rcases h8 with rfl | rfl | rfl | rfl | rfl | rfl | rfl | rfl
  case inr.inr.inr.inr.inr.inr.inl =>
    go_enter Tryd.func7, Tryd.ntmps7
    go_wp2_with fail
    trace_state
    refine (hex_any ((y : Int) * 8) 2 _ (by omega) (by omega) (by omega)).mono ?_
    rintro e w1 ⟨rfl, hb1⟩
    go_wp2
    go_ret
    exact ⟨rfl, ((Below.refl _ w).alloc (Nat.le_refl _) _).trans (hb1.mono (by simp))⟩
  case inl | inr.inr.inr.inr.inr.inr.inr =>
    go_enter Tryd.func7, Tryd.ntmps7
    go_wp2_with fail
    refine (Tryd.strconv_Itoa_small y (by omega) _).mono ?_
    rintro e w1 ⟨rfl, rfl⟩
    go_wp2
    go_ret
    exact ⟨retS' (by rw [decDig y hy]; rfl), (Below.refl _ w).alloc (Nat.le_refl _) _⟩
  all_goals
    go_enter Tryd.func7, Tryd.ntmps7
    go_wp2
    go_ret
    exact ⟨rfl, (Below.refl _ w).alloc (Nat.le_refl _) _⟩
end Go.Proofs.YtmboogkpbcjfoaaDoor
