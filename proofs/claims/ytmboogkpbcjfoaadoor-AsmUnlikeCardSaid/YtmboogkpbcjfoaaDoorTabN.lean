/- No two opcodes are written alike: by the kernel. -/
import Derived.Test.YtmboogkpbcjfoaaDoorTabP
namespace Go.Proofs.YtmboogkpbcjfoaaDoor
def texts : List (List UInt8) := (List.range 512).filterMap fun i => infoT (i % 256) (decide (256 ≤ i))
set_option maxRecDepth 100000 in
theorem texts_len : (texts.length == 500) = true := by decide +kernel
/-- a text as one number -/
def numOf (l : List UInt8) : Nat := l.foldl (fun n c => n * 256 + c.toNat) 1
def distinct : List Nat → Bool
  | [] => true
  | a :: r => r.all (fun b => !(Nat.beq a b)) && distinct r
set_option maxRecDepth 100000 in
theorem texts_distinct : distinct (texts.map numOf) = true := by decide +kernel
/-- the texts of the first k opcodes -/
def textsTo (k : Nat) : List (List UInt8) := (List.range k).filterMap fun i => infoT (i % 256) (decide (256 ≤ i))
theorem textsTo_none (k : Nat) (h : infoT (k % 256) (decide (256 ≤ k)) = none) : textsTo (k + 1) = textsTo k := by
  unfold textsTo
  rw [List.range_succ, List.filterMap_append]
  simp [h]
theorem textsTo_some (k : Nat) (X : List UInt8) (h : infoT (k % 256) (decide (256 ≤ k)) = some X) : textsTo (k + 1) = textsTo k ++ [X] := by
  unfold textsTo
  rw [List.range_succ, List.filterMap_append]
  simp [h]
theorem textsTo_len (k : Nat) : (textsTo k).length ≤ k := by
  unfold textsTo
  exact Nat.le_trans (List.length_filterMap_le _ _) (by simp)
theorem textsTo_all : (textsTo 512).length = 500 := by
  have := texts_len
  rw [beq_iff_eq] at this
  exact this
theorem distinct_apart : ∀ (a b : List Nat) (x y : Nat), distinct (a ++ b) = true → x ∈ a → y ∈ b → x ≠ y
  | [], _, _, _, _, h, _ => by cases h
  | c :: a, b, x, y, hd, hx, hy => by
    simp only [List.cons_append, distinct, Bool.and_eq_true] at hd
    rcases List.mem_cons.1 hx with rfl | hx
    · have := List.all_eq_true.1 hd.1 y (List.mem_append_right _ hy)
      intro e
      subst e
      simp at this
    · exact distinct_apart a b x y hd.2 hx hy
theorem textsTo_split (k n : Nat) (h : k ≤ n) : textsTo n = textsTo k ++ (List.range' k (n - k)).filterMap fun i => infoT (i % 256) (decide (256 ≤ i)) := by
  obtain ⟨m, rfl⟩ : ∃ m, n = k + m := ⟨n - k, by omega⟩
  unfold textsTo
  rw [← List.filterMap_append, show k + m - k = m from by omega, List.range_eq_range', List.range_eq_range']
  have := List.range'_append_1 (s := 0) (m := k) (n := m)
  rw [Nat.zero_add] at this
  rw [this]
theorem text_new (k : Nat) (hk : k < 512) (X : List UInt8) (h : infoT (k % 256) (decide (256 ≤ k)) = some X) (Y : List UInt8) (hY : Y ∈ textsTo k) : Y ≠ X := by
  have hd := texts_distinct
  rw [show texts = textsTo 512 from rfl, textsTo_split k 512 (by omega), List.map_append] at hd
  have hX : X ∈ (List.range' k (512 - k)).filterMap fun i => infoT (i % 256) (decide (256 ≤ i)) := List.mem_filterMap.2 ⟨k, by simp [List.mem_range'_1]; omega, h⟩
  have := distinct_apart _ _ (numOf Y) (numOf X) hd (List.mem_map_of_mem hY) (List.mem_map_of_mem hX)
  intro e
  exact this (by rw [e])
set_option maxRecDepth 100000 in
theorem second_all : ((List.range 256).all fun c => (lookL c true).isSome) = true := by decide +kernel
theorem second_some (c : Nat) (h : c < 256) : lookL c true ≠ none := by
  have := List.all_eq_true.1 second_all c (by simpa using h)
  intro e
  rw [e] at this
  cases this
end Go.Proofs.YtmboogkpbcjfoaaDoor
