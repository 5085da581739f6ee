/- Cart: banksOf, ram, sum, marked. -/
import Derived.Test.YtojlappgmckokaaDoorCaE
namespace Go.Proofs.YtojlappgmckokaaDoor
open Go.Shelf Go.RowKit
set_option linter.unusedVariables false
variable {w w' W : World} {g n : Nat} {f : Nat → Int}
theorem shl2 {c : Nat} (h : c ≤ 6) : wrap64 ((2 : Int) * 2 ^ c) = ((2 * 2 ^ c : Nat) : Int) := by
  have : c = 0 ∨ c = 1 ∨ c = 2 ∨ c = 3 ∨ c = 4 ∨ c = 5 ∨ c = 6 := by omega
  rcases this with rfl | rfl | rfl | rfl | rfl | rfl | rfl <;> decide +kernel
set_option maxRecDepth 100000 in
theorem banksOf_any {c : Nat} (h : c ≤ 6) : Calls Tryd.prog 35 #[.int .u8 (c : Int)] W fun e w' => e = .returned (.int .i64 ((2 * 2 ^ c : Nat) : Int)) ∧ w' = W := by
  have e1 := shl2 h
  go_enter Tryd.func35, Tryd.ntmps35
  go_wp2_with fail
  go_ret
  refine ⟨ret1 ?_, rfl⟩
  first | exact e1 | (rw [← e1]; done) | (simp; omega)
def ramN (R : Rw) (c : Nat) : Nat := if R.mapper = 2 then 512 else [0, 0, 8192, 32768, 131072, 65536].getD c 0
set_option maxRecDepth 100000 in
theorem ram_any {R : Rw} {c : Nat} (h : Tb W) (hc : c ≤ 5) (hm : R.mapper ≤ 5) : Calls Tryd.prog 36 #[.agg R.cells.toArray, .int .u8 (c : Int)] W fun e w' => e = .returned (.int .i64 (ramN R c : Nat)) ∧ Up W w' := by
  obtain ⟨kd, mp, bk, lo, hi', bt⟩ := R
  have HR : Hid (∀ w, Up W w → w.rangeAt 2 0 ramsV) := fun w u => range_up u h.rams
  clear h
  show Calls Tryd.prog _ #[.agg #[.int .u8 (kd : Int), .int .i64 (mp : Int), .int .i64 (bk : Int), .int .u8 (lo : Int), .int .u8 (hi' : Int), .bool bt], .int .u8 (c : Int)] W _
  have hm : mp ≤ 5 := hm
  by_cases h2 : mp = 2
  · subst h2
    go_enter Tryd.func36, Tryd.ntmps36
    go_wp2_with fail
    go_ret
    exact ⟨by first | rfl | (simp [ramN]; done), (Up.refl W).alloc _⟩
  · have e1 : ¬ (mp : Int) = 2 := by omega
    obtain ⟨x, hx, hr⟩ : ∃ x : Nat, ramsV[c]? = some (.int .i64 (x : Int)) ∧ ramN ⟨kd, mp, bk, lo, hi', bt⟩ c = x := by
      unfold ramN
      rw [if_neg h2]
      have : c = 0 ∨ c = 1 ∨ c = 2 ∨ c = 3 ∨ c = 4 ∨ c = 5 := by omega
      rcases this with rfl | rfl | rfl | rfl | rfl | rfl <;> exact ⟨_, rfl, rfl⟩
    rw [hr]
    have kc : (W.alloc (.cells #[.int .u8 (kd : Int), .int .i64 (mp : Int), .int .i64 (bk : Int), .int .u8 (lo : Int), .int .u8 (hi' : Int), .bool bt] 71)).cell? ⟨2, c, none⟩ = some (.int .i64 (x : Int)) := by
      have := HR.out _ ((Up.refl W).alloc (.cells #[.int .u8 (kd : Int), .int .i64 (mp : Int), .int .i64 (bk : Int), .int .u8 (lo : Int), .int .u8 (hi' : Int), .bool bt] 71)) c _ hx
      rw [Nat.zero_add] at this
      exact this
    have e2 : (c : Int) < 6 := by omega
    clear hr hx HR
    go_enter Tryd.func36, Tryd.ntmps36
    go_wp2_with fail
    go_ret
    exact ⟨by first | rfl | (simp; done), (Up.refl W).alloc _⟩
set_option maxRecDepth 100000 in
set_option maxHeartbeats 1000000 in
theorem sum_any {c : Nat} (h : By W g n f) (hn : 512 ≤ n) (hc : n ≤ c) (hm : c ≤ 9223372036854775807) (h8 : ∀ k, 0 ≤ f k ∧ f k ≤ 255) : Calls Tryd.prog 59 #[.slice (some ⟨g, 0, none⟩) n c] W fun e w' => e = .returned (.int .u8 ((231 - sig f 25) % 256)) ∧ w' = W := by
  have HB : Hid (By W g n f) := h
  have H8 : Hid (∀ k, 0 ≤ f k ∧ f k ≤ 255) := h8
  clear h h8
  go_enter Tryd.func59, Tryd.ntmps59
  go_wp2_with fail
  go_loopw [3, 9] (fun S I wr => wr = W ∧ ∃ k : Nat, k ≤ 25 ∧ I = .int .i64 (k : Int) ∧ S = .int .u8 ((231 - sig f k) % 256)) (fun _ I _ => 25 - (intOf I).toNat)
  case atStart => exact ⟨rfl, 0, Nat.zero_le _, rfl, rfl⟩
  case round =>
    obtain ⟨hw, k, hk, rfl, rfl⟩ := hrel
    subst hw
    by_cases hlt : k < 25
    · have e1 : (k : Int) < 25 := by omega
      have kc := HB.out.cell (308 + k) (by omega)
      have k8 := H8.out (308 + k)
      have hs : sig f (k + 1) = sig f k + f (308 + k) := rfl
      generalize f (308 + k) = X at *
      generalize sig f k = S at *
      go_wp2_with fail
      go_round
      case rel => exact ⟨by trivial, k + 1, by omega, by go_num, by rw [hs]; congr 1; omega⟩
      case measure => simp [intOf]; omega
    · have e1 : ¬ (k : Int) < 25 := by omega
      obtain rfl : k = 25 := by omega
      go_wp2_with fail
      go_ret
      exact ⟨by first | rfl | (simp; done), rfl⟩
/-- is the mark there? -/
def MarkIs (f : Nat → Int) (b : Bool) : Prop := (b = true ∧ ∀ i, i < 48 → f (260 + i) = markF i) ∨ (b = false ∧ ∃ i, i < 48 ∧ f (260 + i) ≠ markF i)
def MarkAns (W : World) (f : Nat → Int) (e : Ending) (w' : World) : Prop := ∃ b, e = .returned (.bool b) ∧ MarkIs f b ∧ w' = W
set_option maxRecDepth 100000 in
set_option maxHeartbeats 1000000 in
theorem marked_any {c : Nat} (h : By W g n f) (hn : 512 ≤ n) (hc : n ≤ c) (hm : c ≤ 9223372036854775807) (h8 : ∀ k, 0 ≤ f k ∧ f k ≤ 255) : Calls Tryd.prog 58 #[.slice (some ⟨g, 0, none⟩) n c] W (MarkAns W f) := by
  have HB : Hid (By W g n f) := h
  have H8 : Hid (∀ k, 0 ≤ f k ∧ f k ≤ 255) := h8
  clear h h8
  go_enter Tryd.func58, Tryd.ntmps58
  go_wp2_with fail
  go_loopw [8] (fun I wr => wr = W ∧ ∃ k : Nat, k ≤ 48 ∧ I = .int .i64 (k : Int) ∧ Hid (∀ i, i < k → f (260 + i) = markF i)) (fun I _ => 48 - (intOf I).toNat)
  case atStart => exact ⟨rfl, 0, Nat.zero_le _, rfl, fun i hi => by omega⟩
  case round =>
    obtain ⟨hw, k, hk, rfl, HK⟩ := hrel
    subst hw
    by_cases hlt : k < 48
    · have e1 : (k : Int) < 48 := by omega
      have kc := HB.out.cell (260 + k) (by omega)
      have mw := markW hlt
      by_cases hx : f (260 + k) = markF k
      · have HN : Hid (∀ i, i < k + 1 → f (260 + i) = markF i) := fun i hi => by
          by_cases e : i = k
          · subst e; exact hx
          · exact HK.out i (by omega)
        rw [hx] at kc
        clear HK hx
        generalize markF k = X at *
        go_wp2_with fail
        go_round
        case rel => exact ⟨by trivial, k + 1, by omega, by go_num, HN⟩
        case measure => simp [intOf]; omega
      · have HN : Hid (f (260 + k) ≠ markF k) := hx
        have hne : ¬ f (260 + k) = markF k := hx
        clear hx HK
        generalize hX : markF k = X at *
        generalize hY : f (260 + k) = Y at *
        go_wp2_with fail
        go_ret
        exact ⟨false, by first | rfl | (simp; done), Or.inr ⟨rfl, k, hlt, by rw [hX, hY]; exact HN.out⟩, rfl⟩
    · have e1 : ¬ (k : Int) < 48 := by omega
      obtain rfl : k = 48 := by omega
      go_wp2_with fail
      go_ret
      exact ⟨true, by first | rfl | (simp; done), Or.inl ⟨rfl, HK.out⟩, rfl⟩
end Go.Proofs.YtojlappgmckokaaDoor
