/- Cart: registers. -/
import Derived.Test.YtojlappgmckokaaDoorCaN
namespace Go.Proofs.YtojlappgmckokaaDoor
open Go.Shelf Go.RowKit
set_option linter.unusedVariables false
set_option linter.unusedSimpArgs false
variable {w w' W : World} {b : Nat}
theorem bit8 {a : Nat} (h : a < 16384) : bits .and .i64 (a : Int) 256 = ((256 * (a / 256 % 2) : Nat) : Int) := by
  have key : ∀ h : Fin 64, ∀ l : Fin 256, bits .and .i64 ((256 * h.val + l.val : Nat) : Int) 256 = ((256 * (h.val % 2) : Nat) : Int) := by decide +kernel
  have := key ⟨a / 256, by omega⟩ ⟨a % 256, by omega⟩
  have e : 256 * (a / 256) + a % 256 = a := by omega
  dsimp only at this
  rw [e] at this
  exact this
set_option maxRecDepth 100000 in
set_option maxHeartbeats 1000000 in
theorem set_2 {on low high pick mode a x : Nat} (h : W.heap[b]? = some (.cells #[.int .u8 ((on : Nat) : Int), .int .u8 ((low : Nat) : Int)] 113 (0, 0))) (ha : a < 32768) (hx : x ≤ 255) : Calls Tryd.prog 101 #[.pointer (some ⟨b, 0, none⟩), .int .i64 (a : Int), .int .u8 (x : Int)] W (SetAns W b 113 (Mp.set ⟨2, on, low, high, pick, mode⟩ a x).cells) := by
  have k0 : W.cell? ⟨b, 0, none⟩ = some (.int .u8 (on : Int)) := heap_cell h rfl
  have k1 : W.cell? ⟨b, 1, none⟩ = some (.int .u8 (low : Int)) := heap_cell h rfl
  have kf : ∀ k, W.frozen? ⟨b, k, none⟩ = false := fun k => heap_fz h
  have HH : Hid _ := h
  have HO1 : Hid (∀ w, Calls Tryd.prog 97 #[.bool true] w fun e w' => e = .returned (.int .u8 1) ∧ w' = w) := fun w => oneIf_any true
  have HO0 : Hid (∀ w, Calls Tryd.prog 97 #[.bool false] w fun e w' => e = .returned (.int .u8 0) ∧ w' = w) := fun w => oneIf_any false
  clear h
  have hq : (16384 ≤ a) ∨ (a < 16384 ∧ a / 256 % 2 = 1) ∨ (a < 16384 ∧ a / 256 % 2 = 0) := by omega
  rcases hq with hq | hq | hq
  · have e0 : (16384 : Int) ≤ (a : Int) := by omega
    have hset : (Mp.set ⟨2, on, low, high, pick, mode⟩ a x).cells = [.int .u8 ((on : Nat) : Int), .int .u8 ((low : Nat) : Int)] := by
      simp [Mp.set, Mp.cells, hq]
    rw [hset]
    clear hset
    try clear hy
    go_enter Tryd.func101, Tryd.ntmps101
    go_wp2_with fail
    go_end0
    exact ⟨rfl, HH.out, Fr.refl _ _⟩
  · have e0 : ¬ (16384 : Int) ≤ (a : Int) := by omega
    have eb8 : bits .and .i64 (a : Int) 256 = 256 := by rw [bit8 (by omega)]; omega
    obtain ⟨y, hy⟩ : ∃ y : Nat, y = max (x % 16) 1 := ⟨_, rfl⟩
    have HY : Hid (y = max (x % 16) 1) := hy
    have hset : (Mp.set ⟨2, on, low, high, pick, mode⟩ a x).cells = [.int .u8 ((on : Nat) : Int), .int .u8 ((y : Nat) : Int)] := by
      unfold Mp.set; rw [if_neg (by show ¬ (2 = 1); decide), if_pos rfl, if_neg (by omega), if_pos hq.2, hy]; rfl
    rw [hset]
    clear hset
    try clear hy
    go_enter Tryd.func101, Tryd.ntmps101
    go_wp2_with fail
    go_end0
    exact set_done (k := 1) HH.out rfl (int8 (by have hy := HY.out; subst hy; have z1 := and1 (x : Int) (by omega) (by omega); have z3 := and3 (x : Int) (by omega) (by omega); have z5 := and15 (x : Int) (by omega) (by omega); have z7 := and127 (x : Int) (by omega) (by omega); omega))
  · have e0 : ¬ (16384 : Int) ≤ (a : Int) := by omega
    have eb8 : bits .and .i64 (a : Int) 256 = 0 := by rw [bit8 (by omega)]; omega
    obtain ⟨y, hy⟩ : ∃ y : Nat, y = onF x := ⟨_, rfl⟩
    have hset : (Mp.set ⟨2, on, low, high, pick, mode⟩ a x).cells = [.int .u8 ((y : Nat) : Int), .int .u8 ((low : Nat) : Int)] := by
      unfold Mp.set; rw [if_neg (by show ¬ (2 = 1); decide), if_pos rfl, if_neg (by omega), if_neg (by omega), hy]; rfl
    rw [hset]
    clear hset
    by_cases h10 : x % 16 = 10
    · have ed : (x : Int) % 16 = 10 := by omega
      obtain rfl : y = 1 := by rw [hy, onF, if_pos h10]
      clear hy h10
      go_enter Tryd.func101, Tryd.ntmps101
      go_wp2_with fail
      refine (HO1.out _).mono ?_
      rintro e w' ⟨rfl, hw'⟩
      obtain rfl := hw'.symm
      clear hw'
      go_wp2_with fail
      go_end0
      exact set_done (k := 0) HH.out rfl rfl
    · have ed : ¬ (x : Int) % 16 = 10 := by omega
      have eb : ((x : Int) % 16 == 10) = false := by rw [beq_eq_false_iff_ne]; exact ed
      obtain rfl : y = 0 := by rw [hy, onF, if_neg h10]
      clear hy h10
      go_enter Tryd.func101, Tryd.ntmps101
      go_wp2_with fail
      refine (HO0.out _).mono ?_
      rintro e w' ⟨rfl, hw'⟩
      obtain rfl := hw'.symm
      clear hw'
      go_wp2_with fail
      go_end0
      exact set_done (k := 0) HH.out rfl rfl
end Go.Proofs.YtojlappgmckokaaDoor
