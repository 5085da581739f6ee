/- Cart: where a byte of RAM is seen. -/
import Derived.Test.YtojlappgmckokaaDoorCaX
namespace Go.Proofs.YtojlappgmckokaaDoor
open Go.Shelf Go.RowKit
set_option linter.unusedVariables false
set_option linter.unusedSimpArgs false
variable {w w' W : World} {b : Nat}
set_option maxRecDepth 100000 in
set_option maxHeartbeats 1000000 in
theorem ramPlace_0 {cb rb rc n a q : Nat} {s : Bool} (k7 : W.cell? ⟨cb, 7, none⟩ = some (.slice (some ⟨rb, 0, none⟩) n rc)) (k8 : W.cell? ⟨cb, 8, none⟩ = some (.iface 121 (.agg #[]))) (n1 : 1 ≤ n) (n2 : n ≤ 131072) (hq : q ≤ 15) (ha : a < 8192)
    (HL : Hid (∀ w, Up W w → Calls Tryd.prog 115 #[.agg #[]] w fun e w' => e = .returned (.tuple #[.int .i64 (q : Int), .bool s]) ∧ Up w w')) : Calls Tryd.prog 41 #[.pointer (some ⟨cb, 0, none⟩), .int .i64 ((40960 + a : Nat) : Int)] W fun e w' => e = .returned (.tuple #[.int .i64 (((q * 8192 + a) % n : Nat) : Int), .bool s]) ∧ Up W w' := by
  have e1 : ¬ ((40960 + a : Nat) : Int) < 40960 := by omega
  have e2 : ¬ (49152 : Int) ≤ ((40960 + a : Nat) : Int) := by omega
  have e3 : ¬ (n : Int) = 0 := by omega
  have HE : Hid (∀ (X : Int), X = (((q * 8192 + a) % n : Nat) : Int) → Ending.returned (.tuple #[.int .i64 X, .bool s]) = .returned (.tuple #[.int .i64 (((q * 8192 + a) % n : Nat) : Int), .bool s])) := fun X h => by rw [h]
  have HK : Hid (∀ w, Up W w → w.cell? ⟨cb, 7, none⟩ = some (.slice (some ⟨rb, 0, none⟩) n rc)) := fun w u => cell_up u k7
  generalize hA : 40960 + a = A at *
  have HA : Hid (40960 + a = A) := hA
  have hA1 : 40960 ≤ A := by omega
  have hA2 : A < 49152 := by omega
  clear hA
  go_enter Tryd.func41, Tryd.ntmps41
  go_wp2_with fail
  refine (HL.out _ (by first | exact Up.refl _ | exact Up.drewN _ _ | exact (Up.refl _).drew)).mono ?_
  rintro e w5 ⟨rfl, u5⟩
  have HU5 : Hid (Up W w5) := by first | exact u5 | exact (Up.drewN _ _).trans u5 | exact ((Up.refl _).drew).trans u5
  have k7' := HK.out w5 HU5.out
  clear u5 k7 k8
  go_wp2_with fail
  first | go_ret | go_ret2
  refine ⟨HE.out _ ?_, HU5.out⟩
  have hA := HA.out
  have e5 : (q : Int) * 8192 + (A : Int) - 40960 = ((q * 8192 + a : Nat) : Int) := by omega
  rw [e5]
  exact (Int.natCast_emod _ _).symm
set_option maxRecDepth 100000 in
set_option maxHeartbeats 1000000 in
theorem ramPlace_1 {cb rb rc n a q : Nat} {s : Bool} (k7 : W.cell? ⟨cb, 7, none⟩ = some (.slice (some ⟨rb, 0, none⟩) n rc)) (k8 : W.cell? ⟨cb, 8, none⟩ = some (.iface 108 (.pointer (some ⟨b, 0, none⟩)))) (n1 : 1 ≤ n) (n2 : n ≤ 131072) (hq : q ≤ 15) (ha : a < 8192)
    (HL : Hid (∀ w, Up W w → Calls Tryd.prog 94 #[.pointer (some ⟨b, 0, none⟩)] w fun e w' => e = .returned (.tuple #[.int .i64 (q : Int), .bool s]) ∧ Up w w')) : Calls Tryd.prog 41 #[.pointer (some ⟨cb, 0, none⟩), .int .i64 ((40960 + a : Nat) : Int)] W fun e w' => e = .returned (.tuple #[.int .i64 (((q * 8192 + a) % n : Nat) : Int), .bool s]) ∧ Up W w' := by
  have e1 : ¬ ((40960 + a : Nat) : Int) < 40960 := by omega
  have e2 : ¬ (49152 : Int) ≤ ((40960 + a : Nat) : Int) := by omega
  have e3 : ¬ (n : Int) = 0 := by omega
  have HE : Hid (∀ (X : Int), X = (((q * 8192 + a) % n : Nat) : Int) → Ending.returned (.tuple #[.int .i64 X, .bool s]) = .returned (.tuple #[.int .i64 (((q * 8192 + a) % n : Nat) : Int), .bool s])) := fun X h => by rw [h]
  have HK : Hid (∀ w, Up W w → w.cell? ⟨cb, 7, none⟩ = some (.slice (some ⟨rb, 0, none⟩) n rc)) := fun w u => cell_up u k7
  generalize hA : 40960 + a = A at *
  have HA : Hid (40960 + a = A) := hA
  have hA1 : 40960 ≤ A := by omega
  have hA2 : A < 49152 := by omega
  clear hA
  go_enter Tryd.func41, Tryd.ntmps41
  go_wp2_with fail
  refine (HL.out _ (by first | exact Up.refl _ | exact Up.drewN _ _ | exact (Up.refl _).drew)).mono ?_
  rintro e w5 ⟨rfl, u5⟩
  have HU5 : Hid (Up W w5) := by first | exact u5 | exact (Up.drewN _ _).trans u5 | exact ((Up.refl _).drew).trans u5
  have k7' := HK.out w5 HU5.out
  clear u5 k7 k8
  go_wp2_with fail
  first | go_ret | go_ret2
  refine ⟨HE.out _ ?_, HU5.out⟩
  have hA := HA.out
  have e5 : (q : Int) * 8192 + (A : Int) - 40960 = ((q * 8192 + a : Nat) : Int) := by omega
  rw [e5]
  exact (Int.natCast_emod _ _).symm
set_option maxRecDepth 100000 in
set_option maxHeartbeats 1000000 in
theorem ramPlace_2 {cb rb rc n a q : Nat} {s : Bool} (k7 : W.cell? ⟨cb, 7, none⟩ = some (.slice (some ⟨rb, 0, none⟩) n rc)) (k8 : W.cell? ⟨cb, 8, none⟩ = some (.iface 111 (.pointer (some ⟨b, 0, none⟩)))) (n1 : 1 ≤ n) (n2 : n ≤ 131072) (hq : q ≤ 15) (ha : a < 8192)
    (HL : Hid (∀ w, Up W w → Calls Tryd.prog 100 #[.pointer (some ⟨b, 0, none⟩)] w fun e w' => e = .returned (.tuple #[.int .i64 (q : Int), .bool s]) ∧ Up w w')) : Calls Tryd.prog 41 #[.pointer (some ⟨cb, 0, none⟩), .int .i64 ((40960 + a : Nat) : Int)] W fun e w' => e = .returned (.tuple #[.int .i64 (((q * 8192 + a) % n : Nat) : Int), .bool s]) ∧ Up W w' := by
  have e1 : ¬ ((40960 + a : Nat) : Int) < 40960 := by omega
  have e2 : ¬ (49152 : Int) ≤ ((40960 + a : Nat) : Int) := by omega
  have e3 : ¬ (n : Int) = 0 := by omega
  have HE : Hid (∀ (X : Int), X = (((q * 8192 + a) % n : Nat) : Int) → Ending.returned (.tuple #[.int .i64 X, .bool s]) = .returned (.tuple #[.int .i64 (((q * 8192 + a) % n : Nat) : Int), .bool s])) := fun X h => by rw [h]
  have HK : Hid (∀ w, Up W w → w.cell? ⟨cb, 7, none⟩ = some (.slice (some ⟨rb, 0, none⟩) n rc)) := fun w u => cell_up u k7
  generalize hA : 40960 + a = A at *
  have HA : Hid (40960 + a = A) := hA
  have hA1 : 40960 ≤ A := by omega
  have hA2 : A < 49152 := by omega
  clear hA
  go_enter Tryd.func41, Tryd.ntmps41
  go_wp2_with fail
  refine (HL.out _ (by first | exact Up.refl _ | exact Up.drewN _ _ | exact (Up.refl _).drew)).mono ?_
  rintro e w5 ⟨rfl, u5⟩
  have HU5 : Hid (Up W w5) := by first | exact u5 | exact (Up.drewN _ _).trans u5 | exact ((Up.refl _).drew).trans u5
  have k7' := HK.out w5 HU5.out
  clear u5 k7 k8
  go_wp2_with fail
  first | go_ret | go_ret2
  refine ⟨HE.out _ ?_, HU5.out⟩
  have hA := HA.out
  have e5 : (q : Int) * 8192 + (A : Int) - 40960 = ((q * 8192 + a : Nat) : Int) := by omega
  rw [e5]
  exact (Int.natCast_emod _ _).symm
set_option maxRecDepth 100000 in
set_option maxHeartbeats 1000000 in
theorem ramPlace_3 {cb rb rc n a q : Nat} {s : Bool} (k7 : W.cell? ⟨cb, 7, none⟩ = some (.slice (some ⟨rb, 0, none⟩) n rc)) (k8 : W.cell? ⟨cb, 8, none⟩ = some (.iface 114 (.pointer (some ⟨b, 0, none⟩)))) (n1 : 1 ≤ n) (n2 : n ≤ 131072) (hq : q ≤ 15) (ha : a < 8192)
    (HL : Hid (∀ w, Up W w → Calls Tryd.prog 105 #[.pointer (some ⟨b, 0, none⟩)] w fun e w' => e = .returned (.tuple #[.int .i64 (q : Int), .bool s]) ∧ Up w w')) : Calls Tryd.prog 41 #[.pointer (some ⟨cb, 0, none⟩), .int .i64 ((40960 + a : Nat) : Int)] W fun e w' => e = .returned (.tuple #[.int .i64 (((q * 8192 + a) % n : Nat) : Int), .bool s]) ∧ Up W w' := by
  have e1 : ¬ ((40960 + a : Nat) : Int) < 40960 := by omega
  have e2 : ¬ (49152 : Int) ≤ ((40960 + a : Nat) : Int) := by omega
  have e3 : ¬ (n : Int) = 0 := by omega
  have HE : Hid (∀ (X : Int), X = (((q * 8192 + a) % n : Nat) : Int) → Ending.returned (.tuple #[.int .i64 X, .bool s]) = .returned (.tuple #[.int .i64 (((q * 8192 + a) % n : Nat) : Int), .bool s])) := fun X h => by rw [h]
  have HK : Hid (∀ w, Up W w → w.cell? ⟨cb, 7, none⟩ = some (.slice (some ⟨rb, 0, none⟩) n rc)) := fun w u => cell_up u k7
  generalize hA : 40960 + a = A at *
  have HA : Hid (40960 + a = A) := hA
  have hA1 : 40960 ≤ A := by omega
  have hA2 : A < 49152 := by omega
  clear hA
  go_enter Tryd.func41, Tryd.ntmps41
  go_wp2_with fail
  refine (HL.out _ (by first | exact Up.refl _ | exact Up.drewN _ _ | exact (Up.refl _).drew)).mono ?_
  rintro e w5 ⟨rfl, u5⟩
  have HU5 : Hid (Up W w5) := by first | exact u5 | exact (Up.drewN _ _).trans u5 | exact ((Up.refl _).drew).trans u5
  have k7' := HK.out w5 HU5.out
  clear u5 k7 k8
  go_wp2_with fail
  first | go_ret | go_ret2
  refine ⟨HE.out _ ?_, HU5.out⟩
  have hA := HA.out
  have e5 : (q : Int) * 8192 + (A : Int) - 40960 = ((q * 8192 + a : Nat) : Int) := by omega
  rw [e5]
  exact (Int.natCast_emod _ _).symm
set_option maxRecDepth 100000 in
set_option maxHeartbeats 1000000 in
theorem ramPlace_5 {cb rb rc n a q : Nat} {s : Bool} (k7 : W.cell? ⟨cb, 7, none⟩ = some (.slice (some ⟨rb, 0, none⟩) n rc)) (k8 : W.cell? ⟨cb, 8, none⟩ = some (.iface 117 (.pointer (some ⟨b, 0, none⟩)))) (n1 : 1 ≤ n) (n2 : n ≤ 131072) (hq : q ≤ 15) (ha : a < 8192)
    (HL : Hid (∀ w, Up W w → Calls Tryd.prog 110 #[.pointer (some ⟨b, 0, none⟩)] w fun e w' => e = .returned (.tuple #[.int .i64 (q : Int), .bool s]) ∧ Up w w')) : Calls Tryd.prog 41 #[.pointer (some ⟨cb, 0, none⟩), .int .i64 ((40960 + a : Nat) : Int)] W fun e w' => e = .returned (.tuple #[.int .i64 (((q * 8192 + a) % n : Nat) : Int), .bool s]) ∧ Up W w' := by
  have e1 : ¬ ((40960 + a : Nat) : Int) < 40960 := by omega
  have e2 : ¬ (49152 : Int) ≤ ((40960 + a : Nat) : Int) := by omega
  have e3 : ¬ (n : Int) = 0 := by omega
  have HE : Hid (∀ (X : Int), X = (((q * 8192 + a) % n : Nat) : Int) → Ending.returned (.tuple #[.int .i64 X, .bool s]) = .returned (.tuple #[.int .i64 (((q * 8192 + a) % n : Nat) : Int), .bool s])) := fun X h => by rw [h]
  have HK : Hid (∀ w, Up W w → w.cell? ⟨cb, 7, none⟩ = some (.slice (some ⟨rb, 0, none⟩) n rc)) := fun w u => cell_up u k7
  generalize hA : 40960 + a = A at *
  have HA : Hid (40960 + a = A) := hA
  have hA1 : 40960 ≤ A := by omega
  have hA2 : A < 49152 := by omega
  clear hA
  go_enter Tryd.func41, Tryd.ntmps41
  go_wp2_with fail
  refine (HL.out _ (by first | exact Up.refl _ | exact Up.drewN _ _ | exact (Up.refl _).drew)).mono ?_
  rintro e w5 ⟨rfl, u5⟩
  have HU5 : Hid (Up W w5) := by first | exact u5 | exact (Up.drewN _ _).trans u5 | exact ((Up.refl _).drew).trans u5
  have k7' := HK.out w5 HU5.out
  clear u5 k7 k8
  go_wp2_with fail
  first | go_ret | go_ret2
  refine ⟨HE.out _ ?_, HU5.out⟩
  have hA := HA.out
  have e5 : (q : Int) * 8192 + (A : Int) - 40960 = ((q * 8192 + a : Nat) : Int) := by omega
  rw [e5]
  exact (Int.natCast_emod _ _).symm
end Go.Proofs.YtojlappgmckokaaDoor
