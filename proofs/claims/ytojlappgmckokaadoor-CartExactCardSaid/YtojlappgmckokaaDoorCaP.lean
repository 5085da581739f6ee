/- Cart: a cartridge: its ROM read, its registers written. -/
import Derived.Test.YtojlappgmckokaaDoorCaO
namespace Go.Proofs.YtojlappgmckokaaDoor
open Go.Shelf Go.RowKit
set_option linter.unusedVariables false
set_option linter.unusedSimpArgs false
variable {w w' W : World} {b : Nat}
theorem Mp.set_in {m : Mp} (h : m.In) {a x : Nat} (hx : x ≤ 255) : (m.set a x).In := by
  obtain ⟨h0, h1, h2, h3, h4, h5⟩ := h
  have o1 : onF x ≤ 1 := by unfold onF; split <;> omega
  unfold Mp.set
  repeat' split
  all_goals first
    | exact ⟨h0, h1, h2, h3, h4, h5⟩
    | exact ⟨h0, o1, h2, h3, h4, h5⟩
    | exact ⟨h0, h1, by show max _ 1 ≤ 255; omega, h3, h4, h5⟩
    | exact ⟨h0, h1, hx, h3, h4, h5⟩
    | exact ⟨h0, h1, h2, by show x % 2 ≤ 1; omega, h4, h5⟩
    | exact ⟨h0, h1, h2, h3, by show x % 4 ≤ 15; omega, h5⟩
    | exact ⟨h0, h1, h2, h3, by show x % 16 ≤ 15; omega, h5⟩
    | exact ⟨h0, h1, h2, h3, h4, by show x % 2 ≤ 1; omega⟩
    | exact ⟨h0, by show (if x = 10 then 1 else 0) ≤ 1; split <;> omega, h2, h3, h4, h5⟩
    | exact ⟨h0, by show 1 ≤ 1; omega, h2, h3, h4, h5⟩
    | exact ⟨h0, by show 0 ≤ 1; omega, h2, h3, h4, h5⟩
theorem Mp.set_kd (m : Mp) (a x : Nat) : (m.set a x).kd = m.kd := by
  unfold Mp.set
  repeat' split
  all_goals rfl
set_option maxRecDepth 100000 in
theorem set_0 {a x : Nat} : Calls Tryd.prog 116 #[.agg #[], .int .i64 (a : Int), .int .u8 (x : Int)] W fun e w' => e = .returned (.tuple #[]) ∧ Up W w' := by
  go_enter Tryd.func116, Tryd.ntmps116
  go_wp2_with fail
  go_end0
  exact ⟨rfl, (Up.refl W).alloc _⟩
set_option maxRecDepth 100000 in
set_option maxHeartbeats 1000000 in
theorem writeRom_0 {cb a x : Nat} {P : Ending → World → Prop} (k8 : W.cell? ⟨cb, 8, none⟩ = some (.iface 121 (.agg #[]))) (ha : a < 32768) (hP : ∀ w', P (.returned (.tuple #[])) w' → P (.returned (.tuple #[])) w')
    (HL : Hid (Calls Tryd.prog 116 #[.agg #[], .int .i64 (a : Int), .int .u8 (x : Int)] W fun e w' => e = .returned (.tuple #[]) ∧ P e w')) : Calls Tryd.prog 18 #[.pointer (some ⟨cb, 0, none⟩), .int .i64 (a : Int), .int .u8 (x : Int)] W P := by
  have e1 : (0 : Int) ≤ (a : Int) := by omega
  have e2 : (a : Int) < 32768 := by omega
  go_enter Tryd.func18, Tryd.ntmps18
  go_wp2_with fail
  refine Calls.mono HL.out ?_
  rintro e w' ⟨rfl, hp⟩
  have HPp : Hid _ := hp
  clear hp
  go_wp2_with fail
  go_end0
  exact HPp.out
set_option maxRecDepth 100000 in
set_option maxHeartbeats 1000000 in
theorem writeRom_1 {cb a x : Nat} {P : Ending → World → Prop} (k8 : W.cell? ⟨cb, 8, none⟩ = some (.iface 108 (.pointer (some ⟨b, 0, none⟩)))) (ha : a < 32768) (hP : ∀ w', P (.returned (.tuple #[])) w' → P (.returned (.tuple #[])) w')
    (HL : Hid (Calls Tryd.prog 95 #[.pointer (some ⟨b, 0, none⟩), .int .i64 (a : Int), .int .u8 (x : Int)] W fun e w' => e = .returned (.tuple #[]) ∧ P e w')) : Calls Tryd.prog 18 #[.pointer (some ⟨cb, 0, none⟩), .int .i64 (a : Int), .int .u8 (x : Int)] W P := by
  have e1 : (0 : Int) ≤ (a : Int) := by omega
  have e2 : (a : Int) < 32768 := by omega
  go_enter Tryd.func18, Tryd.ntmps18
  go_wp2_with fail
  refine Calls.mono HL.out ?_
  rintro e w' ⟨rfl, hp⟩
  have HPp : Hid _ := hp
  clear hp
  go_wp2_with fail
  go_end0
  exact HPp.out
set_option maxRecDepth 100000 in
set_option maxHeartbeats 1000000 in
theorem writeRom_2 {cb a x : Nat} {P : Ending → World → Prop} (k8 : W.cell? ⟨cb, 8, none⟩ = some (.iface 111 (.pointer (some ⟨b, 0, none⟩)))) (ha : a < 32768) (hP : ∀ w', P (.returned (.tuple #[])) w' → P (.returned (.tuple #[])) w')
    (HL : Hid (Calls Tryd.prog 101 #[.pointer (some ⟨b, 0, none⟩), .int .i64 (a : Int), .int .u8 (x : Int)] W fun e w' => e = .returned (.tuple #[]) ∧ P e w')) : Calls Tryd.prog 18 #[.pointer (some ⟨cb, 0, none⟩), .int .i64 (a : Int), .int .u8 (x : Int)] W P := by
  have e1 : (0 : Int) ≤ (a : Int) := by omega
  have e2 : (a : Int) < 32768 := by omega
  go_enter Tryd.func18, Tryd.ntmps18
  go_wp2_with fail
  refine Calls.mono HL.out ?_
  rintro e w' ⟨rfl, hp⟩
  have HPp : Hid _ := hp
  clear hp
  go_wp2_with fail
  go_end0
  exact HPp.out
set_option maxRecDepth 100000 in
set_option maxHeartbeats 1000000 in
theorem writeRom_3 {cb a x : Nat} {P : Ending → World → Prop} (k8 : W.cell? ⟨cb, 8, none⟩ = some (.iface 114 (.pointer (some ⟨b, 0, none⟩)))) (ha : a < 32768) (hP : ∀ w', P (.returned (.tuple #[])) w' → P (.returned (.tuple #[])) w')
    (HL : Hid (Calls Tryd.prog 106 #[.pointer (some ⟨b, 0, none⟩), .int .i64 (a : Int), .int .u8 (x : Int)] W fun e w' => e = .returned (.tuple #[]) ∧ P e w')) : Calls Tryd.prog 18 #[.pointer (some ⟨cb, 0, none⟩), .int .i64 (a : Int), .int .u8 (x : Int)] W P := by
  have e1 : (0 : Int) ≤ (a : Int) := by omega
  have e2 : (a : Int) < 32768 := by omega
  go_enter Tryd.func18, Tryd.ntmps18
  go_wp2_with fail
  refine Calls.mono HL.out ?_
  rintro e w' ⟨rfl, hp⟩
  have HPp : Hid _ := hp
  clear hp
  go_wp2_with fail
  go_end0
  exact HPp.out
set_option maxRecDepth 100000 in
set_option maxHeartbeats 1000000 in
theorem writeRom_5 {cb a x : Nat} {P : Ending → World → Prop} (k8 : W.cell? ⟨cb, 8, none⟩ = some (.iface 117 (.pointer (some ⟨b, 0, none⟩)))) (ha : a < 32768) (hP : ∀ w', P (.returned (.tuple #[])) w' → P (.returned (.tuple #[])) w')
    (HL : Hid (Calls Tryd.prog 111 #[.pointer (some ⟨b, 0, none⟩), .int .i64 (a : Int), .int .u8 (x : Int)] W fun e w' => e = .returned (.tuple #[]) ∧ P e w')) : Calls Tryd.prog 18 #[.pointer (some ⟨cb, 0, none⟩), .int .i64 (a : Int), .int .u8 (x : Int)] W P := by
  have e1 : (0 : Int) ≤ (a : Int) := by omega
  have e2 : (a : Int) < 32768 := by omega
  go_enter Tryd.func18, Tryd.ntmps18
  go_wp2_with fail
  refine Calls.mono HL.out ?_
  rintro e w' ⟨rfl, hp⟩
  have HPp : Hid _ := hp
  clear hp
  go_wp2_with fail
  go_end0
  exact HPp.out
end Go.Proofs.YtojlappgmckokaaDoor
