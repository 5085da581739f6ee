/- The picture's memory, told. -/
import Derived.Test.YtmjfccdhjhkocaaPxC
namespace Go.Proofs.Ytmjfccdhjhkocaa
open Go.RowKit
set_option linter.unusedVariables false
variable {b : Nat} {p : Pic}
structure Pic.In (p : Pic) : Prop where
  vr : ∀ k, 0 ≤ p.vr k ∧ p.vr k ≤ 255
  oa : ∀ k, 0 ≤ p.oa k ∧ p.oa k ≤ 255
  rg : ∀ k, 0 ≤ p.rg k ∧ p.rg k ≤ 255
theorem isV_yes {a : Int} (h0 : 32768 ≤ a) (h1 : a < 40960) : isV a = true := by unfold isV; rw [decide_eq_true h0, decide_eq_true h1]; rfl
theorem isO_yes {a : Int} (h0 : 65024 ≤ a) (h1 : a < 65184) : isO a = true := by unfold isO; rw [decide_eq_true h0, decide_eq_true h1]; rfl
theorem isR_yes {a : Int} (h0 : 65344 ≤ a) (h1 : a < 65356) : isR a = true := by unfold isR; rw [decide_eq_true h0, decide_eq_true h1]; rfl
theorem isV_no {a : Int} (h : a < 32768 ∨ 40960 ≤ a) : isV a = false := by
  unfold isV
  rcases h with h | h
  · rw [decide_eq_false (by omega)]; rfl
  · rw [decide_eq_false (show ¬ a < 40960 by omega), Bool.and_false]
theorem isO_no {a : Int} (h : a < 65024 ∨ 65184 ≤ a) : isO a = false := by
  unfold isO
  rcases h with h | h
  · rw [decide_eq_false (by omega)]; rfl
  · rw [decide_eq_false (show ¬ a < 65184 by omega), Bool.and_false]
theorem isR_no {a : Int} (h : a < 65344 ∨ 65356 ≤ a) : isR a = false := by
  unfold isR
  rcases h with h | h
  · rw [decide_eq_false (by omega)]; rfl
  · rw [decide_eq_false (show ¬ a < 65356 by omega), Bool.and_false]
set_option maxRecDepth 100000 in
theorem memV_any (i : p.In) (n : Nat) (hn : n < 8192) (a : Int) (ha : a = 32768 + (n : Int)) (W : World) (h : PxAt W b p) :
    Calls Try.prog 21 #[.pointer (some ⟨b, 0, none⟩), .int .i64 a] W fun e w' => e = .returned (.int .i64 (p.vr n)) ∧ w' = W := by
  have HV : Hid (∀ W, Calls Try.prog 43 #[.int .i64 a] W fun e w' => e = .returned (.bool true) ∧ w' = W) := fun W => by have := isVram_any a W; rw [isV_yes (by omega) (by omega)] at this; exact this
  have k := h.vram n hn
  have v0 := (i.vr n).1
  have v1 := (i.vr n).2
  have hi : IntKind.i64.wrap (a - 32768) = (n : Int) := by rw [ha]; simp [IntKind.wrap, IntKind.bits, IntKind.signed]; omega
  have hi' : wrap64 (a - 32768) = (n : Int) := by rw [ha]; unfold wrap64; omega
  have hs : a - 32768 = (n : Int) := by omega
  have hn' : (n : Int) < 8192 := by omega
  clear h ha i
  go_enter Try.func21, Try.ntmps21
  go_wp2_with fail
  refine (HV.out _).mono ?_
  rintro e w' ⟨rfl, hw'⟩
  obtain rfl := hw'.symm
  go_wp2_with fail
  go_ret
  exact ⟨rfl, rfl⟩
set_option maxRecDepth 100000 in
theorem memO_any (i : p.In) (n : Nat) (hn : n < 160) (a : Int) (ha : a = 65024 + (n : Int)) (W : World) (h : PxAt W b p) :
    Calls Try.prog 21 #[.pointer (some ⟨b, 0, none⟩), .int .i64 a] W fun e w' => e = .returned (.int .i64 (p.oa n)) ∧ w' = W := by
  have HV : Hid (∀ W, Calls Try.prog 43 #[.int .i64 a] W fun e w' => e = .returned (.bool false) ∧ w' = W) := fun W => by have := isVram_any a W; rw [isV_no (by omega)] at this; exact this
  have HO : Hid (∀ W, Calls Try.prog 44 #[.int .i64 a] W fun e w' => e = .returned (.bool true) ∧ w' = W) := fun W => by have := isOam_any a W; rw [isO_yes (by omega) (by omega)] at this; exact this
  have k := h.oam n hn
  have v0 := (i.oa n).1
  have v1 := (i.oa n).2
  have hi : IntKind.i64.wrap (a - 65024) = (n : Int) := by rw [ha]; simp [IntKind.wrap, IntKind.bits, IntKind.signed]; omega
  have hi' : wrap64 (a - 65024) = (n : Int) := by rw [ha]; unfold wrap64; omega
  have hs : a - 65024 = (n : Int) := by omega
  have hn' : (n : Int) < 160 := by omega
  clear h ha i
  go_enter Try.func21, Try.ntmps21
  go_wp2_with fail
  refine (HV.out _).mono ?_
  rintro e w' ⟨rfl, hw'⟩
  obtain rfl := hw'.symm
  go_wp2_with fail
  refine (HO.out _).mono ?_
  rintro e w' ⟨rfl, hw'⟩
  obtain rfl := hw'.symm
  go_wp2_with fail
  go_ret
  exact ⟨rfl, rfl⟩
set_option maxRecDepth 100000 in
theorem memN_any (a : Int) (h1 : a < 32768 ∨ 40960 ≤ a) (h2 : a < 65024 ∨ 65184 ≤ a) (W : World) :
    Calls Try.prog 21 #[.pointer (some ⟨b, 0, none⟩), .int .i64 a] W fun e w' => e = .returned (.int .i64 255) ∧ w' = W := by
  have HV : Hid (∀ W, Calls Try.prog 43 #[.int .i64 a] W fun e w' => e = .returned (.bool false) ∧ w' = W) := fun W => by have := isVram_any a W; rw [isV_no h1] at this; exact this
  have HO : Hid (∀ W, Calls Try.prog 44 #[.int .i64 a] W fun e w' => e = .returned (.bool false) ∧ w' = W) := fun W => by have := isOam_any a W; rw [isO_no h2] at this; exact this
  go_enter Try.func21, Try.ntmps21
  go_wp2_with fail
  refine (HV.out _).mono ?_
  rintro e w' ⟨rfl, hw'⟩
  obtain rfl := hw'.symm
  go_wp2_with fail
  refine (HO.out _).mono ?_
  rintro e w' ⟨rfl, hw'⟩
  obtain rfl := hw'.symm
  go_wp2_with fail
  go_ret
  exact ⟨rfl, rfl⟩
set_option maxRecDepth 100000 in
/-- what a call of Memory gives is what Read gives, where nothing is locked and no register is -/
theorem readM_any (a x : Int) (hl : p.locked a = false) (hr : isR a = false) (W : World) (h : PxAt W b p)
    (M : ∀ W, PxAt W b p → Calls Try.prog 21 #[.pointer (some ⟨b, 0, none⟩), .int .i64 a] W fun e w' => e = .returned (.int .i64 x) ∧ w' = W) :
    Calls Try.prog 20 #[.pointer (some ⟨b, 0, none⟩), .int .i64 a] W fun e w' => e = .returned (.int .i64 x) ∧ w' = W := by
  have HL : Hid (∀ W, PxAt W b p → Calls Try.prog 42 #[.pointer (some ⟨b, 0, none⟩), .int .i64 a] W fun e w' => e = .returned (.bool false) ∧ w' = W) := fun W h => by have := isLocked_any a W h; rw [hl] at this; exact this
  have HR : Hid (∀ W, Calls Try.prog 45 #[.int .i64 a] W fun e w' => e = .returned (.bool false) ∧ w' = W) := fun W => by have := isRegister_any a W; rw [hr] at this; exact this
  have HM : Hid _ := M
  have HP : Hid (PxAt W b p) := h
  clear h M hl hr
  go_enter Try.func20, Try.ntmps20
  go_wp2_with fail
  refine (HL.out _ HP.out).mono ?_
  rintro e w' ⟨rfl, hw'⟩
  obtain rfl := hw'.symm
  go_wp2_with fail
  refine (HR.out _).mono ?_
  rintro e w' ⟨rfl, hw'⟩
  obtain rfl := hw'.symm
  go_wp2_with fail
  refine (HM.out _ HP.out).mono ?_
  rintro e w' ⟨rfl, hw'⟩
  obtain rfl := hw'.symm
  go_wp2_with fail
  go_ret
  exact ⟨rfl, rfl⟩
set_option maxRecDepth 100000 in
theorem rreg0_any (W : World) (h : PxAt W b p) :
    Calls Try.prog 47 #[.pointer (some ⟨b, 0, none⟩), .int .i64 0] W fun e w' => e = .returned (.int .u8 (p.rg 0)) ∧ w' = W := by
  have k : W.cell? ⟨b, 8352, none⟩ = some (.int .u8 (p.rg 0)) := h.reg 0 (by decide)
  clear h
  go_enter Try.func47, Try.ntmps47
  go_wp2
  go_ret
  exact ⟨rfl, rfl⟩
set_option maxRecDepth 100000 in
theorem rreg2_any (W : World) (h : PxAt W b p) :
    Calls Try.prog 47 #[.pointer (some ⟨b, 0, none⟩), .int .i64 2] W fun e w' => e = .returned (.int .u8 (p.rg 2)) ∧ w' = W := by
  have k : W.cell? ⟨b, 8354, none⟩ = some (.int .u8 (p.rg 2)) := h.reg 2 (by decide)
  clear h
  go_enter Try.func47, Try.ntmps47
  go_wp2
  go_ret
  exact ⟨rfl, rfl⟩
set_option maxRecDepth 100000 in
theorem rreg3_any (W : World) (h : PxAt W b p) :
    Calls Try.prog 47 #[.pointer (some ⟨b, 0, none⟩), .int .i64 3] W fun e w' => e = .returned (.int .u8 (p.rg 3)) ∧ w' = W := by
  have k : W.cell? ⟨b, 8355, none⟩ = some (.int .u8 (p.rg 3)) := h.reg 3 (by decide)
  clear h
  go_enter Try.func47, Try.ntmps47
  go_wp2
  go_ret
  exact ⟨rfl, rfl⟩
set_option maxRecDepth 100000 in
theorem rreg4_any (W : World) (h : PxAt W b p) :
    Calls Try.prog 47 #[.pointer (some ⟨b, 0, none⟩), .int .i64 4] W fun e w' => e = .returned (.int .u8 (p.rg 4)) ∧ w' = W := by
  have k : W.cell? ⟨b, 8356, none⟩ = some (.int .u8 (p.rg 4)) := h.reg 4 (by decide)
  clear h
  go_enter Try.func47, Try.ntmps47
  go_wp2
  go_ret
  exact ⟨rfl, rfl⟩
set_option maxRecDepth 100000 in
theorem rreg5_any (W : World) (h : PxAt W b p) :
    Calls Try.prog 47 #[.pointer (some ⟨b, 0, none⟩), .int .i64 5] W fun e w' => e = .returned (.int .u8 (p.rg 5)) ∧ w' = W := by
  have k : W.cell? ⟨b, 8357, none⟩ = some (.int .u8 (p.rg 5)) := h.reg 5 (by decide)
  clear h
  go_enter Try.func47, Try.ntmps47
  go_wp2
  go_ret
  exact ⟨rfl, rfl⟩
set_option maxRecDepth 100000 in
theorem rreg7_any (W : World) (h : PxAt W b p) :
    Calls Try.prog 47 #[.pointer (some ⟨b, 0, none⟩), .int .i64 7] W fun e w' => e = .returned (.int .u8 (p.rg 7)) ∧ w' = W := by
  have k : W.cell? ⟨b, 8359, none⟩ = some (.int .u8 (p.rg 7)) := h.reg 7 (by decide)
  clear h
  go_enter Try.func47, Try.ntmps47
  go_wp2
  go_ret
  exact ⟨rfl, rfl⟩
set_option maxRecDepth 100000 in
theorem rreg8_any (W : World) (h : PxAt W b p) :
    Calls Try.prog 47 #[.pointer (some ⟨b, 0, none⟩), .int .i64 8] W fun e w' => e = .returned (.int .u8 (p.rg 8)) ∧ w' = W := by
  have k : W.cell? ⟨b, 8360, none⟩ = some (.int .u8 (p.rg 8)) := h.reg 8 (by decide)
  clear h
  go_enter Try.func47, Try.ntmps47
  go_wp2
  go_ret
  exact ⟨rfl, rfl⟩
set_option maxRecDepth 100000 in
theorem rreg9_any (W : World) (h : PxAt W b p) :
    Calls Try.prog 47 #[.pointer (some ⟨b, 0, none⟩), .int .i64 9] W fun e w' => e = .returned (.int .u8 (p.rg 9)) ∧ w' = W := by
  have k : W.cell? ⟨b, 8361, none⟩ = some (.int .u8 (p.rg 9)) := h.reg 9 (by decide)
  clear h
  go_enter Try.func47, Try.ntmps47
  go_wp2
  go_ret
  exact ⟨rfl, rfl⟩
set_option maxRecDepth 100000 in
theorem rreg10_any (W : World) (h : PxAt W b p) :
    Calls Try.prog 47 #[.pointer (some ⟨b, 0, none⟩), .int .i64 10] W fun e w' => e = .returned (.int .u8 (p.rg 10)) ∧ w' = W := by
  have k : W.cell? ⟨b, 8362, none⟩ = some (.int .u8 (p.rg 10)) := h.reg 10 (by decide)
  clear h
  go_enter Try.func47, Try.ntmps47
  go_wp2
  go_ret
  exact ⟨rfl, rfl⟩
set_option maxRecDepth 100000 in
theorem rreg11_any (W : World) (h : PxAt W b p) :
    Calls Try.prog 47 #[.pointer (some ⟨b, 0, none⟩), .int .i64 11] W fun e w' => e = .returned (.int .u8 (p.rg 11)) ∧ w' = W := by
  have k : W.cell? ⟨b, 8363, none⟩ = some (.int .u8 (p.rg 11)) := h.reg 11 (by decide)
  clear h
  go_enter Try.func47, Try.ntmps47
  go_wp2
  go_ret
  exact ⟨rfl, rfl⟩
set_option maxRecDepth 100000 in
theorem rreg6_any (W : World) :
    Calls Try.prog 47 #[.pointer (some ⟨b, 0, none⟩), .int .i64 6] W fun e w' => e = .returned (.int .u8 255) ∧ w' = W := by
  go_enter Try.func47, Try.ntmps47
  go_wp2
  go_ret
  exact ⟨rfl, rfl⟩
set_option maxRecDepth 100000 in
theorem readR_any (n : Nat) (hn : n < 12) (a x : Int) (ha : a = 65344 + (n : Int)) (x0 : 0 ≤ x) (x1 : x ≤ 255) (W : World) (h : PxAt W b p)
    (M : ∀ W, PxAt W b p → Calls Try.prog 47 #[.pointer (some ⟨b, 0, none⟩), .int .i64 (n : Int)] W fun e w' => e = .returned (.int .u8 x) ∧ w' = W) :
    Calls Try.prog 20 #[.pointer (some ⟨b, 0, none⟩), .int .i64 a] W fun e w' => e = .returned (.int .i64 x) ∧ w' = W := by
  have HL : Hid (∀ W, PxAt W b p → Calls Try.prog 42 #[.pointer (some ⟨b, 0, none⟩), .int .i64 a] W fun e w' => e = .returned (.bool false) ∧ w' = W) := fun W h => by
    have := isLocked_any a W h
    rw [show p.locked a = false by unfold Pic.locked; rw [isO_no (by omega), isV_no (by omega)]; split; rfl; split <;> rfl] at this
    exact this
  have HR : Hid (∀ W, Calls Try.prog 45 #[.int .i64 a] W fun e w' => e = .returned (.bool true) ∧ w' = W) := fun W => by have := isRegister_any a W; rw [isR_yes (by omega) (by omega)] at this; exact this
  have hi : IntKind.i64.wrap (a - 65344) = (n : Int) := by rw [ha]; simp [IntKind.wrap, IntKind.bits, IntKind.signed]; omega
  have hi' : wrap64 (a - 65344) = (n : Int) := by rw [ha]; unfold wrap64; omega
  have hs : a - 65344 = (n : Int) := by omega
  have HM : Hid _ := M
  have HP : Hid (PxAt W b p) := h
  clear h M ha
  go_enter Try.func20, Try.ntmps20
  go_wp2_with fail
  refine (HL.out _ HP.out).mono ?_
  rintro e w' ⟨rfl, hw'⟩
  obtain rfl := hw'.symm
  go_wp2_with fail
  refine (HR.out _).mono ?_
  rintro e w' ⟨rfl, hw'⟩
  obtain rfl := hw'.symm
  go_wp2_with fail
  refine (HM.out _ HP.out).mono ?_
  rintro e w' ⟨rfl, hw'⟩
  obtain rfl := hw'.symm
  go_wp2_with fail
  go_ret
  exact ⟨rfl, rfl⟩
end Go.Proofs.Ytmjfccdhjhkocaa
