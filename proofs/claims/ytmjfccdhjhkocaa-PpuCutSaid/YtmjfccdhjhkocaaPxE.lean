/- The picture's memory, written. -/
import Derived.Test.YtmjfccdhjhkocaaPxD
import Derived.Lib.SliceRun
namespace Go.Proofs.Ytmjfccdhjhkocaa
open Go.RowKit
set_option linter.unusedVariables false
variable {b : Nat} {p : Pic}
/-- what a byte keeps of a number -/
def cutB (x : Int) : Int := IntKind.u8.wrap x
theorem cutB_b (x : Int) : 0 ≤ cutB x ∧ cutB x ≤ 255 := by unfold cutB; simp [IntKind.wrap, IntKind.bits, IntKind.signed]; omega
theorem wrapB (x : Int) : IntKind.u8.wrap x = cutB x := rfl
set_option maxRecDepth 100000 in
theorem writeV_any (n : Nat) (hn : n < 8192) (a x : Int) (ha : a = 32768 + (n : Int)) (hl : p.locked a = false) (W : World) (h : PxAt W b p) :
    Calls Try.prog 18 #[.pointer (some ⟨b, 0, none⟩), .int .i64 a, .int .i64 x] W fun e w' => e = .returned (.tuple #[]) ∧ PxAt w' b (p.setV n (cutB x)) ∧ Fr b W w' := by
  have HL : Hid (∀ W, PxAt W b p → Calls Try.prog 42 #[.pointer (some ⟨b, 0, none⟩), .int .i64 a] W fun e w' => e = .returned (.bool false) ∧ w' = W) := fun W h => by have := isLocked_any a W h; rw [hl] at this; exact this
  have HV : Hid (∀ W, Calls Try.prog 43 #[.int .i64 a] W fun e w' => e = .returned (.bool true) ∧ w' = W) := fun W => by have := isVram_any a W; rw [isV_yes (by omega) (by omega)] at this; exact this
  have k := h.vram n hn
  have fz := h.fz n
  have hi : IntKind.i64.wrap (a - 32768) = (n : Int) := by rw [ha]; simp [IntKind.wrap, IntKind.bits, IntKind.signed]; omega
  have hi' : wrap64 (a - 32768) = (n : Int) := by rw [ha]; unfold wrap64; omega
  have hs : a - 32768 = (n : Int) := by omega
  have hn' : (n : Int) < 8192 := by omega
  have HP : Hid (PxAt W b p) := h
  have hw := wrapB x
  clear h ha hl
  go_enter Try.func18, Try.ntmps18
  go_wp2_with fail
  refine (HL.out _ HP.out).mono ?_
  rintro e w' ⟨rfl, hw'⟩
  obtain rfl := hw'.symm
  go_wp2_with fail
  refine (HV.out _).mono ?_
  rintro e w' ⟨rfl, hw'⟩
  obtain rfl := hw'.symm
  go_wp2_with fail
  go_end0
  exact ⟨rfl, HP.out.set n _ (fun j _ => Pic.cellV p n hn _ j), (Fr.refl b W).setCell⟩
set_option maxRecDepth 100000 in
theorem writeO_any (n : Nat) (hn : n < 160) (a x : Int) (ha : a = 65024 + (n : Int)) (hl : p.locked a = false) (W : World) (h : PxAt W b p) :
    Calls Try.prog 18 #[.pointer (some ⟨b, 0, none⟩), .int .i64 a, .int .i64 x] W fun e w' => e = .returned (.tuple #[]) ∧ PxAt w' b (p.setO n (cutB x)) ∧ Fr b W w' := by
  have HL : Hid (∀ W, PxAt W b p → Calls Try.prog 42 #[.pointer (some ⟨b, 0, none⟩), .int .i64 a] W fun e w' => e = .returned (.bool false) ∧ w' = W) := fun W h => by have := isLocked_any a W h; rw [hl] at this; exact this
  have HV : Hid (∀ W, Calls Try.prog 43 #[.int .i64 a] W fun e w' => e = .returned (.bool false) ∧ w' = W) := fun W => by have := isVram_any a W; rw [isV_no (by omega)] at this; exact this
  have HO : Hid (∀ W, Calls Try.prog 44 #[.int .i64 a] W fun e w' => e = .returned (.bool true) ∧ w' = W) := fun W => by have := isOam_any a W; rw [isO_yes (by omega) (by omega)] at this; exact this
  have k := h.oam n hn
  have fz := h.fz (8192 + n)
  have hi : IntKind.i64.wrap (a - 65024) = (n : Int) := by rw [ha]; simp [IntKind.wrap, IntKind.bits, IntKind.signed]; omega
  have hi' : wrap64 (a - 65024) = (n : Int) := by rw [ha]; unfold wrap64; omega
  have hs : a - 65024 = (n : Int) := by omega
  have hn' : (n : Int) < 160 := by omega
  have HP : Hid (PxAt W b p) := h
  have hw := wrapB x
  clear h ha hl
  go_enter Try.func18, Try.ntmps18
  go_wp2_with fail
  refine (HL.out _ HP.out).mono ?_
  rintro e w' ⟨rfl, hw'⟩
  obtain rfl := hw'.symm
  go_wp2_with fail
  refine (HV.out _).mono ?_
  rintro e w' ⟨rfl, hw'⟩
  obtain rfl := hw'.symm
  go_wp2_with fail
  refine (HO.out _).mono ?_
  rintro e w' ⟨rfl, hw'⟩
  obtain rfl := hw'.symm
  go_wp2_with fail
  go_end0
  exact ⟨rfl, HP.out.set (8192 + n) _ (fun j _ => Pic.cellO p n hn _ j), (Fr.refl b W).setCell⟩
set_option maxRecDepth 100000 in
theorem wreg2_any (x : Int) (W : World) (h : PxAt W b p) :
    Calls Try.prog 46 #[.pointer (some ⟨b, 0, none⟩), .int .i64 2, .int .u8 x] W fun e w' => e = .returned (.tuple #[]) ∧ PxAt w' b (p.setR 2 x) ∧ Fr b W w' := by
  have k : W.cell? ⟨b, 8354, none⟩ = some (.int .u8 (p.rg 2)) := h.reg 2 (by decide)
  have fz := h.fz 8354
  have HP : Hid (PxAt W b p) := h
  clear h
  go_enter Try.func46, Try.ntmps46
  go_wp2
  go_end0
  exact ⟨rfl, HP.out.set 8354 _ (fun j _ => Pic.cellR p 2 (by decide) _ j), (Fr.refl b W).setCell⟩
set_option maxRecDepth 100000 in
theorem wreg3_any (x : Int) (W : World) (h : PxAt W b p) :
    Calls Try.prog 46 #[.pointer (some ⟨b, 0, none⟩), .int .i64 3, .int .u8 x] W fun e w' => e = .returned (.tuple #[]) ∧ PxAt w' b (p.setR 3 x) ∧ Fr b W w' := by
  have k : W.cell? ⟨b, 8355, none⟩ = some (.int .u8 (p.rg 3)) := h.reg 3 (by decide)
  have fz := h.fz 8355
  have HP : Hid (PxAt W b p) := h
  clear h
  go_enter Try.func46, Try.ntmps46
  go_wp2
  go_end0
  exact ⟨rfl, HP.out.set 8355 _ (fun j _ => Pic.cellR p 3 (by decide) _ j), (Fr.refl b W).setCell⟩
set_option maxRecDepth 100000 in
theorem wreg5_any (x : Int) (W : World) (h : PxAt W b p) :
    Calls Try.prog 46 #[.pointer (some ⟨b, 0, none⟩), .int .i64 5, .int .u8 x] W fun e w' => e = .returned (.tuple #[]) ∧ PxAt w' b (p.setR 5 x) ∧ Fr b W w' := by
  have k : W.cell? ⟨b, 8357, none⟩ = some (.int .u8 (p.rg 5)) := h.reg 5 (by decide)
  have fz := h.fz 8357
  have HP : Hid (PxAt W b p) := h
  clear h
  go_enter Try.func46, Try.ntmps46
  go_wp2
  go_end0
  exact ⟨rfl, HP.out.set 8357 _ (fun j _ => Pic.cellR p 5 (by decide) _ j), (Fr.refl b W).setCell⟩
set_option maxRecDepth 100000 in
theorem wreg7_any (x : Int) (W : World) (h : PxAt W b p) :
    Calls Try.prog 46 #[.pointer (some ⟨b, 0, none⟩), .int .i64 7, .int .u8 x] W fun e w' => e = .returned (.tuple #[]) ∧ PxAt w' b (p.setR 7 x) ∧ Fr b W w' := by
  have k : W.cell? ⟨b, 8359, none⟩ = some (.int .u8 (p.rg 7)) := h.reg 7 (by decide)
  have fz := h.fz 8359
  have HP : Hid (PxAt W b p) := h
  clear h
  go_enter Try.func46, Try.ntmps46
  go_wp2
  go_end0
  exact ⟨rfl, HP.out.set 8359 _ (fun j _ => Pic.cellR p 7 (by decide) _ j), (Fr.refl b W).setCell⟩
set_option maxRecDepth 100000 in
theorem wreg8_any (x : Int) (W : World) (h : PxAt W b p) :
    Calls Try.prog 46 #[.pointer (some ⟨b, 0, none⟩), .int .i64 8, .int .u8 x] W fun e w' => e = .returned (.tuple #[]) ∧ PxAt w' b (p.setR 8 x) ∧ Fr b W w' := by
  have k : W.cell? ⟨b, 8360, none⟩ = some (.int .u8 (p.rg 8)) := h.reg 8 (by decide)
  have fz := h.fz 8360
  have HP : Hid (PxAt W b p) := h
  clear h
  go_enter Try.func46, Try.ntmps46
  go_wp2
  go_end0
  exact ⟨rfl, HP.out.set 8360 _ (fun j _ => Pic.cellR p 8 (by decide) _ j), (Fr.refl b W).setCell⟩
set_option maxRecDepth 100000 in
theorem wreg9_any (x : Int) (W : World) (h : PxAt W b p) :
    Calls Try.prog 46 #[.pointer (some ⟨b, 0, none⟩), .int .i64 9, .int .u8 x] W fun e w' => e = .returned (.tuple #[]) ∧ PxAt w' b (p.setR 9 x) ∧ Fr b W w' := by
  have k : W.cell? ⟨b, 8361, none⟩ = some (.int .u8 (p.rg 9)) := h.reg 9 (by decide)
  have fz := h.fz 8361
  have HP : Hid (PxAt W b p) := h
  clear h
  go_enter Try.func46, Try.ntmps46
  go_wp2
  go_end0
  exact ⟨rfl, HP.out.set 8361 _ (fun j _ => Pic.cellR p 9 (by decide) _ j), (Fr.refl b W).setCell⟩
set_option maxRecDepth 100000 in
theorem wreg10_any (x : Int) (W : World) (h : PxAt W b p) :
    Calls Try.prog 46 #[.pointer (some ⟨b, 0, none⟩), .int .i64 10, .int .u8 x] W fun e w' => e = .returned (.tuple #[]) ∧ PxAt w' b (p.setR 10 x) ∧ Fr b W w' := by
  have k : W.cell? ⟨b, 8362, none⟩ = some (.int .u8 (p.rg 10)) := h.reg 10 (by decide)
  have fz := h.fz 8362
  have HP : Hid (PxAt W b p) := h
  clear h
  go_enter Try.func46, Try.ntmps46
  go_wp2
  go_end0
  exact ⟨rfl, HP.out.set 8362 _ (fun j _ => Pic.cellR p 10 (by decide) _ j), (Fr.refl b W).setCell⟩
set_option maxRecDepth 100000 in
theorem wreg11_any (x : Int) (W : World) (h : PxAt W b p) :
    Calls Try.prog 46 #[.pointer (some ⟨b, 0, none⟩), .int .i64 11, .int .u8 x] W fun e w' => e = .returned (.tuple #[]) ∧ PxAt w' b (p.setR 11 x) ∧ Fr b W w' := by
  have k : W.cell? ⟨b, 8363, none⟩ = some (.int .u8 (p.rg 11)) := h.reg 11 (by decide)
  have fz := h.fz 8363
  have HP : Hid (PxAt W b p) := h
  clear h
  go_enter Try.func46, Try.ntmps46
  go_wp2
  go_end0
  exact ⟨rfl, HP.out.set 8363 _ (fun j _ => Pic.cellR p 11 (by decide) _ j), (Fr.refl b W).setCell⟩
set_option maxRecDepth 100000 in
theorem wreg4_any (x : Int) (W : World) (h : PxAt W b p) :
    Calls Try.prog 46 #[.pointer (some ⟨b, 0, none⟩), .int .i64 4, .int .u8 x] W fun e w' => e = .returned (.tuple #[]) ∧ PxAt w' b p ∧ Fr b W w' := by
  go_enter Try.func46, Try.ntmps46
  go_wp2
  go_end0
  exact ⟨rfl, h, Fr.refl b W⟩
set_option maxRecDepth 100000 in
theorem writeR_any {q : Pic} (n : Nat) (hn : n < 12) (a x : Int) (ha : a = 65344 + (n : Int)) (W : World) (h : PxAt W b p)
    (M : ∀ W, PxAt W b p → Calls Try.prog 46 #[.pointer (some ⟨b, 0, none⟩), .int .i64 (n : Int), .int .u8 (cutB x)] W fun e w' => e = .returned (.tuple #[]) ∧ PxAt w' b q ∧ Fr b W w') :
    Calls Try.prog 18 #[.pointer (some ⟨b, 0, none⟩), .int .i64 a, .int .i64 x] W fun e w' => e = .returned (.tuple #[]) ∧ PxAt w' b q ∧ Fr b W w' := by
  have HL : Hid (∀ W, PxAt W b p → Calls Try.prog 42 #[.pointer (some ⟨b, 0, none⟩), .int .i64 a] W fun e w' => e = .returned (.bool false) ∧ w' = W) := fun W h => by
    have := isLocked_any a W h
    rw [show p.locked a = false by unfold Pic.locked; rw [isO_no (by omega), isV_no (by omega)]; split; rfl; split <;> rfl] at this
    exact this
  have HV : Hid (∀ W, Calls Try.prog 43 #[.int .i64 a] W fun e w' => e = .returned (.bool false) ∧ w' = W) := fun W => by have := isVram_any a W; rw [isV_no (by omega)] at this; exact this
  have HO : Hid (∀ W, Calls Try.prog 44 #[.int .i64 a] W fun e w' => e = .returned (.bool false) ∧ w' = W) := fun W => by have := isOam_any a W; rw [isO_no (by omega)] at this; exact this
  have HR : Hid (∀ W, Calls Try.prog 45 #[.int .i64 a] W fun e w' => e = .returned (.bool true) ∧ w' = W) := fun W => by have := isRegister_any a W; rw [isR_yes (by omega) (by omega)] at this; exact this
  have hi : IntKind.i64.wrap (a - 65344) = (n : Int) := by rw [ha]; simp [IntKind.wrap, IntKind.bits, IntKind.signed]; omega
  have hi' : wrap64 (a - 65344) = (n : Int) := by rw [ha]; unfold wrap64; omega
  have hs : a - 65344 = (n : Int) := by omega
  have HM : Hid _ := M
  have HP : Hid (PxAt W b p) := h
  have hw := wrapB x
  clear h M ha
  go_enter Try.func18, Try.ntmps18
  go_wp2_with fail
  refine (HL.out _ HP.out).mono ?_
  rintro e w' ⟨rfl, hw'⟩
  obtain rfl := hw'.symm
  go_wp2_with fail
  refine (HV.out _).mono ?_
  rintro e w' ⟨rfl, hw'⟩
  obtain rfl := hw'.symm
  go_wp2_with fail
  refine (HO.out _).mono ?_
  rintro e w' ⟨rfl, hw'⟩
  obtain rfl := hw'.symm
  go_wp2_with fail
  refine (HR.out _).mono ?_
  rintro e w' ⟨rfl, hw'⟩
  obtain rfl := hw'.symm
  go_wp2_with fail
  refine (HM.out _ HP.out).mono ?_
  rintro e w2 ⟨rfl, h2, hF⟩
  have H2 : Hid _ := And.intro h2 hF
  clear h2 hF
  go_wp2_with fail
  go_end0
  exact ⟨rfl, H2.out⟩
end Go.Proofs.Ytmjfccdhjhkocaa
