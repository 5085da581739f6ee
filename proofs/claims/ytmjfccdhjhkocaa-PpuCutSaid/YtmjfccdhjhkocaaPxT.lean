/- STAT and LCDC, read and written; what is locked. -/
import Derived.Test.YtmjfccdhjhkocaaPxS
namespace Go.Proofs.Ytmjfccdhjhkocaa
open Go.RowKit
set_option linter.unusedVariables false
variable {b : Nat} {p : Pic}
theorem Pic.statB_b (i : p.In) : 0 ≤ p.statB ∧ p.statB ≤ 255 := by
  have q : ∀ x : Int, 0 ≤ x → x ≤ 255 → ∀ m : Int, (m = 0 ∨ m = 1 ∨ m = 2 ∨ m = 3) → (0 ≤ bits .or .u8 (bits .or .u8 (bits .or .u8 128 x) m) 4 ∧ bits .or .u8 (bits .or .u8 (bits .or .u8 128 x) m) 4 ≤ 255) ∧ (0 ≤ bits .or .u8 (bits .or .u8 128 x) m ∧ bits .or .u8 (bits .or .u8 128 x) m ≤ 255) := fun x x0 x1 m hm => by
    rcases hm with rfl | rfl | rfl | rfl
    · exact (byteAll (p := fun x => (0 ≤ bits .or .u8 (bits .or .u8 (bits .or .u8 128 x) 0) 4 ∧ bits .or .u8 (bits .or .u8 (bits .or .u8 128 x) 0) 4 ≤ 255) ∧ (0 ≤ bits .or .u8 (bits .or .u8 128 x) 0 ∧ bits .or .u8 (bits .or .u8 128 x) 0 ≤ 255)) (by decide +kernel)) x x0 x1
    · exact (byteAll (p := fun x => (0 ≤ bits .or .u8 (bits .or .u8 (bits .or .u8 128 x) 1) 4 ∧ bits .or .u8 (bits .or .u8 (bits .or .u8 128 x) 1) 4 ≤ 255) ∧ (0 ≤ bits .or .u8 (bits .or .u8 128 x) 1 ∧ bits .or .u8 (bits .or .u8 128 x) 1 ≤ 255)) (by decide +kernel)) x x0 x1
    · exact (byteAll (p := fun x => (0 ≤ bits .or .u8 (bits .or .u8 (bits .or .u8 128 x) 2) 4 ∧ bits .or .u8 (bits .or .u8 (bits .or .u8 128 x) 2) 4 ≤ 255) ∧ (0 ≤ bits .or .u8 (bits .or .u8 128 x) 2 ∧ bits .or .u8 (bits .or .u8 128 x) 2 ≤ 255)) (by decide +kernel)) x x0 x1
    · exact (byteAll (p := fun x => (0 ≤ bits .or .u8 (bits .or .u8 (bits .or .u8 128 x) 3) 4 ∧ bits .or .u8 (bits .or .u8 (bits .or .u8 128 x) 3) 4 ≤ 255) ∧ (0 ≤ bits .or .u8 (bits .or .u8 128 x) 3 ∧ bits .or .u8 (bits .or .u8 128 x) 3 ≤ 255)) (by decide +kernel)) x x0 x1
  have := q _ (i.rg 1).1 (i.rg 1).2 _ p.mode_b
  unfold Pic.statB
  split
  · exact this.1
  · exact this.2
set_option maxRecDepth 100000 in
theorem rreg1_any (W : World) (h : PxAt W b p) :
    Calls Try.prog 47 #[.pointer (some ⟨b, 0, none⟩), .int .i64 1] W fun e w' => e = .returned (.int .u8 p.statB) ∧ ∃ n, w' = W.drewN n := by
  have HS : Hid _ := readStat_any W h
  clear h
  go_enter Try.func47, Try.ntmps47
  go_wp2_with fail
  refine Calls.mono HS.out ?_
  rintro e w' ⟨rfl, n, rfl⟩
  go_wp2_with fail
  go_ret
  exact ⟨rfl, _, rfl⟩
set_option maxRecDepth 100000 in
theorem readStatR_any (i : p.In) (W : World) (h : PxAt W b p) :
    Calls Try.prog 20 #[.pointer (some ⟨b, 0, none⟩), .int .i64 65345] W fun e w' => e = .returned (.int .i64 p.statB) ∧ ∃ n, w' = W.drewN n := by
  have HL : Hid (∀ W, PxAt W b p → Calls Try.prog 42 #[.pointer (some ⟨b, 0, none⟩), .int .i64 65345] W fun e w' => e = .returned (.bool false) ∧ w' = W) := fun W h => by
    have := isLocked_any 65345 W h
    rw [show p.locked 65345 = false by unfold Pic.locked; rw [isO_no (by omega), isV_no (by omega)]; split; rfl; split <;> rfl] at this
    exact this
  have HR : Hid (∀ W, Calls Try.prog 45 #[.int .i64 65345] W fun e w' => e = .returned (.bool true) ∧ w' = W) := fun W => isRegister_any 65345 W
  obtain ⟨s0, s1⟩ := Pic.statB_b i
  have HM : Hid (∀ W, PxAt W b p → Calls Try.prog 47 #[.pointer (some ⟨b, 0, none⟩), .int .i64 1] W fun e w' => e = .returned (.int .u8 p.statB) ∧ ∃ n, w' = W.drewN n) := fun W h => rreg1_any W h
  have HP : Hid (PxAt W b p) := h
  clear h i
  generalize p.statB = S at *
  go_enter Try.func20, Try.ntmps20
  go_wp2_with fail
  refine (HL.out _ HP.out).mono ?_
  rintro e w' ⟨rfl, hw'⟩
  obtain rfl := hw'.symm
  go_wp2_with fail
  refine (HR.out _).mono ?_
  rintro e w' ⟨rfl, hw'⟩
  obtain rfl := hw'.symm
  go_wp2_with fail
  refine (HM.out _ HP.out).mono ?_
  rintro e w' ⟨rfl, n, rfl⟩
  go_wp2_with fail
  go_ret
  exact ⟨rfl, _, rfl⟩
set_option maxRecDepth 100000 in
theorem wreg1_any (x : Int) (W : World) (h : PxAt W b p) :
    Calls Try.prog 46 #[.pointer (some ⟨b, 0, none⟩), .int .i64 1, .int .u8 x] W fun e w' => e = .returned (.tuple #[]) ∧ PxAt w' b (p.setR 1 (bits .and .u8 x 120)) ∧ Fr b W w' := by
  have k : W.cell? ⟨b, 8353, none⟩ = some (.int .u8 (p.rg 1)) := h.reg 1 (by decide)
  have fz := h.fz 8353
  have HP : Hid (PxAt W b p) := h
  clear h
  go_enter Try.func46, Try.ntmps46
  go_wp2
  go_end0
  exact ⟨rfl, HP.out.set 8353 _ (fun j _ => Pic.cellR p 1 (by decide) _ j), (Fr.refl b W).setCell⟩
set_option maxRecDepth 100000 in
theorem lcdcOn_any (x : Int) (on : p.has 128 = false) (W : World) (h : PxAt W b p) :
    Calls Try.prog 60 #[.pointer (some ⟨b, 0, none⟩), .int .u8 x] W fun e w' => e = .returned (.tuple #[]) ∧ PxAt w' b (p.setR 0 x) ∧ Fr b W w' := by
  have k : W.cell? ⟨b, 8352, none⟩ = some (.int .u8 (p.rg 0)) := h.reg 0 (by decide)
  have fz := h.fz 8352
  have HA : Hid (∀ W, PxAt W b p → Calls Try.prog 48 #[.pointer (some ⟨b, 0, none⟩), .int .u8 128] W fun e w' => e = .returned (.bool false) ∧ w' = W) := fun W h => on ▸ has_any 128 W h
  have HP : Hid (PxAt W b p) := h
  clear h on
  go_enter Try.func60, Try.ntmps60
  go_wp2_with fail
  refine (HA.out _ HP.out).mono ?_
  rintro e w' ⟨rfl, hw'⟩
  obtain rfl := hw'.symm
  go_wp2_with fail
  go_end0
  exact ⟨rfl, HP.out.set 8352 _ (fun j _ => Pic.cellR p 0 (by decide) _ j), (Fr.refl b W).setCell⟩
set_option maxRecDepth 100000 in
theorem wreg0On_any (x : Int) (on : p.has 128 = false) (W : World) (h : PxAt W b p) :
    Calls Try.prog 46 #[.pointer (some ⟨b, 0, none⟩), .int .i64 0, .int .u8 x] W fun e w' => e = .returned (.tuple #[]) ∧ PxAt w' b (p.setR 0 x) ∧ Fr b W w' := by
  have HS : Hid _ := lcdcOn_any x on W h
  clear h on
  go_enter Try.func46, Try.ntmps46
  go_wp2_with fail
  refine Calls.mono HS.out ?_
  rintro e w2 ⟨rfl, h2, F2⟩
  have H2 : Hid _ := And.intro h2 F2
  clear h2 F2
  go_wp2_with fail
  go_end0
  exact ⟨rfl, H2.out⟩
set_option maxRecDepth 100000 in
theorem readL_any (a : Int) (hl : p.locked a = true) (W : World) (h : PxAt W b p) :
    Calls Try.prog 20 #[.pointer (some ⟨b, 0, none⟩), .int .i64 a] W fun e w' => e = .returned (.int .i64 255) ∧ w' = W := by
  have HL : Hid (∀ W, PxAt W b p → Calls Try.prog 42 #[.pointer (some ⟨b, 0, none⟩), .int .i64 a] W fun e w' => e = .returned (.bool true) ∧ w' = W) := fun W h => hl ▸ isLocked_any a W h
  have HP : Hid (PxAt W b p) := h
  clear h hl
  go_enter Try.func20, Try.ntmps20
  go_wp2_with fail
  refine (HL.out _ HP.out).mono ?_
  rintro e w' ⟨rfl, hw'⟩
  obtain rfl := hw'.symm
  go_wp2_with fail
  go_ret
  exact ⟨rfl, rfl⟩
set_option maxRecDepth 100000 in
theorem writeL_any (a x : Int) (hl : p.locked a = true) (W : World) (h : PxAt W b p) :
    Calls Try.prog 18 #[.pointer (some ⟨b, 0, none⟩), .int .i64 a, .int .i64 x] W fun e w' => e = .returned (.tuple #[]) ∧ w' = W := by
  have HL : Hid (∀ W, PxAt W b p → Calls Try.prog 42 #[.pointer (some ⟨b, 0, none⟩), .int .i64 a] W fun e w' => e = .returned (.bool true) ∧ w' = W) := fun W h => hl ▸ isLocked_any a W h
  have HP : Hid (PxAt W b p) := h
  clear h hl
  go_enter Try.func18, Try.ntmps18
  go_wp2_with fail
  refine (HL.out _ HP.out).mono ?_
  rintro e w' ⟨rfl, hw'⟩
  obtain rfl := hw'.symm
  go_wp2_with fail
  go_end0
  exact ⟨rfl, rfl⟩
set_option maxRecDepth 100000 in
theorem dmaIn_any (n : Nat) (hn : n < 160) (x : Int) (W : World) (h : PxAt W b p) :
    Calls Try.prog 25 #[.pointer (some ⟨b, 0, none⟩), .int .i64 (n : Int), .int .i64 x] W fun e w' => e = .returned (.tuple #[]) ∧ PxAt w' b (p.setO n (cutB x)) ∧ Fr b W w' := by
  have k := h.oam n hn
  have fz := h.fz (8192 + n)
  have hw := wrapB x
  have n0 : (0 : Int) ≤ (n : Int) := by omega
  have n1 : (n : Int) < 160 := by omega
  have HP : Hid (PxAt W b p) := h
  clear h
  go_enter Try.func25, Try.ntmps25
  go_wp2_with fail
  go_end0
  exact ⟨rfl, HP.out.set (8192 + n) _ (fun j _ => Pic.cellO p n hn _ j), (Fr.refl b W).setCell⟩
set_option maxRecDepth 100000 in
theorem dmaOut_any (n x : Int) (hn : n < 0 ∨ 160 ≤ n) (W : World) :
    Calls Try.prog 25 #[.pointer (some ⟨b, 0, none⟩), .int .i64 n, .int .i64 x] W fun e w' => e = .returned (.tuple #[]) ∧ w' = W := by
  rcases hn with hn | hn
  · have d1 : decide (0 ≤ n) = false := decide_eq_false (by omega)
    go_enter Try.func25, Try.ntmps25
    go_wp2_with fail
    go_end0
    exact ⟨rfl, rfl⟩
  · have d0 : decide (0 ≤ n) = true := decide_eq_true (by omega)
    have d1 : decide (n < 160) = false := decide_eq_false (by omega)
    go_enter Try.func25, Try.ntmps25
    go_wp2_with fail
    go_end0
    exact ⟨rfl, rfl⟩
end Go.Proofs.Ytmjfccdhjhkocaa
