/- Whether a condition holds, whether a row is over, over the translation. -/
import Derived.Test.YtdkibohpdkdooaaGreatDoorCpN
namespace Go.Proofs.YtdkibohpdkdooaaGreatDoor
open Go.RowKit
set_option linter.unusedVariables false
set_option maxRecDepth 100000 in
set_option maxHeartbeats 1000000 in
theorem holds_any (b : Nat) (s : St) (w : World) (h : Cp w b s) (o : s.Ok) :
    Calls Tryz.prog 102 #[.pointer (some ⟨b, 0, none⟩)] w fun e w' => e = .returned (.bool s.holds) ∧ Up w w' := by
  have c6 : w.cell? ⟨b, 6, none⟩ = some (.int .u8 (s.r 6)) := h.cell 6
  have HA := and128b (s.r 6) (o.r 6).1 (o.r 6).2
  have HB := and16b (s.r 6) (o.r 6).1 (o.r 6).2
  have HZ : (s.r 6 / 128 % 2 == 1) = !(s.r 6 / 128 % 2 == 0) := by
    have : s.r 6 / 128 % 2 = 0 ∨ s.r 6 / 128 % 2 = 1 := by omega
    rcases this with e | e <;> rw [e] <;> rfl
  have HC : (s.r 6 / 16 % 2 == 1) = !(s.r 6 / 16 % 2 == 0) := by
    have : s.r 6 / 16 % 2 = 0 ∨ s.r 6 / 16 % 2 = 1 := by omega
    rcases this with e | e <;> rw [e] <;> rfl
  have hy := cases8 o.y.1 o.y.2
  have HY : Hid (∀ W, Cp W b s → Calls Tryz.prog 59 #[.pointer (some ⟨b, 0, none⟩)] W fun e w' => e = .returned (.int .u8 s.y) ∧ ∃ n, w' = W.drewN n) := fun W hW => y_any b s W hW o
  unfold St.holds holdsC
  generalize s.y = y at hy HY ⊢
  generalize s.r 6 = f at c6 HA HB HZ HC ⊢
  have HAh : Hid _ := HA
  have HBh : Hid _ := HB
  have HZh : Hid _ := HZ
  have HCh : Hid _ := HC
  clear HA HB HZ HC
  rcases hy with rfl | rfl | rfl | rfl | rfl | rfl | rfl | rfl
  · have b3 : bits .and .u8 0 3 = 0 := by decide
    have b1 : bits .and .u8 0 1 = 0 := by decide
    rw [show (if (0 : Int) % 4 = 0 then f / 128 % 2 == 0 else if (0 : Int) % 4 = 1 then f / 128 % 2 == 1 else if (0 : Int) % 4 = 2 then f / 16 % 2 == 0 else f / 16 % 2 == 1) = (f / 128 % 2 == 0) from rfl]
    have hi : ∀ W : World, (Instr.index 103 (.agg #[.int .u8 128, .int .u8 128, .int .u8 16, .int .u8 16]) (.int .u8 0)).run Tryz.prog W = .ok (.int .u8 128) W := fun W => by kernel_rfl
    go_enter Tryz.func102, Tryz.ntmps102
    go_wp2_with (first | (go_at_call 59; refine (HY.out _ (by exact h)).mono ?_; rintro e w' ⟨rfl, n, rfl⟩))
    go_region_held3 (fun w' => w'.cell? ⟨b, 6, none⟩ = some (.int .u8 f)) (exact c6) (first | (go_at_call 59; refine (HY.out _ (by exact h)).mono ?_; rintro e w' ⟨rfl, n, rfl⟩))
    go_wp2
    go_ret
    refine ⟨retB ?_, ⟨rfl, rfl, Nat.le_refl _, fun _ _ => rfl⟩⟩
    rw [HAh.out, HZh.out]
    cases (f / 128 % 2 == 0) <;> rfl
  · have b3 : bits .and .u8 1 3 = 1 := by decide
    have b1 : bits .and .u8 1 1 = 1 := by decide
    rw [show (if (1 : Int) % 4 = 0 then f / 128 % 2 == 0 else if (1 : Int) % 4 = 1 then f / 128 % 2 == 1 else if (1 : Int) % 4 = 2 then f / 16 % 2 == 0 else f / 16 % 2 == 1) = (f / 128 % 2 == 1) from rfl]
    have hi : ∀ W : World, (Instr.index 103 (.agg #[.int .u8 128, .int .u8 128, .int .u8 16, .int .u8 16]) (.int .u8 1)).run Tryz.prog W = .ok (.int .u8 128) W := fun W => by kernel_rfl
    go_enter Tryz.func102, Tryz.ntmps102
    go_wp2_with (first | (go_at_call 59; refine (HY.out _ (by exact h)).mono ?_; rintro e w' ⟨rfl, n, rfl⟩))
    go_region_held3 (fun w' => w'.cell? ⟨b, 6, none⟩ = some (.int .u8 f)) (exact c6) (first | (go_at_call 59; refine (HY.out _ (by exact h)).mono ?_; rintro e w' ⟨rfl, n, rfl⟩))
    go_wp2
    go_ret
    refine ⟨retB ?_, ⟨rfl, rfl, Nat.le_refl _, fun _ _ => rfl⟩⟩
    rw [HAh.out]
  · have b3 : bits .and .u8 2 3 = 2 := by decide
    have b1 : bits .and .u8 2 1 = 0 := by decide
    rw [show (if (2 : Int) % 4 = 0 then f / 128 % 2 == 0 else if (2 : Int) % 4 = 1 then f / 128 % 2 == 1 else if (2 : Int) % 4 = 2 then f / 16 % 2 == 0 else f / 16 % 2 == 1) = (f / 16 % 2 == 0) from rfl]
    have hi : ∀ W : World, (Instr.index 103 (.agg #[.int .u8 128, .int .u8 128, .int .u8 16, .int .u8 16]) (.int .u8 2)).run Tryz.prog W = .ok (.int .u8 16) W := fun W => by kernel_rfl
    go_enter Tryz.func102, Tryz.ntmps102
    go_wp2_with (first | (go_at_call 59; refine (HY.out _ (by exact h)).mono ?_; rintro e w' ⟨rfl, n, rfl⟩))
    go_region_held3 (fun w' => w'.cell? ⟨b, 6, none⟩ = some (.int .u8 f)) (exact c6) (first | (go_at_call 59; refine (HY.out _ (by exact h)).mono ?_; rintro e w' ⟨rfl, n, rfl⟩))
    go_wp2
    go_ret
    refine ⟨retB ?_, ⟨rfl, rfl, Nat.le_refl _, fun _ _ => rfl⟩⟩
    rw [HBh.out, HCh.out]
    cases (f / 16 % 2 == 0) <;> rfl
  · have b3 : bits .and .u8 3 3 = 3 := by decide
    have b1 : bits .and .u8 3 1 = 1 := by decide
    rw [show (if (3 : Int) % 4 = 0 then f / 128 % 2 == 0 else if (3 : Int) % 4 = 1 then f / 128 % 2 == 1 else if (3 : Int) % 4 = 2 then f / 16 % 2 == 0 else f / 16 % 2 == 1) = (f / 16 % 2 == 1) from rfl]
    have hi : ∀ W : World, (Instr.index 103 (.agg #[.int .u8 128, .int .u8 128, .int .u8 16, .int .u8 16]) (.int .u8 3)).run Tryz.prog W = .ok (.int .u8 16) W := fun W => by kernel_rfl
    go_enter Tryz.func102, Tryz.ntmps102
    go_wp2_with (first | (go_at_call 59; refine (HY.out _ (by exact h)).mono ?_; rintro e w' ⟨rfl, n, rfl⟩))
    go_region_held3 (fun w' => w'.cell? ⟨b, 6, none⟩ = some (.int .u8 f)) (exact c6) (first | (go_at_call 59; refine (HY.out _ (by exact h)).mono ?_; rintro e w' ⟨rfl, n, rfl⟩))
    go_wp2
    go_ret
    refine ⟨retB ?_, ⟨rfl, rfl, Nat.le_refl _, fun _ _ => rfl⟩⟩
    rw [HBh.out]
  · have b3 : bits .and .u8 4 3 = 0 := by decide
    have b1 : bits .and .u8 4 1 = 0 := by decide
    rw [show (if (4 : Int) % 4 = 0 then f / 128 % 2 == 0 else if (4 : Int) % 4 = 1 then f / 128 % 2 == 1 else if (4 : Int) % 4 = 2 then f / 16 % 2 == 0 else f / 16 % 2 == 1) = (f / 128 % 2 == 0) from rfl]
    have hi : ∀ W : World, (Instr.index 103 (.agg #[.int .u8 128, .int .u8 128, .int .u8 16, .int .u8 16]) (.int .u8 0)).run Tryz.prog W = .ok (.int .u8 128) W := fun W => by kernel_rfl
    go_enter Tryz.func102, Tryz.ntmps102
    go_wp2_with (first | (go_at_call 59; refine (HY.out _ (by exact h)).mono ?_; rintro e w' ⟨rfl, n, rfl⟩))
    go_region_held3 (fun w' => w'.cell? ⟨b, 6, none⟩ = some (.int .u8 f)) (exact c6) (first | (go_at_call 59; refine (HY.out _ (by exact h)).mono ?_; rintro e w' ⟨rfl, n, rfl⟩))
    go_wp2
    go_ret
    refine ⟨retB ?_, ⟨rfl, rfl, Nat.le_refl _, fun _ _ => rfl⟩⟩
    rw [HAh.out, HZh.out]
    cases (f / 128 % 2 == 0) <;> rfl
  · have b3 : bits .and .u8 5 3 = 1 := by decide
    have b1 : bits .and .u8 5 1 = 1 := by decide
    rw [show (if (5 : Int) % 4 = 0 then f / 128 % 2 == 0 else if (5 : Int) % 4 = 1 then f / 128 % 2 == 1 else if (5 : Int) % 4 = 2 then f / 16 % 2 == 0 else f / 16 % 2 == 1) = (f / 128 % 2 == 1) from rfl]
    have hi : ∀ W : World, (Instr.index 103 (.agg #[.int .u8 128, .int .u8 128, .int .u8 16, .int .u8 16]) (.int .u8 1)).run Tryz.prog W = .ok (.int .u8 128) W := fun W => by kernel_rfl
    go_enter Tryz.func102, Tryz.ntmps102
    go_wp2_with (first | (go_at_call 59; refine (HY.out _ (by exact h)).mono ?_; rintro e w' ⟨rfl, n, rfl⟩))
    go_region_held3 (fun w' => w'.cell? ⟨b, 6, none⟩ = some (.int .u8 f)) (exact c6) (first | (go_at_call 59; refine (HY.out _ (by exact h)).mono ?_; rintro e w' ⟨rfl, n, rfl⟩))
    go_wp2
    go_ret
    refine ⟨retB ?_, ⟨rfl, rfl, Nat.le_refl _, fun _ _ => rfl⟩⟩
    rw [HAh.out]
  · have b3 : bits .and .u8 6 3 = 2 := by decide
    have b1 : bits .and .u8 6 1 = 0 := by decide
    rw [show (if (6 : Int) % 4 = 0 then f / 128 % 2 == 0 else if (6 : Int) % 4 = 1 then f / 128 % 2 == 1 else if (6 : Int) % 4 = 2 then f / 16 % 2 == 0 else f / 16 % 2 == 1) = (f / 16 % 2 == 0) from rfl]
    have hi : ∀ W : World, (Instr.index 103 (.agg #[.int .u8 128, .int .u8 128, .int .u8 16, .int .u8 16]) (.int .u8 2)).run Tryz.prog W = .ok (.int .u8 16) W := fun W => by kernel_rfl
    go_enter Tryz.func102, Tryz.ntmps102
    go_wp2_with (first | (go_at_call 59; refine (HY.out _ (by exact h)).mono ?_; rintro e w' ⟨rfl, n, rfl⟩))
    go_region_held3 (fun w' => w'.cell? ⟨b, 6, none⟩ = some (.int .u8 f)) (exact c6) (first | (go_at_call 59; refine (HY.out _ (by exact h)).mono ?_; rintro e w' ⟨rfl, n, rfl⟩))
    go_wp2
    go_ret
    refine ⟨retB ?_, ⟨rfl, rfl, Nat.le_refl _, fun _ _ => rfl⟩⟩
    rw [HBh.out, HCh.out]
    cases (f / 16 % 2 == 0) <;> rfl
  · have b3 : bits .and .u8 7 3 = 3 := by decide
    have b1 : bits .and .u8 7 1 = 1 := by decide
    rw [show (if (7 : Int) % 4 = 0 then f / 128 % 2 == 0 else if (7 : Int) % 4 = 1 then f / 128 % 2 == 1 else if (7 : Int) % 4 = 2 then f / 16 % 2 == 0 else f / 16 % 2 == 1) = (f / 16 % 2 == 1) from rfl]
    have hi : ∀ W : World, (Instr.index 103 (.agg #[.int .u8 128, .int .u8 128, .int .u8 16, .int .u8 16]) (.int .u8 3)).run Tryz.prog W = .ok (.int .u8 16) W := fun W => by kernel_rfl
    go_enter Tryz.func102, Tryz.ntmps102
    go_wp2_with (first | (go_at_call 59; refine (HY.out _ (by exact h)).mono ?_; rintro e w' ⟨rfl, n, rfl⟩))
    go_region_held3 (fun w' => w'.cell? ⟨b, 6, none⟩ = some (.int .u8 f)) (exact c6) (first | (go_at_call 59; refine (HY.out _ (by exact h)).mono ?_; rintro e w' ⟨rfl, n, rfl⟩))
    go_wp2
    go_ret
    refine ⟨retB ?_, ⟨rfl, rfl, Nat.le_refl _, fun _ _ => rfl⟩⟩
    rw [HBh.out]
theorem run_sure (r : Row) (w : World) :
    (Instr.field 75 (.agg #[.int .u8 r.a0, .int .u8 r.a1, .int .u8 r.a2, .int .u8 r.a3, .int .u8 r.a4, .int .u8 r.a5, .int .u8 r.sure, .func (.func (doesF r.d)) #[] #[]]) 1).run Tryz.prog w = .ok (.int .u8 r.sure) w := by
  kernel_rfl
set_option maxRecDepth 100000 in
set_option maxHeartbeats 1000000 in
theorem takes_any (r : Row) (b : Nat) (s : St) (w : World) (h : Cp w b s) (o : s.Ok) (hr : r.sure ≤ 2) :
    Calls Tryz.prog 64 #[.pointer (some ⟨b, 0, none⟩), .agg r.cells] w fun e w' => e = .returned (.bool (s.takes r)) ∧ Up w w' := by
  have HH : Hid (∀ W, Cp W b s → Calls Tryz.prog 102 #[.pointer (some ⟨b, 0, none⟩)] W fun e w' => e = .returned (.bool s.holds) ∧ Up W w') := fun W hW => holds_any b s W hW o
  have HA : Hid (∀ o, Cp (w.alloc o) b s) := fun o => h.up ((Up.refl w).alloc o)
  have hb := h.lt
  unfold St.takes
  generalize s.holds = H at HH ⊢
  unfold Row.cells
  by_cases h0 : r.sure = 0
  · have e0 : ((r.sure : Int) == 0) = true := by rw [h0]; rfl
    have e1 : (r.sure == 0) = true := by rw [h0]; rfl
    rw [e1]
    clear h0 e1
    go_enter Tryz.func64, Tryz.ntmps64
    go_wp2
    go_ret
    exact ⟨rfl, (Up.refl w).alloc _⟩
  · have e0 : ((r.sure : Int) == 0) = false := beq_eq_false_iff_ne.2 (by omega)
    have e1 : (r.sure == 0) = false := beq_eq_false_iff_ne.2 h0
    rw [e1]
    clear h0 e1
    go_enter Tryz.func64, Tryz.ntmps64
    go_wp2_with (first | (go_at_call 102; refine (HH.out _ (by exact HA.out _)).mono ?_; rintro e w1 ⟨rfl, hu⟩))
    go_ret
    exact ⟨rfl, ((Up.refl w).alloc _).trans hu⟩
end Go.Proofs.YtdkibohpdkdooaaGreatDoor
