/- What comes next, whether a condition holds, whether a row is over, over the translation. -/
import Derived.Test.YtdkibohpdkdooaaGreatDoorCpM
namespace Go.Proofs.YtdkibohpdkdooaaGreatDoor
open Go.RowKit
set_option linter.unusedVariables false
theorem and128b : ∀ x : Int, 0 ≤ x → x ≤ 255 → (bits .and .u8 x 128 != 0) = (x / 128 % 2 == 1) := byteAll (by decide +kernel)
theorem and16b : ∀ x : Int, 0 ≤ x → x ≤ 255 → (bits .and .u8 x 16 != 0) = (x / 16 % 2 == 1) := byteAll (by decide +kernel)
theorem cells_act (r : Row) (i : Int) (h0 : 0 ≤ i) (h1 : i ≤ 5) : (#[.int .u8 r.a0, .int .u8 r.a1, .int .u8 r.a2, .int .u8 r.a3, .int .u8 r.a4, .int .u8 r.a5] : Array Value)[i.toNat]? = some (.int .u8 ((r.act i : Nat) : Int)) := by
  have : i = 0 ∨ i = 1 ∨ i = 2 ∨ i = 3 ∨ i = 4 ∨ i = 5 := by omega
  rcases this with rfl | rfl | rfl | rfl | rfl | rfl <;> rfl
theorem run_act (r : Row) (i : Int) (h0 : 0 ≤ i) (h1 : i ≤ 5) (w : World) :
    (Instr.index 72 (.agg #[.int .u8 r.a0, .int .u8 r.a1, .int .u8 r.a2, .int .u8 r.a3, .int .u8 r.a4, .int .u8 r.a5]) (.int .u8 i)).run Tryz.prog w = .ok (.int .u8 ((r.act i : Nat) : Int)) w := by
  have := run_index_one 72 61 6 _ .u8 i.toNat _ _ w Tryz.underlying72 (by omega) Tryz.underlying61 rfl (by kernel_rfl) (cells_act r i h0 h1)
  rwa [Int.toNat_of_nonneg h0] at this
theorem run_acts (r : Row) (w : World) :
    (Instr.field 75 (.agg #[.int .u8 r.a0, .int .u8 r.a1, .int .u8 r.a2, .int .u8 r.a3, .int .u8 r.a4, .int .u8 r.a5, .int .u8 r.sure, .func (.func (doesF r.d)) #[] #[]]) 0).run Tryz.prog w = .ok (.agg #[.int .u8 r.a0, .int .u8 r.a1, .int .u8 r.a2, .int .u8 r.a3, .int .u8 r.a4, .int .u8 r.a5]) w := by
  kernel_rfl
set_option maxRecDepth 100000 in
set_option maxHeartbeats 1000000 in
theorem next_run (b : Nat) (s : St) (w : World) (h : Cp w b s) (o : s.Ok) (hs : s.state = 0) (hp : s.phase ≠ 0) :
    Calls Tryz.prog 21 #[.pointer (some ⟨b, 0, none⟩)] w fun e w' => e = .returned (.int .u8 (s.next : Nat)) ∧ Up w w' := by
  have c11 : w.cell? ⟨b, 11, none⟩ = some (.int .i64 s.state) := h.cell 11
  have c14 : w.cell? ⟨b, 14, none⟩ = some (.int .u8 s.phase) := h.cell 14
  have c16 : w.cell? ⟨b, 16, none⟩ = some (.int .u8 s.done) := h.cell 16
  have e : s.next = s.row.act s.done := by unfold St.next; rw [if_neg (by simp [hs]), if_neg hp]
  rw [e]
  have HR : Hid (∀ W, Cp W b s → Calls Tryz.prog 26 #[.pointer (some ⟨b, 0, none⟩)] W fun e w' => e = .returned (.agg s.row.cells) ∧ Up W w') := fun W hW => row_any b s W hW o
  generalize s.row = R at HR ⊢
  have hix := run_act R s.done o.done.1 o.done.2
  have hfd := run_acts R
  rw [hs] at c11
  have hp' : (s.phase == 0) = false := beq_eq_false_iff_ne.2 hp
  clear e hs hp
  go_enter Tryz.func21, Tryz.ntmps21
  go_wp2_with fail
  go_region_held3 (fun w' => w'.cell? ⟨b, 16, none⟩ = some (.int .u8 s.done)) (first | exact c16 | exact k16)
    (first
      | (go_at_call 26; refine (HR.out _ (by exact h)).mono ?_; rintro e w1 ⟨rfl, hu⟩
         have hup : Up w w1 := by first | exact (Up.drewN w _).trans hu | exact (Up.refl w).drew.trans hu
         have k16 : w1.cell? ⟨b, 16, none⟩ = some (.int .u8 s.done) := (h.up hup).cell 16
         clear hu
         simp only [Row.cells]))
  go_wp2
  go_ret
  exact ⟨rfl, hup⟩
set_option maxRecDepth 100000 in
theorem next_any (b : Nat) (s : St) (w : World) (h : Cp w b s) (o : s.Ok) :
    Calls Tryz.prog 21 #[.pointer (some ⟨b, 0, none⟩)] w fun e w' => e = .returned (.int .u8 (s.next : Nat)) ∧ Up w w' := by
  by_cases hs : s.state = 0
  · by_cases hp : s.phase = 0
    · have c11 : w.cell? ⟨b, 11, none⟩ = some (.int .i64 s.state) := h.cell 11
      have c14 : w.cell? ⟨b, 14, none⟩ = some (.int .u8 s.phase) := h.cell 14
      have e : s.next = 2 := by unfold St.next; rw [if_neg (by simp [hs]), if_pos hp]
      rw [e]
      rw [hs] at c11
      rw [hp] at c14
      clear e hs hp
      go_enter Tryz.func21, Tryz.ntmps21
      go_wp2
      go_ret
      exact ⟨rfl, Up.refl w⟩
    · exact next_run b s w h o hs hp
  · have c11 : w.cell? ⟨b, 11, none⟩ = some (.int .i64 s.state) := h.cell 11
    have e : s.next = 1 := by unfold St.next; rw [if_pos hs]
    rw [e]
    have hs' : (s.state != 0) = true := bne_iff_ne.2 hs
    clear e hs
    go_enter Tryz.func21, Tryz.ntmps21
    go_wp2
    go_ret
    exact ⟨rfl, Up.refl w⟩
end Go.Proofs.YtdkibohpdkdooaaGreatDoor
