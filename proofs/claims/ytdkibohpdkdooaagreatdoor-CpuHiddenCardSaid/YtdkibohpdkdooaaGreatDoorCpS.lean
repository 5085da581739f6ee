/- What lies behind an instruction; where a cycle reads and writes, and what, over the translation. -/
import Derived.Test.YtdkibohpdkdooaaGreatDoorCpM
import Derived.Test.YtdkibohpdkdooaaGreatDoorCpH
import Derived.Test.YtdkibohpdkdooaaGreatDoorCpG
namespace Go.Proofs.YtdkibohpdkdooaaGreatDoor
open Go.RowKit
set_option linter.unusedVariables false
theorem further_b (r : Row) : 0 ≤ r.further ∧ r.further ≤ 6 := by
  have h0 := one3_b r.a0
  have h1 := one3_b r.a1
  have h2 := one3_b r.a2
  have h3 := one3_b r.a3
  have h4 := one3_b r.a4
  have h5 := one3_b r.a5
  unfold Row.further
  omega
theorem behind_b (s : St) (o : s.Ok) : 0 ≤ s.behind ∧ s.behind ≤ 65535 := by
  unfold St.behind
  split
  · exact o.pc
  · omega
set_option maxRecDepth 100000 in
set_option maxHeartbeats 1000000 in
theorem behind_any (b : Nat) (s : St) (w : World) (h : Cp w b s) (o : s.Ok) :
    Calls Tryz.prog 74 #[.pointer (some ⟨b, 0, none⟩)] w fun e w' => e = .returned (.int .u16 s.behind) ∧ Up w w' := by
  have c14 : w.cell? ⟨b, 14, none⟩ = some (.int .u8 s.phase) := h.cell 14
  have c9 : w.cell? ⟨b, 9, none⟩ = some (.int .u16 s.pc) := h.cell 9
  unfold St.behind
  by_cases hp : s.phase = 2
  · rw [if_pos hp]
    rw [hp] at c14
    clear hp
    go_enter Tryz.func74, Tryz.ntmps74
    go_wp2
    go_ret
    exact ⟨rfl, Up.refl w⟩
  · rw [if_neg hp]
    have hp' : (s.phase == 2) = false := beq_eq_false_iff_ne.2 hp
    have hb1 := o.behindFirst.1
    have hb2 := o.behindFirst.2
    have hf1 := (further_b s.row).1
    have hf2 := (further_b s.row).2
    clear hp
    go_enter Tryz.func74, Tryz.ntmps74
    go_wp2_with (first
      | (go_at_call 65; refine (behindFirst_any b s _ (by exact h) o).mono ?_; rintro e w' ⟨rfl, n, rfl⟩)
      | (go_at_call 26; refine (row_any b s _ (by exact h) o).mono ?_; rintro e w1 ⟨rfl, hu⟩
         have hup : Up w w1 := (Up.drewN w _).trans hu
         clear hu)
      | (go_at_call 66; refine (further_any s.row _).mono ?_; rintro e w2 ⟨rfl, hu2⟩))
    go_ret
    refine ⟨rfl, hup.trans hu2⟩
set_option maxRecDepth 100000 in
theorem behindLow_any (b : Nat) (s : St) (w : World) (h : Cp w b s) (o : s.Ok) :
    Calls Tryz.prog 54 #[.pointer (some ⟨b, 0, none⟩)] w fun e w' => e = .returned (.int .u8 (s.behind % 256)) ∧ Up w w' := by
  have hb1 := (behind_b s o).1
  have hb2 := (behind_b s o).2
  go_enter Tryz.func54, Tryz.ntmps54
  go_wp2_with (first
      | (go_at_call 74; refine (behind_any b s _ (by exact h) o).mono ?_; rintro e w1 ⟨rfl, hu⟩))
  go_ret
  exact ⟨rfl, hu⟩
set_option maxRecDepth 100000 in
theorem behindHigh_any (b : Nat) (s : St) (w : World) (h : Cp w b s) (o : s.Ok) :
    Calls Tryz.prog 53 #[.pointer (some ⟨b, 0, none⟩)] w fun e w' => e = .returned (.int .u8 (s.behind / 256)) ∧ Up w w' := by
  have hb1 := (behind_b s o).1
  have hb2 := (behind_b s o).2
  go_enter Tryz.func53, Tryz.ntmps53
  go_wp2_with (first
      | (go_at_call 74; refine (behind_any b s _ (by exact h) o).mono ?_; rintro e w1 ⟨rfl, hu⟩))
  go_ret
  exact ⟨rfl, hu⟩
theorem ofDrew {P : Program} {f : FuncId} {a : Array Value} {w : World} {v : Value} (h : Calls P f a w fun e w' => e = .returned v ∧ ∃ n, w' = w.drewN n) : Calls P f a w fun e w' => e = .returned v ∧ Up w w' :=
  h.mono fun e w' ⟨he, n, hn⟩ => ⟨he, by rw [hn]; exact Up.drewN w n⟩
theorem at_any (k : Nat) (hk : k ≤ 28) (b : Nat) (s : St) (w : World) (h : Cp w b s) (o : s.Ok) :
    Calls Tryz.prog (atF k) #[.pointer (some ⟨b, 0, none⟩)] w fun e w' => e = .returned (.int .u16 (s.at k)) ∧ Up w w' := by
  rcases cases29 hk with rfl | rfl | rfl | rfl | rfl | rfl | rfl | rfl | rfl | rfl | rfl | rfl | rfl | rfl | rfl | rfl | rfl | rfl | rfl | rfl | rfl | rfl | rfl | rfl | rfl | rfl | rfl | rfl | rfl
  · exact ofDrew (nowhere_any b s w h o)
  · exact ofDrew (nowhere_any b s w h o)
  · exact ofDrew (here_any b s w h o)
  · exact ofDrew (furtherByte_any b s w h o)
  · exact ofDrew (bc_any b s w h o)
  · exact ofDrew (de_any b s w h o)
  · exact ofDrew (hl_any b s w h o)
  · exact ofDrew (high_any b s w h o)
  · exact ofDrew (highC_any b s w h o)
  · exact ofDrew (word_any b s w h o)
  · exact ofDrew (top_any b s w h o)
  · exact ofDrew (aboveTop_any b s w h o)
  · exact ofDrew (bc_any b s w h o)
  · exact ofDrew (de_any b s w h o)
  · exact ofDrew (hl_any b s w h o)
  · exact ofDrew (high_any b s w h o)
  · exact ofDrew (highC_any b s w h o)
  · exact ofDrew (word_any b s w h o)
  · exact ofDrew (hl_any b s w h o)
  · exact ofDrew (hl_any b s w h o)
  · exact ofDrew (hl_any b s w h o)
  · exact ofDrew (hl_any b s w h o)
  · exact ofDrew (word_any b s w h o)
  · exact ofDrew (aboveWord_any b s w h o)
  · exact ofDrew (belowTop_any b s w h o)
  · exact ofDrew (newTop_any b s w h o)
  · exact ofDrew (belowTop_any b s w h o)
  · exact ofDrew (newTop_any b s w h o)
  · exact ofDrew (newTop_any b s w h o)
theorem data_any (k : Nat) (hk : k ≤ 28) (b : Nat) (s : St) (w : World) (h : Cp w b s) (o : s.Ok) (hL : Lb b w) :
    Calls Tryz.prog (dataF k) #[.pointer (some ⟨b, 0, none⟩)] w fun e w' => e = .returned (.int .u8 (s.data k)) ∧ Up w w' := by
  rcases cases29 hk with rfl | rfl | rfl | rfl | rfl | rfl | rfl | rfl | rfl | rfl | rfl | rfl | rfl | rfl | rfl | rfl | rfl | rfl | rfl | rfl | rfl | rfl | rfl | rfl | rfl | rfl | rfl | rfl | rfl
  · exact ofDrew (noData_any b s w h o)
  · exact ofDrew (noData_any b s w h o)
  · exact ofDrew (noData_any b s w h o)
  · exact ofDrew (noData_any b s w h o)
  · exact ofDrew (noData_any b s w h o)
  · exact ofDrew (noData_any b s w h o)
  · exact ofDrew (noData_any b s w h o)
  · exact ofDrew (noData_any b s w h o)
  · exact ofDrew (noData_any b s w h o)
  · exact ofDrew (noData_any b s w h o)
  · exact ofDrew (noData_any b s w h o)
  · exact ofDrew (noData_any b s w h o)
  · exact ofDrew (a_any b s w h o)
  · exact ofDrew (a_any b s w h o)
  · exact ofDrew (a_any b s w h o)
  · exact ofDrew (a_any b s w h o)
  · exact ofDrew (a_any b s w h o)
  · exact ofDrew (a_any b s w h o)
  · exact ofDrew (source_any b s w h o)
  · exact ofDrew (latest_any b s w h o)
  · exact steppedData_any b s w h o
  · exact alteredData_any b s w h o hL
  · exact ofDrew (spLow_any b s w h o)
  · exact ofDrew (spHigh_any b s w h o)
  · exact ofDrew (pairHigh_any b s w h o)
  · exact ofDrew (pairLow_any b s w h o)
  · exact behindHigh_any b s w h o
  · exact behindLow_any b s w h o
  · exact behindLow_any b s w h o
end Go.Proofs.YtdkibohpdkdooaaGreatDoor
