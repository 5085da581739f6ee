/- More calls that only read a processor, over the translation. -/
import Derived.Test.YtdkibohpdkdooaaGreatDoorCpA
namespace Go.Proofs.YtdkibohpdkdooaaGreatDoor
open Go.RowKit
set_option linter.unusedVariables false
theorem wordP_b (h l : Int) (h0 : 0 ≤ h ∧ h ≤ 255) (l0 : 0 ≤ l ∧ l ≤ 255) : 0 ≤ wordP h l ∧ wordP h l ≤ 65535 := by unfold wordP; omega
theorem St.Ok.pair {s : St} (o : s.Ok) (p : Int) : 0 ≤ s.pair p ∧ s.pair p ≤ 65535 := by
  unfold St.pair
  split
  · exact o.sp
  · exact wordP_b _ _ (o.r _) (o.r _)
theorem St.Ok.pushed {s : St} (o : s.Ok) (p : Int) : 0 ≤ s.pushed p ∧ s.pushed p ≤ 65535 := by
  unfold St.pushed
  split
  · exact wordP_b _ _ (o.r _) (o.r _)
  · exact o.pair p
theorem St.Ok.word {s : St} (o : s.Ok) : 0 ≤ s.word ∧ s.word ≤ 65535 := wordP_b _ _ (o.rd _) (o.rd _)
theorem St.Ok.latest {s : St} (o : s.Ok) : 0 ≤ s.latest ∧ s.latest ≤ 255 := by
  unfold St.latest
  split
  · omega
  · exact o.rd _
theorem St.Ok.value {s : St} (o : s.Ok) (n : Int) : 0 ≤ s.value n ∧ s.value n ≤ 255 := by
  unfold St.value
  split
  · exact o.latest
  · exact o.r _
theorem St.Ok.behindFirst {s : St} (o : s.Ok) : 0 ≤ s.behindFirst ∧ s.behindFirst ≤ 65535 := by unfold St.behindFirst; have := o.pc; split <;> omega
theorem St.Ok.y {s : St} (o : s.Ok) : 0 ≤ s.y ∧ s.y ≤ 7 := by unfold St.y; omega
theorem St.Ok.z {s : St} (o : s.Ok) : 0 ≤ s.z ∧ s.z ≤ 7 := by unfold St.z; omega
theorem St.Ok.p {s : St} (o : s.Ok) : 0 ≤ s.p ∧ s.p ≤ 3 := by unfold St.p; omega
theorem St.Ok.x {s : St} (o : s.Ok) : 0 ≤ s.x ∧ s.x ≤ 3 := by unfold St.x; have := o.code; omega
set_option maxRecDepth 100000 in
theorem word_any (b : Nat) (s : St) (w : World) (h : Cp w b s) (o : s.Ok) :
    Calls Tryz.prog 38 #[.pointer (some ⟨b, 0, none⟩)] w fun e w' => e = .returned (.int .u16 s.word) ∧ ∃ n, w' = w.drewN n := by
  have c17 : w.cell? ⟨b, 17, none⟩ = some (.int .u8 (s.rd 0)) := h.cell 17
  have c18 : w.cell? ⟨b, 18, none⟩ = some (.int .u8 (s.rd 1)) := h.cell 18
  have ord01 := (o.rd 0).1
  have ord02 := (o.rd 0).2
  have ord11 := (o.rd 1).1
  have ord12 := (o.rd 1).2
  go_enter Tryz.func38, Tryz.ntmps38
  go_wp2
  go_quiet (first | (go_at_call 68; exact Calls.quiet_of (wordOf_any _ _ _ (by assumption) (by assumption) (by assumption) (by assumption))))
  go_wp2
  go_ret
  exact ⟨rfl, _, rfl⟩
set_option maxRecDepth 100000 in
theorem aboveWord_any (b : Nat) (s : St) (w : World) (h : Cp w b s) (o : s.Ok) :
    Calls Tryz.prog 47 #[.pointer (some ⟨b, 0, none⟩)] w fun e w' => e = .returned (.int .u16 ((s.word + 1) % 65536)) ∧ ∃ n, w' = w.drewN n := by
  have hw := o.word
  go_enter Tryz.func47, Tryz.ntmps47
  go_wp2_with (first | (go_at_call 38; refine (word_any b s _ (by exact h) o).mono ?_; rintro e w' ⟨rfl, n, rfl⟩))
  go_ret
  exact ⟨rfl, _, rfl⟩
set_option maxRecDepth 100000 in
theorem pair_any (b : Nat) (s : St) (w : World) (h : Cp w b s) (o : s.Ok) (p : Int) (hp0 : 0 ≤ p) (hp1 : p ≤ 3) :
    Calls Tryz.prog 67 #[.pointer (some ⟨b, 0, none⟩), .int .u8 p] w fun e w' => e = .returned (.int .u16 (s.pair p)) ∧ ∃ n, w' = w.drewN n := by
  have c0 : w.cell? ⟨b, 0, none⟩ = some (.int .u8 (s.r 0)) := h.cell 0
  have c1 : w.cell? ⟨b, 1, none⟩ = some (.int .u8 (s.r 1)) := h.cell 1
  have c2 : w.cell? ⟨b, 2, none⟩ = some (.int .u8 (s.r 2)) := h.cell 2
  have c3 : w.cell? ⟨b, 3, none⟩ = some (.int .u8 (s.r 3)) := h.cell 3
  have c4 : w.cell? ⟨b, 4, none⟩ = some (.int .u8 (s.r 4)) := h.cell 4
  have c5 : w.cell? ⟨b, 5, none⟩ = some (.int .u8 (s.r 5)) := h.cell 5
  have c8 : w.cell? ⟨b, 8, none⟩ = some (.int .u16 s.sp) := h.cell 8
  have or01 := (o.r 0).1
  have or02 := (o.r 0).2
  have or11 := (o.r 1).1
  have or12 := (o.r 1).2
  have or21 := (o.r 2).1
  have or22 := (o.r 2).2
  have or31 := (o.r 3).1
  have or32 := (o.r 3).2
  have or41 := (o.r 4).1
  have or42 := (o.r 4).2
  have or51 := (o.r 5).1
  have or52 := (o.r 5).2
  have osp1 := (o.sp).1
  have osp2 := (o.sp).2
  have hp : p = 0 ∨ p = 1 ∨ p = 2 ∨ p = 3 := by omega
  clear hp0 hp1
  rcases hp with rfl | rfl | rfl | rfl
  all_goals go_enter Tryz.func67, Tryz.ntmps67
  all_goals go_wp2
  · go_quiet (first | (go_at_call 68; exact Calls.quiet_of (wordOf_any _ _ _ (by assumption) (by assumption) (by assumption) (by assumption))))
    go_wp2
    go_ret
    exact ⟨rfl, _, rfl⟩
  · go_quiet (first | (go_at_call 68; exact Calls.quiet_of (wordOf_any _ _ _ (by assumption) (by assumption) (by assumption) (by assumption))))
    go_wp2
    go_ret
    exact ⟨rfl, _, rfl⟩
  · go_quiet (first | (go_at_call 68; exact Calls.quiet_of (wordOf_any _ _ _ (by assumption) (by assumption) (by assumption) (by assumption))))
    go_wp2
    go_ret
    exact ⟨rfl, _, rfl⟩
  · go_ret
    exact ⟨rfl, 0, rfl⟩
set_option maxRecDepth 100000 in
theorem bc_any (b : Nat) (s : St) (w : World) (h : Cp w b s) (o : s.Ok) :
    Calls Tryz.prog 33 #[.pointer (some ⟨b, 0, none⟩)] w fun e w' => e = .returned (.int .u16 (s.pair 0)) ∧ ∃ n, w' = w.drewN n := by
  go_enter Tryz.func33, Tryz.ntmps33
  go_wp2_with (first | (go_at_call 67; refine (pair_any b s _ (by exact h) o 0 (by decide) (by decide)).mono ?_; rintro e w' ⟨rfl, n, rfl⟩))
  go_ret
  exact ⟨rfl, _, rfl⟩
set_option maxRecDepth 100000 in
theorem de_any (b : Nat) (s : St) (w : World) (h : Cp w b s) (o : s.Ok) :
    Calls Tryz.prog 34 #[.pointer (some ⟨b, 0, none⟩)] w fun e w' => e = .returned (.int .u16 (s.pair 1)) ∧ ∃ n, w' = w.drewN n := by
  go_enter Tryz.func34, Tryz.ntmps34
  go_wp2_with (first | (go_at_call 67; refine (pair_any b s _ (by exact h) o 1 (by decide) (by decide)).mono ?_; rintro e w' ⟨rfl, n, rfl⟩))
  go_ret
  exact ⟨rfl, _, rfl⟩
set_option maxRecDepth 100000 in
theorem hl_any (b : Nat) (s : St) (w : World) (h : Cp w b s) (o : s.Ok) :
    Calls Tryz.prog 35 #[.pointer (some ⟨b, 0, none⟩)] w fun e w' => e = .returned (.int .u16 (s.pair 2)) ∧ ∃ n, w' = w.drewN n := by
  go_enter Tryz.func35, Tryz.ntmps35
  go_wp2_with (first | (go_at_call 67; refine (pair_any b s _ (by exact h) o 2 (by decide) (by decide)).mono ?_; rintro e w' ⟨rfl, n, rfl⟩))
  go_ret
  exact ⟨rfl, _, rfl⟩
set_option maxRecDepth 100000 in
theorem value_any (b : Nat) (s : St) (w : World) (h : Cp w b s) (o : s.Ok) (n : Int) (hn0 : 0 ≤ n) (hn1 : n ≤ 7) :
    Calls Tryz.prog 69 #[.pointer (some ⟨b, 0, none⟩), .int .u8 n] w fun e w' => e = .returned (.int .u8 (s.value n)) ∧ ∃ n, w' = w.drewN n := by
  have c0 : w.cell? ⟨b, 0, none⟩ = some (.int .u8 (s.r 0)) := h.cell 0
  have c1 : w.cell? ⟨b, 1, none⟩ = some (.int .u8 (s.r 1)) := h.cell 1
  have c2 : w.cell? ⟨b, 2, none⟩ = some (.int .u8 (s.r 2)) := h.cell 2
  have c3 : w.cell? ⟨b, 3, none⟩ = some (.int .u8 (s.r 3)) := h.cell 3
  have c4 : w.cell? ⟨b, 4, none⟩ = some (.int .u8 (s.r 4)) := h.cell 4
  have c5 : w.cell? ⟨b, 5, none⟩ = some (.int .u8 (s.r 5)) := h.cell 5
  have c7 : w.cell? ⟨b, 7, none⟩ = some (.int .u8 (s.r 7)) := h.cell 7
  have hn : n = 0 ∨ n = 1 ∨ n = 2 ∨ n = 3 ∨ n = 4 ∨ n = 5 ∨ n = 6 ∨ n = 7 := by omega
  clear hn0 hn1
  rcases hn with rfl | rfl | rfl | rfl | rfl | rfl | rfl | rfl
  all_goals go_enter Tryz.func69, Tryz.ntmps69
  all_goals go_wp2_with (first | (go_at_call 43; refine (latest_any b s _ (by exact h) o).mono ?_; rintro e w' ⟨rfl, n, rfl⟩))
  all_goals
    first
      | (go_quiet (fail)
         go_wp2
         go_ret
         exact ⟨rfl, _, rfl⟩)
      | (go_ret
         first | exact ⟨rfl, 0, rfl⟩ | exact ⟨rfl, _, rfl⟩)
set_option maxRecDepth 100000 in
theorem source_any (b : Nat) (s : St) (w : World) (h : Cp w b s) (o : s.Ok) :
    Calls Tryz.prog 42 #[.pointer (some ⟨b, 0, none⟩)] w fun e w' => e = .returned (.int .u8 s.source) ∧ ∃ n, w' = w.drewN n := by
  go_enter Tryz.func42, Tryz.ntmps42
  go_wp2_with (first | (go_at_call 60; refine (z_any b s _ (by exact h) o).mono ?_; rintro e w' ⟨rfl, n, rfl⟩) | (go_at_call 69; refine (value_any b s _ (by exact h) o _ o.z.1 o.z.2).mono ?_; rintro e w' ⟨rfl, n, rfl⟩))
  go_ret
  exact ⟨rfl, _, rfl⟩
set_option maxRecDepth 100000 in
theorem pushedPair_any (b : Nat) (s : St) (w : World) (h : Cp w b s) (o : s.Ok) (p : Int) (hp0 : 0 ≤ p) (hp1 : p ≤ 3) :
    Calls Tryz.prog 72 #[.pointer (some ⟨b, 0, none⟩), .int .u8 p] w fun e w' => e = .returned (.int .u16 (s.pushed p)) ∧ ∃ n, w' = w.drewN n := by
  have c6 : w.cell? ⟨b, 6, none⟩ = some (.int .u8 (s.r 6)) := h.cell 6
  have c7 : w.cell? ⟨b, 7, none⟩ = some (.int .u8 (s.r 7)) := h.cell 7
  have or61 := (o.r 6).1
  have or62 := (o.r 6).2
  have or71 := (o.r 7).1
  have or72 := (o.r 7).2
  have hp : p = 0 ∨ p = 1 ∨ p = 2 ∨ p = 3 := by omega
  clear hp0 hp1
  rcases hp with rfl | rfl | rfl | rfl
  all_goals go_enter Tryz.func72, Tryz.ntmps72
  all_goals go_wp2_with (first | (go_at_call 67; refine (pair_any b s _ (by exact h) o _ (by decide) (by decide)).mono ?_; rintro e w' ⟨rfl, n, rfl⟩))
  · go_ret
    exact ⟨rfl, _, rfl⟩
  · go_ret
    exact ⟨rfl, _, rfl⟩
  · go_ret
    exact ⟨rfl, _, rfl⟩
  · go_quiet (first | (go_at_call 68; exact Calls.quiet_of (wordOf_any _ _ _ (by assumption) (by assumption) (by assumption) (by assumption))))
    go_wp2
    go_ret
    exact ⟨rfl, _, rfl⟩
set_option maxRecDepth 100000 in
theorem pairLow_any (b : Nat) (s : St) (w : World) (h : Cp w b s) (o : s.Ok) :
    Calls Tryz.prog 52 #[.pointer (some ⟨b, 0, none⟩)] w fun e w' => e = .returned (.int .u8 (s.pushed s.p % 256)) ∧ ∃ n, w' = w.drewN n := by
  have hp := o.pushed s.p
  have hp1 := hp.1
  have hp2 := hp.2
  clear hp
  go_enter Tryz.func52, Tryz.ntmps52
  go_wp2_with fail
  go_quiet (first | (go_at_call 73; exact Calls.quiet_of (p_any b s _ (by exact h) o)) | (go_at_call 72; exact Calls.quiet_of (pushedPair_any b s _ (by exact h) o s.p o.p.1 o.p.2)))
  go_wp2
  go_ret
  exact ⟨rfl, _, rfl⟩
set_option maxRecDepth 100000 in
theorem pairHigh_any (b : Nat) (s : St) (w : World) (h : Cp w b s) (o : s.Ok) :
    Calls Tryz.prog 50 #[.pointer (some ⟨b, 0, none⟩)] w fun e w' => e = .returned (.int .u8 (s.pushed s.p / 256)) ∧ ∃ n, w' = w.drewN n := by
  have hp := o.pushed s.p
  have hp1 := hp.1
  have hp2 := hp.2
  clear hp
  go_enter Tryz.func50, Tryz.ntmps50
  go_wp2_with fail
  go_quiet (first | (go_at_call 73; exact Calls.quiet_of (p_any b s _ (by exact h) o)) | (go_at_call 72; exact Calls.quiet_of (pushedPair_any b s _ (by exact h) o s.p o.p.1 o.p.2)))
  go_wp2
  go_ret
  exact ⟨rfl, _, rfl⟩
end Go.Proofs.YtdkibohpdkdooaaGreatDoor
