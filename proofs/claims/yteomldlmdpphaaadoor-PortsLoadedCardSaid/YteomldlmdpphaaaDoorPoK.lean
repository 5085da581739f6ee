/- The ports: requests that are raised and taken; what is asked. -/
import Derived.Test.YteomldlmdpphaaaDoorPoI
import Derived.StillTailTactics
namespace Go.Proofs.YteomldlmdpphaaaDoor
open Go.RowKit
set_option linter.unusedVariables false
variable {b : Nat} {p : Po}
theorem requests_any (o : p.Ok) : Does 18 [] b p (.int .i64 p.rq) p := by
  have r0 := o.rq.1
  have r1 := o.rq.2
  intro v W h
  obtain ⟨c0, c1, c2, c3, c4, c5, c6, c7, c8, c9, c10, c11, c12⟩ := h.all
  show Calls Tryd.prog 18 #[.pointer (some ⟨b, 0, none⟩)] W _
  have H : Hid (PoAt W b p v) := h
  clear h
  go_enter Tryd.func18, Tryd.ntmps18
  go_wp2
  go_ret
  exact ⟨rfl, H, Fr.refl _ _⟩
theorem isRequest_any (r : Int) (r0 : 0 ≤ r) (r1 : r ≤ 4) (W : World) : Calls Tryd.prog 30 #[.int .i64 r] W fun e w' => e = .returned (.bool true) ∧ w' = W := by
  have d1 : decide (0 ≤ r) = true := decide_eq_true r0
  have d2 : decide (r ≤ 4) = true := decide_eq_true r1
  go_enter Tryd.func30, Tryd.ntmps30
  go_wp2
  go_ret
  exact ⟨by first | rfl | exact retB (by simp [d1, d2]), rfl⟩
set_option maxRecDepth 100000 in
theorem take0_any : Does 16 [.int .i64 0] b p (.int .i64 0) { p with rq := bits .andNot .u8 p.rq 1 } := by
  intro v W h
  have f8 := h.fz 8
  obtain ⟨c0, c1, c2, c3, c4, c5, c6, c7, c8, c9, c10, c11, c12⟩ := h.all
  show Calls Tryd.prog 16 #[.pointer (some ⟨b, 0, none⟩), .int .i64 0] W _
  have HI : Hid (∀ W, Calls Tryd.prog 30 #[.int .i64 0] W fun e w' => e = .returned (.bool true) ∧ w' = W) := fun W => isRequest_any 0 (by decide) (by decide) W
  have H : Hid (PoAt W b p v) := h
  clear h
  go_enter Tryd.func16, Tryd.ntmps16
  go_wp2_with fail
  refine (HI.out _).mono ?_
  rintro e w' ⟨rfl, hw'⟩
  obtain rfl := hw'.symm
  go_wp2_with fail
  try dsimp only [List.append]
  go_still_tail 7, (by kernel_rfl)
  go_wp2
  go_ret
  exact ⟨rfl, PoAt.set H 8 _ rfl, ((Fr.refl b W).setCell).drew⟩
set_option maxRecDepth 100000 in
theorem raise0_any : Does 22 [.int .i64 0] b p (.int .i64 0) { p with rq := bits .or .u8 p.rq 1 } := by
  intro v W h
  show Calls Tryd.prog 22 #[.pointer (some ⟨b, 0, none⟩), .int .i64 0] W _
  have HI : Hid (∀ W, Calls Tryd.prog 30 #[.int .i64 0] W fun e w' => e = .returned (.bool true) ∧ w' = W) := fun W => isRequest_any 0 (by decide) (by decide) W
  have HA : Hid (∀ W, PoAt W b p v → Calls Tryd.prog 44 #[.pointer (some ⟨b, 0, none⟩), .int .i64 0] W fun e w' => e = .returned (.tuple #[]) ∧ PoAt w' b { p with rq := bits .or .u8 p.rq 1 } v ∧ Fr b W w') := fun W h => ask0_any v W h
  have H : Hid (PoAt W b p v) := h
  clear h
  go_enter Tryd.func22, Tryd.ntmps22
  go_wp2_with fail
  refine (HI.out _).mono ?_
  rintro e w' ⟨rfl, hw'⟩
  obtain rfl := hw'.symm
  go_wp2_with fail
  refine (HA.out _ H.out).mono ?_
  rintro e w2 ⟨rfl, h2, hF⟩
  have H2 : Hid _ := And.intro h2 hF
  clear h2 hF
  go_wp2_with fail
  go_ret
  exact ⟨rfl, H2.out.1, H2.out.2⟩
set_option maxRecDepth 100000 in
theorem take1_any : Does 16 [.int .i64 1] b p (.int .i64 0) { p with rq := bits .andNot .u8 p.rq 2 } := by
  intro v W h
  have f8 := h.fz 8
  obtain ⟨c0, c1, c2, c3, c4, c5, c6, c7, c8, c9, c10, c11, c12⟩ := h.all
  show Calls Tryd.prog 16 #[.pointer (some ⟨b, 0, none⟩), .int .i64 1] W _
  have HI : Hid (∀ W, Calls Tryd.prog 30 #[.int .i64 1] W fun e w' => e = .returned (.bool true) ∧ w' = W) := fun W => isRequest_any 1 (by decide) (by decide) W
  have H : Hid (PoAt W b p v) := h
  clear h
  go_enter Tryd.func16, Tryd.ntmps16
  go_wp2_with fail
  refine (HI.out _).mono ?_
  rintro e w' ⟨rfl, hw'⟩
  obtain rfl := hw'.symm
  go_wp2_with fail
  try dsimp only [List.append]
  go_still_tail 7, (by kernel_rfl)
  go_wp2
  go_ret
  exact ⟨rfl, PoAt.set H 8 _ rfl, ((Fr.refl b W).setCell).drew⟩
set_option maxRecDepth 100000 in
theorem raise1_any : Does 22 [.int .i64 1] b p (.int .i64 0) { p with rq := bits .or .u8 p.rq 2 } := by
  intro v W h
  show Calls Tryd.prog 22 #[.pointer (some ⟨b, 0, none⟩), .int .i64 1] W _
  have HI : Hid (∀ W, Calls Tryd.prog 30 #[.int .i64 1] W fun e w' => e = .returned (.bool true) ∧ w' = W) := fun W => isRequest_any 1 (by decide) (by decide) W
  have HA : Hid (∀ W, PoAt W b p v → Calls Tryd.prog 44 #[.pointer (some ⟨b, 0, none⟩), .int .i64 1] W fun e w' => e = .returned (.tuple #[]) ∧ PoAt w' b { p with rq := bits .or .u8 p.rq 2 } v ∧ Fr b W w') := fun W h => ask1_any v W h
  have H : Hid (PoAt W b p v) := h
  clear h
  go_enter Tryd.func22, Tryd.ntmps22
  go_wp2_with fail
  refine (HI.out _).mono ?_
  rintro e w' ⟨rfl, hw'⟩
  obtain rfl := hw'.symm
  go_wp2_with fail
  refine (HA.out _ H.out).mono ?_
  rintro e w2 ⟨rfl, h2, hF⟩
  have H2 : Hid _ := And.intro h2 hF
  clear h2 hF
  go_wp2_with fail
  go_ret
  exact ⟨rfl, H2.out.1, H2.out.2⟩
set_option maxRecDepth 100000 in
theorem take2_any : Does 16 [.int .i64 2] b p (.int .i64 0) { p with rq := bits .andNot .u8 p.rq 4 } := by
  intro v W h
  have f8 := h.fz 8
  obtain ⟨c0, c1, c2, c3, c4, c5, c6, c7, c8, c9, c10, c11, c12⟩ := h.all
  show Calls Tryd.prog 16 #[.pointer (some ⟨b, 0, none⟩), .int .i64 2] W _
  have HI : Hid (∀ W, Calls Tryd.prog 30 #[.int .i64 2] W fun e w' => e = .returned (.bool true) ∧ w' = W) := fun W => isRequest_any 2 (by decide) (by decide) W
  have H : Hid (PoAt W b p v) := h
  clear h
  go_enter Tryd.func16, Tryd.ntmps16
  go_wp2_with fail
  refine (HI.out _).mono ?_
  rintro e w' ⟨rfl, hw'⟩
  obtain rfl := hw'.symm
  go_wp2_with fail
  try dsimp only [List.append]
  go_still_tail 7, (by kernel_rfl)
  go_wp2
  go_ret
  exact ⟨rfl, PoAt.set H 8 _ rfl, ((Fr.refl b W).setCell).drew⟩
set_option maxRecDepth 100000 in
theorem raise2_any : Does 22 [.int .i64 2] b p (.int .i64 0) { p with rq := bits .or .u8 p.rq 4 } := by
  intro v W h
  show Calls Tryd.prog 22 #[.pointer (some ⟨b, 0, none⟩), .int .i64 2] W _
  have HI : Hid (∀ W, Calls Tryd.prog 30 #[.int .i64 2] W fun e w' => e = .returned (.bool true) ∧ w' = W) := fun W => isRequest_any 2 (by decide) (by decide) W
  have HA : Hid (∀ W, PoAt W b p v → Calls Tryd.prog 44 #[.pointer (some ⟨b, 0, none⟩), .int .i64 2] W fun e w' => e = .returned (.tuple #[]) ∧ PoAt w' b { p with rq := bits .or .u8 p.rq 4 } v ∧ Fr b W w') := fun W h => ask2_any v W h
  have H : Hid (PoAt W b p v) := h
  clear h
  go_enter Tryd.func22, Tryd.ntmps22
  go_wp2_with fail
  refine (HI.out _).mono ?_
  rintro e w' ⟨rfl, hw'⟩
  obtain rfl := hw'.symm
  go_wp2_with fail
  refine (HA.out _ H.out).mono ?_
  rintro e w2 ⟨rfl, h2, hF⟩
  have H2 : Hid _ := And.intro h2 hF
  clear h2 hF
  go_wp2_with fail
  go_ret
  exact ⟨rfl, H2.out.1, H2.out.2⟩
set_option maxRecDepth 100000 in
theorem take3_any : Does 16 [.int .i64 3] b p (.int .i64 0) { p with rq := bits .andNot .u8 p.rq 8 } := by
  intro v W h
  have f8 := h.fz 8
  obtain ⟨c0, c1, c2, c3, c4, c5, c6, c7, c8, c9, c10, c11, c12⟩ := h.all
  show Calls Tryd.prog 16 #[.pointer (some ⟨b, 0, none⟩), .int .i64 3] W _
  have HI : Hid (∀ W, Calls Tryd.prog 30 #[.int .i64 3] W fun e w' => e = .returned (.bool true) ∧ w' = W) := fun W => isRequest_any 3 (by decide) (by decide) W
  have H : Hid (PoAt W b p v) := h
  clear h
  go_enter Tryd.func16, Tryd.ntmps16
  go_wp2_with fail
  refine (HI.out _).mono ?_
  rintro e w' ⟨rfl, hw'⟩
  obtain rfl := hw'.symm
  go_wp2_with fail
  try dsimp only [List.append]
  go_still_tail 7, (by kernel_rfl)
  go_wp2
  go_ret
  exact ⟨rfl, PoAt.set H 8 _ rfl, ((Fr.refl b W).setCell).drew⟩
set_option maxRecDepth 100000 in
theorem raise3_any : Does 22 [.int .i64 3] b p (.int .i64 0) { p with rq := bits .or .u8 p.rq 8 } := by
  intro v W h
  show Calls Tryd.prog 22 #[.pointer (some ⟨b, 0, none⟩), .int .i64 3] W _
  have HI : Hid (∀ W, Calls Tryd.prog 30 #[.int .i64 3] W fun e w' => e = .returned (.bool true) ∧ w' = W) := fun W => isRequest_any 3 (by decide) (by decide) W
  have HA : Hid (∀ W, PoAt W b p v → Calls Tryd.prog 44 #[.pointer (some ⟨b, 0, none⟩), .int .i64 3] W fun e w' => e = .returned (.tuple #[]) ∧ PoAt w' b { p with rq := bits .or .u8 p.rq 8 } v ∧ Fr b W w') := fun W h => ask3_any v W h
  have H : Hid (PoAt W b p v) := h
  clear h
  go_enter Tryd.func22, Tryd.ntmps22
  go_wp2_with fail
  refine (HI.out _).mono ?_
  rintro e w' ⟨rfl, hw'⟩
  obtain rfl := hw'.symm
  go_wp2_with fail
  refine (HA.out _ H.out).mono ?_
  rintro e w2 ⟨rfl, h2, hF⟩
  have H2 : Hid _ := And.intro h2 hF
  clear h2 hF
  go_wp2_with fail
  go_ret
  exact ⟨rfl, H2.out.1, H2.out.2⟩
set_option maxRecDepth 100000 in
theorem take4_any : Does 16 [.int .i64 4] b p (.int .i64 0) { p with rq := bits .andNot .u8 p.rq 16 } := by
  intro v W h
  have f8 := h.fz 8
  obtain ⟨c0, c1, c2, c3, c4, c5, c6, c7, c8, c9, c10, c11, c12⟩ := h.all
  show Calls Tryd.prog 16 #[.pointer (some ⟨b, 0, none⟩), .int .i64 4] W _
  have HI : Hid (∀ W, Calls Tryd.prog 30 #[.int .i64 4] W fun e w' => e = .returned (.bool true) ∧ w' = W) := fun W => isRequest_any 4 (by decide) (by decide) W
  have H : Hid (PoAt W b p v) := h
  clear h
  go_enter Tryd.func16, Tryd.ntmps16
  go_wp2_with fail
  refine (HI.out _).mono ?_
  rintro e w' ⟨rfl, hw'⟩
  obtain rfl := hw'.symm
  go_wp2_with fail
  try dsimp only [List.append]
  go_still_tail 7, (by kernel_rfl)
  go_wp2
  go_ret
  exact ⟨rfl, PoAt.set H 8 _ rfl, ((Fr.refl b W).setCell).drew⟩
set_option maxRecDepth 100000 in
theorem raise4_any : Does 22 [.int .i64 4] b p (.int .i64 0) { p with rq := bits .or .u8 p.rq 16 } := by
  intro v W h
  show Calls Tryd.prog 22 #[.pointer (some ⟨b, 0, none⟩), .int .i64 4] W _
  have HI : Hid (∀ W, Calls Tryd.prog 30 #[.int .i64 4] W fun e w' => e = .returned (.bool true) ∧ w' = W) := fun W => isRequest_any 4 (by decide) (by decide) W
  have HA : Hid (∀ W, PoAt W b p v → Calls Tryd.prog 44 #[.pointer (some ⟨b, 0, none⟩), .int .i64 4] W fun e w' => e = .returned (.tuple #[]) ∧ PoAt w' b { p with rq := bits .or .u8 p.rq 16 } v ∧ Fr b W w') := fun W h => ask4_any v W h
  have H : Hid (PoAt W b p v) := h
  clear h
  go_enter Tryd.func22, Tryd.ntmps22
  go_wp2_with fail
  refine (HI.out _).mono ?_
  rintro e w' ⟨rfl, hw'⟩
  obtain rfl := hw'.symm
  go_wp2_with fail
  refine (HA.out _ H.out).mono ?_
  rintro e w2 ⟨rfl, h2, hF⟩
  have H2 : Hid _ := And.intro h2 hF
  clear h2 hF
  go_wp2_with fail
  go_ret
  exact ⟨rfl, H2.out.1, H2.out.2⟩
end Go.Proofs.YteomldlmdpphaaaDoor
