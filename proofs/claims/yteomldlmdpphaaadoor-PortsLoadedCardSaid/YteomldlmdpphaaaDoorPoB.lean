/- The ports' small calls: each by what it does to the plain ports. -/
import Derived.Test.YteomldlmdpphaaaDoorPoA
import Derived.StillTailTactics
namespace Go.Proofs.YteomldlmdpphaaaDoor
open Go.RowKit
set_option linter.unusedVariables false
/-- a call on the ports: what it gives back, and what becomes of them; no other block is touched -/
def Does (f : Nat) (args : List Value) (b : Nat) (p : Po) (r : Value) (q : Po) : Prop :=
  ∀ (v : Value) (W : World), PoAt W b p v → Calls Tryd.prog f (Value.pointer (some ⟨b, 0, none⟩) :: args).toArray W fun e w' => e = .returned r ∧ PoAt w' b q v ∧ Fr b W w'
theorem Fr.drew {b : Nat} {x y : World} (h : Fr b x y) : Fr b x y.drew := ⟨h.os, h.output, h.size, h.block⟩
variable {b : Nat} {p : Po}
theorem readShift_any (o : p.Ok) : Does 53 [] b p (.int .u8 (p.sh)) p := by
  intro v W h
  obtain ⟨c0, c1, c2, c3, c4, c5, c6, c7, c8, c9, c10, c11, c12⟩ := h.all
  show Calls Tryd.prog 53 #[.pointer (some ⟨b, 0, none⟩)] W _
  have H : Hid (PoAt W b p v) := h
  clear h
  go_enter Tryd.func53, Tryd.ntmps53
  go_wp2
  go_ret
  exact ⟨rfl, H, Fr.refl _ _⟩
theorem readTimer_any (o : p.Ok) : Does 59 [] b p (.int .u8 (p.ti)) p := by
  intro v W h
  obtain ⟨c0, c1, c2, c3, c4, c5, c6, c7, c8, c9, c10, c11, c12⟩ := h.all
  show Calls Tryd.prog 59 #[.pointer (some ⟨b, 0, none⟩)] W _
  have H : Hid (PoAt W b p v) := h
  clear h
  go_enter Tryd.func59, Tryd.ntmps59
  go_wp2
  go_ret
  exact ⟨rfl, H, Fr.refl _ _⟩
theorem readAgain_any (o : p.Ok) : Does 61 [] b p (.int .u8 (p.ag)) p := by
  intro v W h
  obtain ⟨c0, c1, c2, c3, c4, c5, c6, c7, c8, c9, c10, c11, c12⟩ := h.all
  show Calls Tryd.prog 61 #[.pointer (some ⟨b, 0, none⟩)] W _
  have H : Hid (PoAt W b p v) := h
  clear h
  go_enter Tryd.func61, Tryd.ntmps61
  go_wp2
  go_ret
  exact ⟨rfl, H, Fr.refl _ _⟩
theorem readLine_any (o : p.Ok) : Does 55 [] b p (.int .u8 (bits .or .u8 p.li 126)) p := by
  intro v W h
  obtain ⟨c0, c1, c2, c3, c4, c5, c6, c7, c8, c9, c10, c11, c12⟩ := h.all
  show Calls Tryd.prog 55 #[.pointer (some ⟨b, 0, none⟩)] W _
  have H : Hid (PoAt W b p v) := h
  clear h
  go_enter Tryd.func55, Tryd.ntmps55
  go_wp2
  go_ret
  exact ⟨rfl, H, Fr.refl _ _⟩
theorem readControl_any (o : p.Ok) : Does 63 [] b p (.int .u8 (bits .or .u8 p.ct 248)) p := by
  intro v W h
  obtain ⟨c0, c1, c2, c3, c4, c5, c6, c7, c8, c9, c10, c11, c12⟩ := h.all
  show Calls Tryd.prog 63 #[.pointer (some ⟨b, 0, none⟩)] W _
  have H : Hid (PoAt W b p v) := h
  clear h
  go_enter Tryd.func63, Tryd.ntmps63
  go_wp2
  go_ret
  exact ⟨rfl, H, Fr.refl _ _⟩
theorem readRequests_any (o : p.Ok) : Does 65 [] b p (.int .u8 (bits .or .u8 p.rq 224)) p := by
  intro v W h
  obtain ⟨c0, c1, c2, c3, c4, c5, c6, c7, c8, c9, c10, c11, c12⟩ := h.all
  show Calls Tryd.prog 65 #[.pointer (some ⟨b, 0, none⟩)] W _
  have H : Hid (PoAt W b p v) := h
  clear h
  go_enter Tryd.func65, Tryd.ntmps65
  go_wp2
  go_ret
  exact ⟨rfl, H, Fr.refl _ _⟩
theorem readDivider_any (o : p.Ok) : Does 57 [] b p (.int .u8 (p.co / 256)) p := by
  have h0 := o.co.1
  have h1 := o.co.2
  intro v W h
  obtain ⟨c0, c1, c2, c3, c4, c5, c6, c7, c8, c9, c10, c11, c12⟩ := h.all
  show Calls Tryd.prog 57 #[.pointer (some ⟨b, 0, none⟩)] W _
  have H : Hid (PoAt W b p v) := h
  clear h
  go_enter Tryd.func57, Tryd.ntmps57
  go_wp2
  go_ret
  exact ⟨rfl, H, Fr.refl _ _⟩
theorem writeShift_any (x : Int) (x0 : 0 ≤ x) (x1 : x ≤ 255) : Does 54 [.int .u8 x] b p (.tuple #[]) { p with sh := x } := by
  intro v W h
  have f2 := h.fz 2
  obtain ⟨c0, c1, c2, c3, c4, c5, c6, c7, c8, c9, c10, c11, c12⟩ := h.all
  show Calls Tryd.prog 54 #[.pointer (some ⟨b, 0, none⟩), .int .u8 x] W _
  have H : Hid (PoAt W b p v) := h
  clear h
  go_enter Tryd.func54, Tryd.ntmps54
  go_wp2
  go_end0
  exact ⟨rfl, (PoAt.set (q := { p with sh := x }) H 2 _ rfl), (Fr.refl b W).setCell⟩
theorem writeAgain_any (x : Int) (x0 : 0 ≤ x) (x1 : x ≤ 255) : Does 62 [.int .u8 x] b p (.tuple #[]) { p with ag := x } := by
  intro v W h
  have f6 := h.fz 6
  obtain ⟨c0, c1, c2, c3, c4, c5, c6, c7, c8, c9, c10, c11, c12⟩ := h.all
  show Calls Tryd.prog 62 #[.pointer (some ⟨b, 0, none⟩), .int .u8 x] W _
  have H : Hid (PoAt W b p v) := h
  clear h
  go_enter Tryd.func62, Tryd.ntmps62
  go_wp2
  go_end0
  exact ⟨rfl, (PoAt.set (q := { p with ag := x }) H 6 _ rfl), (Fr.refl b W).setCell⟩
theorem writeTimer_any (x : Int) (x0 : 0 ≤ x) (x1 : x ≤ 255) : Does 60 [.int .u8 x] b p (.tuple #[]) { p with ti := x, al := 0 } := by
  intro v W h
  have f5 := h.fz 5
  have f9 := h.fz 9
  obtain ⟨c0, c1, c2, c3, c4, c5, c6, c7, c8, c9, c10, c11, c12⟩ := h.all
  show Calls Tryd.prog 60 #[.pointer (some ⟨b, 0, none⟩), .int .u8 x] W _
  have H : Hid (PoAt W b p v) := h
  clear h
  go_enter Tryd.func60, Tryd.ntmps60
  go_wp2
  go_end0
  exact ⟨rfl, (PoAt.set (q := { p with ti := x, al := 0 }) (PoAt.set (q := { p with ti := x }) H 5 _ rfl) 9 _ rfl), (Fr.refl b W).setCell.setCell⟩
theorem writeRequests_any (x : Int) (x0 : 0 ≤ x) (x1 : x ≤ 255) : Does 66 [.int .u8 x] b p (.tuple #[]) { p with rq := x % 32 } := by
  intro v W h
  have f8 := h.fz 8
  obtain ⟨c0, c1, c2, c3, c4, c5, c6, c7, c8, c9, c10, c11, c12⟩ := h.all
  show Calls Tryd.prog 66 #[.pointer (some ⟨b, 0, none⟩), .int .u8 x] W _
  have H : Hid (PoAt W b p v) := h
  clear h
  go_enter Tryd.func66, Tryd.ntmps66
  go_wp2
  go_end0
  exact ⟨rfl, (PoAt.set (q := { p with rq := x % 32 }) H 8 _ rfl), (Fr.refl b W).setCell⟩
theorem writeLine_any (x : Int) (x0 : 0 ≤ x) (x1 : x ≤ 255) : Does 56 [.int .u8 x] b p (.tuple #[]) (if bits .and .u8 x 129 = 129 then { p with li := 129, tr := 4096, se := p.sh } else { p with li := bits .and .u8 x 129, tr := 0, se := 0 }) := by
  by_cases e : bits .and .u8 x 129 = 129
  · rw [if_pos e]
    have eb : (bits .and .u8 x 129 == 129) = true := by rw [e]; rfl
    intro v W h
    have f3 := h.fz 3
    have f10 := h.fz 10
    have f11 := h.fz 11
    obtain ⟨c0, c1, c2, c3, c4, c5, c6, c7, c8, c9, c10, c11, c12⟩ := h.all
    show Calls Tryd.prog 56 #[.pointer (some ⟨b, 0, none⟩), .int .u8 x] W _
    have H : Hid (PoAt W b p v) := h
    clear h
    go_enter Tryd.func56, Tryd.ntmps56
    go_wp2
    go_end0
    refine ⟨rfl, ?_, ?_⟩
    · refine PoAt.set (p := { p with li := 129, tr := 4096, se := 0 }) (PoAt.set (p := { p with li := 129, tr := 0, se := 0 }) (PoAt.set (p := { p with li := 129, tr := 0 }) (PoAt.set (p := { p with li := 129 }) (PoAt.set (p := p) H 3 _ ?_) 10 _ rfl) 11 _ rfl) 10 _ rfl) 11 _ rfl
      rfl
    · exact (Fr.refl b W).setCell.setCell.setCell.setCell.setCell
  · rw [if_neg e]
    have eb : (bits .and .u8 x 129 == 129) = false := by simp; exact e
    intro v W h
    have f3 := h.fz 3
    have f10 := h.fz 10
    have f11 := h.fz 11
    obtain ⟨c0, c1, c2, c3, c4, c5, c6, c7, c8, c9, c10, c11, c12⟩ := h.all
    show Calls Tryd.prog 56 #[.pointer (some ⟨b, 0, none⟩), .int .u8 x] W _
    have H : Hid (PoAt W b p v) := h
    clear h
    go_enter Tryd.func56, Tryd.ntmps56
    go_wp2
    go_end0
    exact ⟨rfl, PoAt.set (p := { p with li := bits .and .u8 x 129, tr := 0 }) (PoAt.set (p := { p with li := bits .and .u8 x 129 }) (PoAt.set (p := p) H 3 _ rfl) 10 _ rfl) 11 _ rfl, (Fr.refl b W).setCell.setCell.setCell⟩
set_option maxRecDepth 100000 in
theorem ask0_any : Does 44 [.int .i64 0] b p (.tuple #[]) { p with rq := bits .or .u8 p.rq 1 } := by
  intro v W h
  have f8 := h.fz 8
  obtain ⟨c0, c1, c2, c3, c4, c5, c6, c7, c8, c9, c10, c11, c12⟩ := h.all
  show Calls Tryd.prog 44 #[.pointer (some ⟨b, 0, none⟩), .int .i64 0] W _
  have H : Hid (PoAt W b p v) := h
  clear h
  go_enter Tryd.func44, Tryd.ntmps44
  go_wp2_with fail
  try dsimp only [List.append]
  go_still_tail 7, (by kernel_rfl)
  go_wp2
  go_end0
  exact ⟨rfl, PoAt.set H 8 _ rfl, ((Fr.refl b W).setCell).drew⟩
set_option maxRecDepth 100000 in
theorem ask1_any : Does 44 [.int .i64 1] b p (.tuple #[]) { p with rq := bits .or .u8 p.rq 2 } := by
  intro v W h
  have f8 := h.fz 8
  obtain ⟨c0, c1, c2, c3, c4, c5, c6, c7, c8, c9, c10, c11, c12⟩ := h.all
  show Calls Tryd.prog 44 #[.pointer (some ⟨b, 0, none⟩), .int .i64 1] W _
  have H : Hid (PoAt W b p v) := h
  clear h
  go_enter Tryd.func44, Tryd.ntmps44
  go_wp2_with fail
  try dsimp only [List.append]
  go_still_tail 7, (by kernel_rfl)
  go_wp2
  go_end0
  exact ⟨rfl, PoAt.set H 8 _ rfl, ((Fr.refl b W).setCell).drew⟩
set_option maxRecDepth 100000 in
theorem ask2_any : Does 44 [.int .i64 2] b p (.tuple #[]) { p with rq := bits .or .u8 p.rq 4 } := by
  intro v W h
  have f8 := h.fz 8
  obtain ⟨c0, c1, c2, c3, c4, c5, c6, c7, c8, c9, c10, c11, c12⟩ := h.all
  show Calls Tryd.prog 44 #[.pointer (some ⟨b, 0, none⟩), .int .i64 2] W _
  have H : Hid (PoAt W b p v) := h
  clear h
  go_enter Tryd.func44, Tryd.ntmps44
  go_wp2_with fail
  try dsimp only [List.append]
  go_still_tail 7, (by kernel_rfl)
  go_wp2
  go_end0
  exact ⟨rfl, PoAt.set H 8 _ rfl, ((Fr.refl b W).setCell).drew⟩
set_option maxRecDepth 100000 in
theorem ask3_any : Does 44 [.int .i64 3] b p (.tuple #[]) { p with rq := bits .or .u8 p.rq 8 } := by
  intro v W h
  have f8 := h.fz 8
  obtain ⟨c0, c1, c2, c3, c4, c5, c6, c7, c8, c9, c10, c11, c12⟩ := h.all
  show Calls Tryd.prog 44 #[.pointer (some ⟨b, 0, none⟩), .int .i64 3] W _
  have H : Hid (PoAt W b p v) := h
  clear h
  go_enter Tryd.func44, Tryd.ntmps44
  go_wp2_with fail
  try dsimp only [List.append]
  go_still_tail 7, (by kernel_rfl)
  go_wp2
  go_end0
  exact ⟨rfl, PoAt.set H 8 _ rfl, ((Fr.refl b W).setCell).drew⟩
set_option maxRecDepth 100000 in
theorem ask4_any : Does 44 [.int .i64 4] b p (.tuple #[]) { p with rq := bits .or .u8 p.rq 16 } := by
  intro v W h
  have f8 := h.fz 8
  obtain ⟨c0, c1, c2, c3, c4, c5, c6, c7, c8, c9, c10, c11, c12⟩ := h.all
  show Calls Tryd.prog 44 #[.pointer (some ⟨b, 0, none⟩), .int .i64 4] W _
  have H : Hid (PoAt W b p v) := h
  clear h
  go_enter Tryd.func44, Tryd.ntmps44
  go_wp2_with fail
  try dsimp only [List.append]
  go_still_tail 7, (by kernel_rfl)
  go_wp2
  go_end0
  exact ⟨rfl, PoAt.set H 8 _ rfl, ((Fr.refl b W).setCell).drew⟩
end Go.Proofs.YteomldlmdpphaaaDoor
