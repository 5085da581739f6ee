/- The ports' timer: its drive; clocks that go by. -/
import Derived.Test.YteomldlmdpphaaaDoorPoE
namespace Go.Proofs.YteomldlmdpphaaaDoor
open Go.RowKit
set_option linter.unusedVariables false
variable {b : Nat} {p : Po}
theorem drv_b (x : Int) : drv x = 512 ∨ drv x = 8 ∨ drv x = 32 ∨ drv x = 128 := by
  unfold drv
  repeat' split
  all_goals simp
def Po.until (p : Po) : Int := if p.ct < 4 then 0 else 2 * drv p.ct - p.co % (2 * drv p.ct)
theorem ctF : ∀ x : Int, 0 ≤ x → x ≤ 255 → x ≤ 7 → (bits .and .u8 x 4 == 0) = decide (x < 4) := byteAll (by decide +kernel)
theorem ctF' : ∀ x : Int, 0 ≤ x → x ≤ 255 → x ≤ 7 → (bits .and .u8 x 4 != 0) = !decide (x < 4) := byteAll (by decide +kernel)
set_option maxRecDepth 100000 in
theorem until_any (o : p.Ok) (v : Value) (W : World) (h : PoAt W b p v) (hL : LaidP W) :
    Calls Tryd.prog 35 #[.pointer (some ⟨b, 0, none⟩)] W fun e w' => e = .returned (.int .i64 p.until) ∧ w' = W := by
  have ce := ctF p.ct o.ct.1 (by have := o.ct.2; omega) o.ct.2
  have HD : Hid (∀ W, PoAt W b p v → LaidP W → Calls Tryd.prog 69 #[.pointer (some ⟨b, 0, none⟩)] W fun e w' => e = .returned (.int .u16 (drv p.ct)) ∧ w' = W) := fun W h hL => driver_any o v W h hL
  obtain ⟨c0, c1, c2, c3, c4, c5, c6, c7, c8, c9, c10, c11, c12⟩ := h.all
  have k0 := o.co.1
  have k1 := o.co.2
  unfold Po.until
  by_cases e : p.ct < 4
  · rw [if_pos e]
    rw [decide_eq_true e] at ce
    clear e
    go_enter Tryd.func35, Tryd.ntmps35
    go_wp2
    go_ret
    exact ⟨rfl, rfl⟩
  · rw [if_neg e]
    rw [decide_eq_false e] at ce
    clear e
    have H : Hid _ := h
    have HL : Hid _ := hL
    have hd := drv_b p.ct
    generalize drv p.ct = D at HD hd ⊢
    clear h hL
    rcases hd with rfl | rfl | rfl | rfl
    all_goals
      go_enter Tryd.func35, Tryd.ntmps35
      go_wp2_with (first | (go_at_call 69; refine (HD.out _ (by exact H.out) (by exact HL.out)).mono ?_; rintro e w' ⟨rfl, hw'⟩; obtain rfl := hw'.symm))
      go_ret
      exact ⟨rfl, rfl⟩
theorem Po.until_b (o : p.Ok) : 0 ≤ p.until ∧ p.until ≤ 1024 := by
  have k0 := o.co.1
  unfold Po.until
  split
  · exact ⟨by decide, by decide⟩
  · have hd := drv_b p.ct
    rcases hd with e | e | e | e <;> rw [e] <;> omega
theorem w16 (a c : Int) : IntKind.u16.wrap (a + IntKind.u16.wrap c) = (a + c) % 65536 := by simp [IntKind.wrap, IntKind.bits, IntKind.signed]
def Po.count (p : Po) (c : Int) : Po := if c = p.until then ({ p with co := (p.co + c) % 65536 } : Po).tick else { p with co := (p.co + c) % 65536 }
theorem Po.Ok.adv (o : p.Ok) (c : Int) : ({ p with co := (p.co + c) % 65536 } : Po).Ok := { o with co := (show 0 ≤ (p.co + c) % 65536 ∧ (p.co + c) % 65536 ≤ 65535 by omega) }
theorem Po.Ok.count (o : p.Ok) (c : Int) : (p.count c).Ok := by
  unfold Po.count
  split
  · exact (o.adv c).tick
  · exact o.adv c
set_option maxRecDepth 100000 in
theorem count_any (o : p.Ok) (c : Int) (c0 : 0 ≤ c) (c1 : c ≤ 1000000) (v : Value) (W : World) (h : PoAt W b p v) (hL : LaidP W) :
    Calls Tryd.prog 37 #[.pointer (some ⟨b, 0, none⟩), .int .i64 c] W fun e w' => e = .returned (.tuple #[]) ∧ PoAt w' b (p.count c) v ∧ Fr b W w' := by
  have HU : Hid (∀ W, PoAt W b p v → LaidP W → Calls Tryd.prog 35 #[.pointer (some ⟨b, 0, none⟩)] W fun e w' => e = .returned (.int .i64 p.until) ∧ w' = W) := fun W h hL => until_any o v W h hL
  have HT : Hid (∀ W, PoAt W b { p with co := (p.co + c) % 65536 } v → Calls Tryd.prog 70 #[.pointer (some ⟨b, 0, none⟩)] W fun e w' => e = .returned (.tuple #[]) ∧ PoAt w' b ({ p with co := (p.co + c) % 65536 } : Po).tick v ∧ Fr b W w') := fun W h => tick_any (o.adv c) v W h
  have f4 := h.fz 4
  obtain ⟨k0, k1, k2, k3, k4, k5, k6, k7, k8, k9, k10, k11, k12⟩ := h.all
  have m0 := o.co.1
  have m1 := o.co.2
  have H : Hid (PoAt W b p v) := h
  have HL : Hid _ := hL
  have HE : Hid (p.count c = if c = p.until then ({ p with co := (p.co + c) % 65536 } : Po).tick else { p with co := (p.co + c) % 65536 }) := rfl
  clear h hL
  generalize p.until = U at HU HE
  by_cases e : c = U
  · have eb : (c == U) = true := by simp; exact e
    have HZ : Hid (c = U) := e
    clear e
    go_enter Tryd.func37, Tryd.ntmps37
    go_wp2_with fail
    refine (HU.out _ H.out HL.out).mono ?_
    rintro e w' ⟨rfl, hw'⟩
    obtain rfl := hw'.symm
    go_wp2_with fail
    rw [w16 p.co c]
    refine (HT.out _ (PoAt.set (p := p) H.out 4 _ rfl)).mono ?_
    rintro e w2 ⟨rfl, h2, hF⟩
    have H2 : Hid _ := And.intro h2 hF
    clear h2 hF
    go_wp2_with fail
    go_end0
    exact ⟨rfl, by rw [HE.out, if_pos HZ.out]; exact H2.out.1, ((Fr.refl b W).setCell).trans H2.out.2⟩
  · have eb : (c == U) = false := by simp; exact e
    have HZ : Hid (¬ c = U) := e
    clear e
    go_enter Tryd.func37, Tryd.ntmps37
    go_wp2_with fail
    refine (HU.out _ H.out HL.out).mono ?_
    rintro e w' ⟨rfl, hw'⟩
    obtain rfl := hw'.symm
    go_wp2_with fail
    rw [w16 p.co c]
    go_end0
    exact ⟨rfl, by rw [HE.out, if_neg HZ.out]; exact PoAt.set (p := p) H.out 4 _ rfl, (Fr.refl b W).setCell⟩
end Go.Proofs.YteomldlmdpphaaaDoor
