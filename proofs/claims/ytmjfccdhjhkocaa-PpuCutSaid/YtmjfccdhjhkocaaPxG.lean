/- The picture switched off by a write. -/
import Derived.Test.YtmjfccdhjhkocaaPxF
namespace Go.Proofs.Ytmjfccdhjhkocaa
open Go.RowKit
set_option linter.unusedVariables false
variable {b : Nat} {p : Pic}
def Pic.off (p : Pic) (x : Int) : Pic := ((((p.setR 0 x).setR 4 0).setClk 0).clrS 23040).forget
set_option maxRecDepth 100000 in
set_option maxHeartbeats 2000000 in
theorem lcdcOff_any (x : Int) (on : p.has 128 = true) (hx : (p.setR 0 x).has 128 = false) (W : World) (h : PxAt W b p) :
    Calls Try.prog 60 #[.pointer (some ⟨b, 0, none⟩), .int .u8 x] W fun e w' => e = .returned (.tuple #[]) ∧ PxAt w' b (p.off x) ∧ Fr b W w' := by
  have HA : Hid (∀ W, PxAt W b p → Calls Try.prog 48 #[.pointer (some ⟨b, 0, none⟩), .int .u8 128] W fun e w' => e = .returned (.bool true) ∧ w' = W) := fun W h => by have := has_any 128 W h; rw [on] at this; exact this
  have HB : Hid (∀ W, PxAt W b (p.setR 0 x) → Calls Try.prog 48 #[.pointer (some ⟨b, 0, none⟩), .int .u8 128] W fun e w' => e = .returned (.bool false) ∧ w' = W) := fun W h => by have := has_any 128 W h; rw [hx] at this; exact this
  have k0 : W.cell? ⟨b, 8352, none⟩ = some (.int .u8 (p.rg 0)) := h.reg 0 (by decide)
  have f0 := h.fz 8352
  have HP : Hid (PxAt W b p) := h
  clear h on hx
  go_enter Try.func60, Try.ntmps60
  go_wp2_with fail
  refine (HA.out _ HP.out).mono ?_
  rintro e w' ⟨rfl, hw'⟩
  obtain rfl := hw'.symm
  go_wp2_with fail
  have h1 : PxAt (W.setCell ⟨b, 8352, none⟩ (.int .u8 x)) b (p.setR 0 x) := HP.out.set 8352 _ (fun j _ => Pic.cellR p 0 (by decide) x j)
  have F1 : Fr b W (W.setCell ⟨b, 8352, none⟩ (.int .u8 x)) := (Fr.refl b W).setCell
  generalize World.setCell W _ _ = w1 at h1 F1 ⊢
  have H1 : Hid _ := And.intro h1 F1
  have k4 : w1.cell? ⟨b, 8356, none⟩ = some (.int .u8 ((p.setR 0 x).rg 4)) := h1.reg 4 (by decide)
  have f4 := h1.fz 8356
  have kc := h1.clk
  have fc := h1.fz 8364
  clear h1 F1 HP HA k0 f0
  refine (HB.out _ H1.out.1).mono ?_
  rintro e w' ⟨rfl, hw'⟩
  obtain rfl := hw'.symm
  have hlaw : Hid (∀ w', w' = ((w1.setCell ⟨b, 8356, none⟩ (.int .u8 0)).setCell ⟨b, 8364, none⟩ (.int .i64 0)) → PxAt w' b (((p.setR 0 x).setR 4 0).setClk 0)) := fun w' e => by rw [e]; exact (H1.out.1.set 8356 _ (fun j _ => Pic.cellR _ 4 (by decide) 0 j)).set 8364 _ (fun j _ => Pic.cellClk _ 0 j)
  obtain ⟨w2, hrun, h2⟩ : ∃ w2, Sem.run Try.prog (Builtin.clear_ #[23] 0 #[.slice (some ⟨b, 31407, none⟩) 23040 23040]) ((w1.setCell ⟨b, 8356, none⟩ (.int .u8 0)).setCell ⟨b, 8364, none⟩ (.int .i64 0)) = .ok (.tuple #[]) w2 ∧ PxAt w2 b ((((p.setR 0 x).setR 4 0).setClk 0).clrS 23040) ∧ Fr b W w2 := by
    have hh := hlaw.out _ rfl
    have := hh.clearAllS rfl
    exact ⟨_, Lib.run_clear_slice (P := Try.prog) _ 23 5 0 (.int .u8 0) Try.underlying23 Try.zeroValue5 rfl rfl b 31407 23040 23040 (by decide) (fun j hj => hh.here _ (by omega)) (fun j hj => hh.fz _), this.1, H1.out.2.setCell.setCell.trans this.2⟩
  have H2 : Hid _ := h2
  clear h2 hlaw
  go_wp2_with fail
  refine (forget_any _ H2.out.1).mono ?_
  rintro e w3 ⟨rfl, h3, F3⟩
  have H3 : Hid _ := And.intro h3 (H2.out.2.trans F3)
  clear h3 F3
  go_wp2_with fail
  go_end0
  exact ⟨rfl, H3.out⟩
set_option maxRecDepth 100000 in
theorem wreg0Off_any (x : Int) (on : p.has 128 = true) (hx : (p.setR 0 x).has 128 = false) (W : World) (h : PxAt W b p) :
    Calls Try.prog 46 #[.pointer (some ⟨b, 0, none⟩), .int .i64 0, .int .u8 x] W fun e w' => e = .returned (.tuple #[]) ∧ PxAt w' b (p.off x) ∧ Fr b W w' := by
  have HC : Hid _ := lcdcOff_any x on hx W h
  clear h on hx
  go_enter Try.func46, Try.ntmps46
  go_wp2_with fail
  refine Calls.mono HC.out ?_
  rintro e w3 ⟨rfl, h3⟩
  have H3 : Hid _ := h3
  clear h3 HC
  go_wp2_with fail
  go_end0
  exact ⟨rfl, H3.out⟩
/-- off from the start -/
def offPic : Pic := newPic.off 0
theorem start_off (W : World) (h : PxAt W b newPic) : Calls Try.prog 18 #[.pointer (some ⟨b, 0, none⟩), .int .i64 65344, .int .i64 0] W fun e w' => e = .returned (.tuple #[]) ∧ PxAt w' b offPic ∧ Fr b W w' :=
  writeR_any 0 (by decide) 65344 0 rfl W h (fun W h => wreg0Off_any 0 (by decide) (by decide) W h)
end Go.Proofs.Ytmjfccdhjhkocaa
