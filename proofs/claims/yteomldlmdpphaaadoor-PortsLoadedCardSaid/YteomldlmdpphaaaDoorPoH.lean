/- The ports: writes that change the drive, or the key bits; buttons. -/
import Derived.Test.YteomldlmdpphaaaDoorPoG
namespace Go.Proofs.YteomldlmdpphaaaDoor
open Go.RowKit
set_option linter.unusedVariables false
variable {b : Nat} {p : Po}
def Po.driveThen (p q : Po) : Po := if p.drive && !q.drive then q.tick else q
theorem Po.Ok.driveThen {p q : Po} (o : q.Ok) : (p.driveThen q).Ok := by
  unfold Po.driveThen
  split
  · exact o.tick
  · exact o
theorem div1_any (cp : Nat) (v : Value) (W : World) (h : PoAt W b p v) (hp : W.cell? ⟨cp, 0, none⟩ = some (.pointer (some ⟨b, 0, none⟩))) :
    Calls Tryd.prog 89 #[.pointer (some ⟨cp, 0, none⟩)] W fun e w' => e = .returned (.tuple #[]) ∧ PoAt w' b { p with co := 0 } v ∧ Fr b W w' := by
  have f4 := h.fz 4
  obtain ⟨c0, c1, c2, c3, c4, c5, c6, c7, c8, c9, c10, c11, c12⟩ := h.all
  have H : Hid (PoAt W b p v) := h
  clear h
  go_enter Tryd.func89, Tryd.ntmps89
  go_wp2
  go_end0
  exact ⟨rfl, PoAt.set H 4 _ rfl, (Fr.refl b W).setCell⟩
set_option maxRecDepth 100000 in
theorem divW_any (cp : Nat) (np : cp ≠ b) (hb : b ≠ 0) (o : p.Ok) (oq : ({ p with co := 0 } : Po).Ok) (v : Value) (W : World) (h : PoAt W b p v) (hL : LaidP W) (hp : W.cell? ⟨cp, 0, none⟩ = some (.pointer (some ⟨b, 0, none⟩))) :
    Calls Tryd.prog 88 #[.pointer (some ⟨b, 0, none⟩), .func (.func 89) #[] #[.pointer (some ⟨cp, 0, none⟩)]] W fun e w' => e = .returned (.tuple #[]) ∧ PoAt w' b (p.driveThen { p with co := 0 }) v ∧ Fr b W w' := by
  have H : Hid (PoAt W b p v ∧ LaidP W) := ⟨h, hL⟩

  have HP : Hid _ := hp
  have HK : Hid (∀ W, PoAt W b p v → LaidP W → Calls Tryd.prog 97 #[.pointer (some ⟨b, 0, none⟩)] W fun e w' => e = .returned (.bool p.drive) ∧ PoAt w' b p v ∧ Fr b W w') := fun W h hL => drive_any o v W h hL
  obtain ⟨Q, hQ⟩ : ∃ Q : Po, Q = { p with co := 0 } := ⟨_, rfl⟩
  have HQ : Hid (∀ W, PoAt W b Q v → LaidP W → Calls Tryd.prog 97 #[.pointer (some ⟨b, 0, none⟩)] W fun e w' => e = .returned (.bool Q.drive) ∧ PoAt w' b Q v ∧ Fr b W w') := fun W h hL => by rw [hQ] at h ⊢; exact drive_any oq v W h hL
  have HA : Hid (∀ W, PoAt W b Q v → Calls Tryd.prog 70 #[.pointer (some ⟨b, 0, none⟩)] W fun e w' => e = .returned (.tuple #[]) ∧ PoAt w' b Q.tick v ∧ Fr b W w') := fun W h => by rw [hQ] at h ⊢; exact tick_any oq v W h
  have HC : Hid (∀ W, PoAt W b p v → W.cell? ⟨cp, 0, none⟩ = some (.pointer (some ⟨b, 0, none⟩)) → Calls Tryd.prog 89 #[.pointer (some ⟨cp, 0, none⟩)] W fun e w' => e = .returned (.tuple #[]) ∧ PoAt w' b Q v ∧ Fr b W w') := fun W h1 h3 => by rw [hQ]; exact div1_any cp v W h1 h3
  have HE : Hid (p.driveThen { p with co := 0 } = if p.drive && !Q.drive then Q.tick else Q) := by rw [hQ]; exact rfl

  have lp : cp < W.heap.size := World.block_lt_of_cell? _ _ hp
  rw [HE.out]
  clear h hL hp hQ HE oq o
  generalize p.drive = A at HK ⊢
  generalize Q.drive = B at HQ ⊢
  cases A <;> cases B
  all_goals
    go_enter Tryd.func88, Tryd.ntmps88
    go_wp2_with fail
    refine (HK.out _ H.out.1 H.out.2).mono ?_
    rintro e w1 ⟨rfl, h1, hF1⟩
    have H1 : Hid (PoAt w1 b p v ∧ Fr b W w1) := ⟨h1, hF1⟩
    clear h1 hF1
    go_wp2_with fail
    refine (HC.out _ H1.out.1 ((H1.out.2.cell lp np).trans HP.out)).mono ?_
    rintro e w2 ⟨rfl, h2, hF2⟩
    have H2 : Hid (PoAt w2 b Q v ∧ Fr b W w2 ∧ LaidP w2) := ⟨h2, H1.out.2.trans hF2, H.out.2.fr (H1.out.2.trans hF2) hb⟩
    clear h2 hF2 H1
    go_wp2_with (first
      | (go_at_call 97; refine (HQ.out _ H2.out.1 H2.out.2.2).mono ?_; rintro e w3 ⟨rfl, h3, hF3⟩
         have H3 : Hid (PoAt w3 b Q v ∧ Fr b W w3) := ⟨h3, H2.out.2.1.trans hF3⟩
         clear h3 hF3)
      | (go_at_call 70; refine (HA.out _ H3.out.1).mono ?_; rintro e w4 ⟨rfl, h4, hF4⟩
         have H4 : Hid (PoAt w4 b Q.tick v ∧ Fr b W w4) := ⟨h4, H3.out.2.trans hF4⟩
         clear h4 hF4))
    go_end0
    first
      | exact ⟨rfl, H4.out.1, H4.out.2⟩
      | exact ⟨rfl, H3.out.1, H3.out.2⟩
      | exact ⟨rfl, H2.out.1, H2.out.2.1⟩
theorem ctl1_any (x : Int) (x0 : 0 ≤ x) (x1 : x ≤ 255) (cx cp : Nat) (v : Value) (W : World) (h : PoAt W b p v) (hx : W.cell? ⟨cx, 0, none⟩ = some (.int .u8 x)) (hp : W.cell? ⟨cp, 0, none⟩ = some (.pointer (some ⟨b, 0, none⟩))) :
    Calls Tryd.prog 90 #[.pointer (some ⟨cx, 0, none⟩), .pointer (some ⟨cp, 0, none⟩)] W fun e w' => e = .returned (.tuple #[]) ∧ PoAt w' b { p with ct := x % 8 } v ∧ Fr b W w' := by
  have f7 := h.fz 7
  obtain ⟨c0, c1, c2, c3, c4, c5, c6, c7, c8, c9, c10, c11, c12⟩ := h.all
  have H : Hid (PoAt W b p v) := h
  clear h
  go_enter Tryd.func90, Tryd.ntmps90
  go_wp2
  go_end0
  exact ⟨rfl, PoAt.set H 7 _ rfl, (Fr.refl b W).setCell⟩
set_option maxRecDepth 100000 in
theorem ctlW_any (x : Int) (x0 : 0 ≤ x) (x1 : x ≤ 255) (cx cp : Nat) (nx : cx ≠ b) (np : cp ≠ b) (hb : b ≠ 0) (o : p.Ok) (oq : ({ p with ct := x % 8 } : Po).Ok) (v : Value) (W : World) (h : PoAt W b p v) (hL : LaidP W) (hx : W.cell? ⟨cx, 0, none⟩ = some (.int .u8 x)) (hp : W.cell? ⟨cp, 0, none⟩ = some (.pointer (some ⟨b, 0, none⟩))) :
    Calls Tryd.prog 88 #[.pointer (some ⟨b, 0, none⟩), .func (.func 90) #[] #[.pointer (some ⟨cx, 0, none⟩), .pointer (some ⟨cp, 0, none⟩)]] W fun e w' => e = .returned (.tuple #[]) ∧ PoAt w' b (p.driveThen { p with ct := x % 8 }) v ∧ Fr b W w' := by
  have H : Hid (PoAt W b p v ∧ LaidP W) := ⟨h, hL⟩
  have HX : Hid _ := hx
  have HP : Hid _ := hp
  have HK : Hid (∀ W, PoAt W b p v → LaidP W → Calls Tryd.prog 97 #[.pointer (some ⟨b, 0, none⟩)] W fun e w' => e = .returned (.bool p.drive) ∧ PoAt w' b p v ∧ Fr b W w') := fun W h hL => drive_any o v W h hL
  obtain ⟨Q, hQ⟩ : ∃ Q : Po, Q = { p with ct := x % 8 } := ⟨_, rfl⟩
  have HQ : Hid (∀ W, PoAt W b Q v → LaidP W → Calls Tryd.prog 97 #[.pointer (some ⟨b, 0, none⟩)] W fun e w' => e = .returned (.bool Q.drive) ∧ PoAt w' b Q v ∧ Fr b W w') := fun W h hL => by rw [hQ] at h ⊢; exact drive_any oq v W h hL
  have HA : Hid (∀ W, PoAt W b Q v → Calls Tryd.prog 70 #[.pointer (some ⟨b, 0, none⟩)] W fun e w' => e = .returned (.tuple #[]) ∧ PoAt w' b Q.tick v ∧ Fr b W w') := fun W h => by rw [hQ] at h ⊢; exact tick_any oq v W h
  have HC : Hid (∀ W, PoAt W b p v → W.cell? ⟨cx, 0, none⟩ = some (.int .u8 x) → W.cell? ⟨cp, 0, none⟩ = some (.pointer (some ⟨b, 0, none⟩)) → Calls Tryd.prog 90 #[.pointer (some ⟨cx, 0, none⟩), .pointer (some ⟨cp, 0, none⟩)] W fun e w' => e = .returned (.tuple #[]) ∧ PoAt w' b Q v ∧ Fr b W w') := fun W h1 h2 h3 => by rw [hQ]; exact ctl1_any x x0 x1 cx cp v W h1 h2 h3
  have HE : Hid (p.driveThen { p with ct := x % 8 } = if p.drive && !Q.drive then Q.tick else Q) := by rw [hQ]; exact rfl
  have lx : cx < W.heap.size := World.block_lt_of_cell? _ _ hx
  have lp : cp < W.heap.size := World.block_lt_of_cell? _ _ hp
  rw [HE.out]
  clear h hL hx hp hQ HE oq o
  generalize p.drive = A at HK ⊢
  generalize Q.drive = B at HQ ⊢
  cases A <;> cases B
  all_goals
    go_enter Tryd.func88, Tryd.ntmps88
    go_wp2_with fail
    refine (HK.out _ H.out.1 H.out.2).mono ?_
    rintro e w1 ⟨rfl, h1, hF1⟩
    have H1 : Hid (PoAt w1 b p v ∧ Fr b W w1) := ⟨h1, hF1⟩
    clear h1 hF1
    go_wp2_with fail
    refine (HC.out _ H1.out.1 ((H1.out.2.cell lx nx).trans HX.out) ((H1.out.2.cell lp np).trans HP.out)).mono ?_
    rintro e w2 ⟨rfl, h2, hF2⟩
    have H2 : Hid (PoAt w2 b Q v ∧ Fr b W w2 ∧ LaidP w2) := ⟨h2, H1.out.2.trans hF2, H.out.2.fr (H1.out.2.trans hF2) hb⟩
    clear h2 hF2 H1
    go_wp2_with (first
      | (go_at_call 97; refine (HQ.out _ H2.out.1 H2.out.2.2).mono ?_; rintro e w3 ⟨rfl, h3, hF3⟩
         have H3 : Hid (PoAt w3 b Q v ∧ Fr b W w3) := ⟨h3, H2.out.2.1.trans hF3⟩
         clear h3 hF3)
      | (go_at_call 70; refine (HA.out _ H3.out.1).mono ?_; rintro e w4 ⟨rfl, h4, hF4⟩
         have H4 : Hid (PoAt w4 b Q.tick v ∧ Fr b W w4) := ⟨h4, H3.out.2.trans hF4⟩
         clear h4 hF4))
    go_end0
    first
      | exact ⟨rfl, H4.out.1, H4.out.2⟩
      | exact ⟨rfl, H3.out.1, H3.out.2⟩
      | exact ⟨rfl, H2.out.1, H2.out.2.1⟩
end Go.Proofs.YteomldlmdpphaaaDoor
