/- The ports' timer: what drives it, its ticks and its alarm. -/
import Derived.Test.YteomldlmdpphaaaDoorPoD
namespace Go.Proofs.YteomldlmdpphaaaDoor
open Go.RowKit
set_option linter.unusedVariables false
variable {b : Nat} {p : Po}
/-- the table of drivers lies as it must -/
def LaidP (w : World) : Prop := 0 < w.heap.size ∧ w.cell? ⟨0, 0, none⟩ = some (.int .u64 9) ∧ w.cell? ⟨0, 1, none⟩ = some (.int .u64 3) ∧ w.cell? ⟨0, 2, none⟩ = some (.int .u64 5) ∧ w.cell? ⟨0, 3, none⟩ = some (.int .u64 7)
theorem Up.cell {w w' : World} (h : Up w w') {g k : Nat} (hg : g < w.heap.size) : w'.cell? ⟨g, k, none⟩ = w.cell? ⟨g, k, none⟩ := by
  unfold World.cell?
  rw [show (w'.heap[(⟨g, k, none⟩ : Addr).block]?) = w.heap[(⟨g, k, none⟩ : Addr).block]? from h.block _ hg]
theorem LaidP.up {w w' : World} (h : LaidP w) (u : Up w w') : LaidP w' :=
  ⟨Nat.lt_of_lt_of_le h.1 u.size, (u.cell h.1).trans h.2.1, (u.cell h.1).trans h.2.2.1, (u.cell h.1).trans h.2.2.2.1, (u.cell h.1).trans h.2.2.2.2⟩
theorem LaidP.fr {w w' : World} {b : Nat} (h : LaidP w) (u : Fr b w w') (hb : b ≠ 0) : LaidP w' :=
  ⟨Nat.lt_of_lt_of_le h.1 u.size, (u.cell h.1 (fun e => hb e.symm)).trans h.2.1, (u.cell h.1 (fun e => hb e.symm)).trans h.2.2.1, (u.cell h.1 (fun e => hb e.symm)).trans h.2.2.2.1, (u.cell h.1 (fun e => hb e.symm)).trans h.2.2.2.2⟩
def drv (ct : Int) : Int := if ct % 4 = 0 then 512 else if ct % 4 = 1 then 8 else if ct % 4 = 2 then 32 else 128
theorem ct8 {x : Int} (h : 0 ≤ x ∧ x ≤ 7) : x = 0 ∨ x = 1 ∨ x = 2 ∨ x = 3 ∨ x = 4 ∨ x = 5 ∨ x = 6 ∨ x = 7 := by omega
set_option maxRecDepth 100000 in
theorem driver_any (o : p.Ok) (v : Value) (W : World) (h : PoAt W b p v) (hL : LaidP W) :
    Calls Tryd.prog 69 #[.pointer (some ⟨b, 0, none⟩)] W fun e w' => e = .returned (.int .u16 (drv p.ct)) ∧ w' = W := by
  obtain ⟨c0, c1, c2, c3, c4, c5, c6, c7, c8, c9, c10, c11, c12⟩ := h.all
  obtain ⟨l0, l1, l2, l3, l4⟩ := hL
  have e0 : bits .and .u8 0 3 = 0 := by decide
  have e1 : bits .and .u8 1 3 = 1 := by decide
  have e2 : bits .and .u8 2 3 = 2 := by decide
  have e3 : bits .and .u8 3 3 = 3 := by decide
  have e4 : bits .and .u8 4 3 = 0 := by decide
  have e5 : bits .and .u8 5 3 = 1 := by decide
  have e6 : bits .and .u8 6 3 = 2 := by decide
  have e7 : bits .and .u8 7 3 = 3 := by decide
  clear h
  rcases ct8 o.ct with e | e | e | e | e | e | e | e
  all_goals
    rw [e] at c7 ⊢
    clear e
    go_enter Tryd.func69, Tryd.ntmps69
    go_wp2
    go_ret
    exact ⟨by first | rfl | exact ret1 (by decide), rfl⟩
def Po.tick (p : Po) : Po := if (p.ti + 1) % 256 = 0 then { p with ti := 0, al := 4 } else { p with ti := (p.ti + 1) % 256 }
set_option maxRecDepth 100000 in
theorem tick_any (o : p.Ok) : Does 70 [] b p (.tuple #[]) p.tick := by
  intro v W h
  show Calls Tryd.prog 70 #[.pointer (some ⟨b, 0, none⟩)] W _
  have t0 := o.ti.1
  have t1 := o.ti.2
  have f5 := h.fz 5
  have f9 := h.fz 9
  obtain ⟨c0, c1, c2, c3, c4, c5, c6, c7, c8, c9, c10, c11, c12⟩ := h.all
  have H : Hid (PoAt W b p v) := h
  clear h
  unfold Po.tick
  by_cases e : (p.ti + 1) % 256 = 0
  · have HE : Hid ((p.ti + 1) % 256 = 0) := e
    have eb : ((p.ti + 1) % 256 == 0) = true := by rw [e]; rfl
    rw [if_pos e]
    clear e
    go_enter Tryd.func70, Tryd.ntmps70
    go_wp2
    go_end0
    refine ⟨rfl, PoAt.set (p := { p with ti := 0 }) (PoAt.set (p := p) H 5 _ ?_) 9 _ rfl, (Fr.refl b W).setCell.setCell⟩
    first | rfl | (rw [HE.out]; rfl)
  · have eb : ((p.ti + 1) % 256 == 0) = false := by simp; exact e
    rw [if_neg e]
    clear e
    go_enter Tryd.func70, Tryd.ntmps70
    go_wp2
    go_end0
    exact ⟨rfl, PoAt.set (p := p) H 5 _ rfl, (Fr.refl b W).setCell⟩
theorem Po.Ok.tick (o : p.Ok) : p.tick.Ok := by
  unfold Po.tick
  split
  · exact { o with ti := (show (0 : Int) ≤ 0 ∧ (0 : Int) ≤ 255 by decide), al := (show (0 : Int) ≤ 4 ∧ (4 : Int) ≤ 4 by decide) }
  · exact { o with ti := (show 0 ≤ (p.ti + 1) % 256 ∧ (p.ti + 1) % 256 ≤ 255 by omega) }
def Po.ring (p : Po) : Po := { p with ti := p.ag, rq := bits .or .u8 p.rq 4 }
theorem or4 : ∀ x : Int, 0 ≤ x → x ≤ 255 → x ≤ 31 → 0 ≤ bits .or .u8 x 4 ∧ bits .or .u8 x 4 ≤ 31 := byteAll (by decide +kernel)
theorem Po.Ok.ring (o : p.Ok) : p.ring.Ok := { o with ti := o.ag, rq := or4 p.rq o.rq.1 (by have := o.rq.2; omega) o.rq.2 }
set_option maxRecDepth 100000 in
theorem ring_any : Does 33 [] b p (.tuple #[]) p.ring := by
  intro v W h
  show Calls Tryd.prog 33 #[.pointer (some ⟨b, 0, none⟩)] W _
  have f5 := h.fz 5
  obtain ⟨c0, c1, c2, c3, c4, c5, c6, c7, c8, c9, c10, c11, c12⟩ := h.all
  have H : Hid (PoAt W b p v) := h
  have HA : Hid (∀ W, PoAt W b { p with ti := p.ag } v → Calls Tryd.prog 44 #[.pointer (some ⟨b, 0, none⟩), .int .i64 2] W fun e w' => e = .returned (.tuple #[]) ∧ PoAt w' b { p with ti := p.ag, rq := bits .or .u8 p.rq 4 } v ∧ Fr b W w') := fun W h => ask2_any v W h
  clear h
  go_enter Tryd.func33, Tryd.ntmps33
  go_wp2_with fail
  refine (HA.out _ (PoAt.set (p := p) H 5 _ rfl)).mono ?_
  rintro e w2 ⟨rfl, h2, hF⟩
  have H2 : Hid _ := And.intro h2 hF
  clear h2 hF
  go_wp2_with fail
  go_end0
  exact ⟨rfl, H2.out.1, ((Fr.refl b W).setCell).trans H2.out.2⟩
end Go.Proofs.YteomldlmdpphaaaDoor
