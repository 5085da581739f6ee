/- The ports' buttons: what changes the key bits, and asks. -/
import Derived.Test.YteomldlmdpphaaaDoorPoC
namespace Go.Proofs.YteomldlmdpphaaaDoor
open Go.RowKit
set_option linter.unusedVariables false
variable {b : Nat} {p : Po}
theorem Fr.cell {b : Nat} {w w' : World} (h : Fr b w w') {g k : Nat} (hg : g < w.heap.size) (hb : g ≠ b) : w'.cell? ⟨g, k, none⟩ = w.cell? ⟨g, k, none⟩ := by
  unfold World.cell?
  rw [show (w'.heap[(⟨g, k, none⟩ : Addr).block]?) = w.heap[(⟨g, k, none⟩ : Addr).block]? from h.block _ hg hb]
def Po.keysThen (p q : Po) : Po := if bits .andNot .u8 p.keys q.keys = 0 then q else { q with rq := bits .or .u8 q.rq 16 }
theorem press1_any (x : Int) (x0 : 0 ≤ x) (x1 : x ≤ 255) (cx cp : Nat) (v : Value) (W : World) (h : PoAt W b p v) (hx : W.cell? ⟨cx, 0, none⟩ = some (.int .i64 x)) (hp : W.cell? ⟨cp, 0, none⟩ = some (.pointer (some ⟨b, 0, none⟩))) :
    Calls Tryd.prog 42 #[.pointer (some ⟨cx, 0, none⟩), .pointer (some ⟨cp, 0, none⟩)] W fun e w' => e = .returned (.tuple #[]) ∧ PoAt w' b { p with bu := x } v ∧ Fr b W w' := by
  have f0 := h.fz 0
  obtain ⟨c0, c1, c2, c3, c4, c5, c6, c7, c8, c9, c10, c11, c12⟩ := h.all
  have H : Hid (PoAt W b p v) := h
  clear h
  go_enter Tryd.func42, Tryd.ntmps42
  go_wp2
  go_end0
  exact ⟨rfl, PoAt.set H 0 _ rfl, (Fr.refl b W).setCell⟩
set_option maxRecDepth 100000 in
theorem pressW_any (x : Int) (x0 : 0 ≤ x) (x1 : x ≤ 255) (cx cp : Nat) (nx : cx ≠ b) (np : cp ≠ b) (o : p.Ok) (oq : ({ p with bu := x } : Po).Ok) (v : Value) (W : World) (h : PoAt W b p v) (hx : W.cell? ⟨cx, 0, none⟩ = some (.int .i64 x)) (hp : W.cell? ⟨cp, 0, none⟩ = some (.pointer (some ⟨b, 0, none⟩))) :
    Calls Tryd.prog 41 #[.pointer (some ⟨b, 0, none⟩), .func (.func 42) #[] #[.pointer (some ⟨cx, 0, none⟩), .pointer (some ⟨cp, 0, none⟩)]] W fun e w' => e = .returned (.tuple #[]) ∧ PoAt w' b (p.keysThen { p with bu := x }) v ∧ Fr b W w' := by
  have H : Hid (PoAt W b p v) := h
  have HX : Hid _ := hx
  have HP : Hid _ := hp
  have HK : Hid (∀ W, PoAt W b p v → Calls Tryd.prog 72 #[.pointer (some ⟨b, 0, none⟩)] W fun e w' => e = .returned (.int .u8 p.keys) ∧ PoAt w' b p v ∧ Fr b W w') := fun W => keys_any o v W
  have k0 := Po.keys_b o
  obtain ⟨Q, hQ⟩ : ∃ Q : Po, Q = { p with bu := x } := ⟨_, rfl⟩
  have HQ : Hid (∀ W, PoAt W b Q v → Calls Tryd.prog 72 #[.pointer (some ⟨b, 0, none⟩)] W fun e w' => e = .returned (.int .u8 Q.keys) ∧ PoAt w' b Q v ∧ Fr b W w') := fun W => by rw [hQ]; exact keys_any oq v W
  have HA : Hid (∀ W, PoAt W b Q v → Calls Tryd.prog 44 #[.pointer (some ⟨b, 0, none⟩), .int .i64 4] W fun e w' => e = .returned (.tuple #[]) ∧ PoAt w' b { Q with rq := bits .or .u8 Q.rq 16 } v ∧ Fr b W w') := fun W => ask4_any v W
  have HC : Hid (∀ W, PoAt W b p v → W.cell? ⟨cx, 0, none⟩ = some (.int .i64 x) → W.cell? ⟨cp, 0, none⟩ = some (.pointer (some ⟨b, 0, none⟩)) → Calls Tryd.prog 42 #[.pointer (some ⟨cx, 0, none⟩), .pointer (some ⟨cp, 0, none⟩)] W fun e w' => e = .returned (.tuple #[]) ∧ PoAt w' b Q v ∧ Fr b W w') := fun W h1 h2 h3 => by rw [hQ]; exact press1_any x x0 x1 cx cp v W h1 h2 h3
  have HE : Hid (p.keysThen { p with bu := x } = p.keysThen Q) := by rw [hQ]; exact rfl
  rw [HE.out]
  unfold Po.keysThen
  have lx : cx < W.heap.size := World.block_lt_of_cell? _ _ hx
  have lp : cp < W.heap.size := World.block_lt_of_cell? _ _ hp
  generalize p.keys = A at HK ⊢
  generalize Q.keys = B at HQ ⊢
  clear h hx hp hQ HE oq o k0
  go_enter Tryd.func41, Tryd.ntmps41
  go_wp2_with fail
  refine (HK.out _ H.out).mono ?_
  rintro e w1 ⟨rfl, h1, hF1⟩
  have H1 : Hid (PoAt w1 b p v ∧ Fr b W w1) := ⟨h1, hF1⟩
  clear h1 hF1
  go_wp2_with fail
  refine (HC.out _ H1.out.1 ((H1.out.2.cell lx nx).trans HX.out) ((H1.out.2.cell lp np).trans HP.out)).mono ?_
  rintro e w2 ⟨rfl, h2, hF2⟩
  have H2 : Hid (PoAt w2 b Q v ∧ Fr b W w2) := ⟨h2, H1.out.2.trans hF2⟩
  clear h2 hF2 H1
  go_wp2_with fail
  refine (HQ.out _ H2.out.1).mono ?_
  rintro e w3 ⟨rfl, h3, hF3⟩
  have H3 : Hid (PoAt w3 b Q v ∧ Fr b W w3) := ⟨h3, H2.out.2.trans hF3⟩
  clear h3 hF3 H2
  by_cases e : bits .andNot .u8 A B = 0
  · have eb : (bits .andNot .u8 A B != 0) = false := by rw [e]; rfl
    have HZ : Hid (bits .andNot .u8 A B = 0) := e
    clear e
    go_wp2_with fail
    go_end0
    exact ⟨rfl, by first | exact H3.out.1 | (rw [if_pos HZ.out]; exact H3.out.1), H3.out.2⟩
  · have eb : (bits .andNot .u8 A B != 0) = true := by simp; exact e
    have HZ : Hid (¬ bits .andNot .u8 A B = 0) := e
    clear e
    go_wp2_with fail
    refine (HA.out _ H3.out.1).mono ?_
    rintro e w4 ⟨rfl, h4, hF4⟩
    go_wp2_with fail
    go_end0
    exact ⟨rfl, by first | exact h4 | (rw [if_neg HZ.out]; exact h4), H3.out.2.trans hF4⟩
theorem rows1_any (x : Int) (x0 : 0 ≤ x) (x1 : x ≤ 255) (cx cp : Nat) (v : Value) (W : World) (h : PoAt W b p v) (hx : W.cell? ⟨cx, 0, none⟩ = some (.int .u8 x)) (hp : W.cell? ⟨cp, 0, none⟩ = some (.pointer (some ⟨b, 0, none⟩))) :
    Calls Tryd.prog 87 #[.pointer (some ⟨cx, 0, none⟩), .pointer (some ⟨cp, 0, none⟩)] W fun e w' => e = .returned (.tuple #[]) ∧ PoAt w' b { p with ro := bits .and .u8 x 48 } v ∧ Fr b W w' := by
  have f1 := h.fz 1
  obtain ⟨c0, c1, c2, c3, c4, c5, c6, c7, c8, c9, c10, c11, c12⟩ := h.all
  have H : Hid (PoAt W b p v) := h
  clear h
  go_enter Tryd.func87, Tryd.ntmps87
  go_wp2
  go_end0
  exact ⟨rfl, PoAt.set H 1 _ rfl, (Fr.refl b W).setCell⟩
set_option maxRecDepth 100000 in
theorem rowsW_any (x : Int) (x0 : 0 ≤ x) (x1 : x ≤ 255) (cx cp : Nat) (nx : cx ≠ b) (np : cp ≠ b) (o : p.Ok) (oq : ({ p with ro := bits .and .u8 x 48 } : Po).Ok) (v : Value) (W : World) (h : PoAt W b p v) (hx : W.cell? ⟨cx, 0, none⟩ = some (.int .u8 x)) (hp : W.cell? ⟨cp, 0, none⟩ = some (.pointer (some ⟨b, 0, none⟩))) :
    Calls Tryd.prog 41 #[.pointer (some ⟨b, 0, none⟩), .func (.func 87) #[] #[.pointer (some ⟨cx, 0, none⟩), .pointer (some ⟨cp, 0, none⟩)]] W fun e w' => e = .returned (.tuple #[]) ∧ PoAt w' b (p.keysThen { p with ro := bits .and .u8 x 48 }) v ∧ Fr b W w' := by
  have H : Hid (PoAt W b p v) := h
  have HX : Hid _ := hx
  have HP : Hid _ := hp
  have HK : Hid (∀ W, PoAt W b p v → Calls Tryd.prog 72 #[.pointer (some ⟨b, 0, none⟩)] W fun e w' => e = .returned (.int .u8 p.keys) ∧ PoAt w' b p v ∧ Fr b W w') := fun W => keys_any o v W
  have k0 := Po.keys_b o
  obtain ⟨Q, hQ⟩ : ∃ Q : Po, Q = { p with ro := bits .and .u8 x 48 } := ⟨_, rfl⟩
  have HQ : Hid (∀ W, PoAt W b Q v → Calls Tryd.prog 72 #[.pointer (some ⟨b, 0, none⟩)] W fun e w' => e = .returned (.int .u8 Q.keys) ∧ PoAt w' b Q v ∧ Fr b W w') := fun W => by rw [hQ]; exact keys_any oq v W
  have HA : Hid (∀ W, PoAt W b Q v → Calls Tryd.prog 44 #[.pointer (some ⟨b, 0, none⟩), .int .i64 4] W fun e w' => e = .returned (.tuple #[]) ∧ PoAt w' b { Q with rq := bits .or .u8 Q.rq 16 } v ∧ Fr b W w') := fun W => ask4_any v W
  have HC : Hid (∀ W, PoAt W b p v → W.cell? ⟨cx, 0, none⟩ = some (.int .u8 x) → W.cell? ⟨cp, 0, none⟩ = some (.pointer (some ⟨b, 0, none⟩)) → Calls Tryd.prog 87 #[.pointer (some ⟨cx, 0, none⟩), .pointer (some ⟨cp, 0, none⟩)] W fun e w' => e = .returned (.tuple #[]) ∧ PoAt w' b Q v ∧ Fr b W w') := fun W h1 h2 h3 => by rw [hQ]; exact rows1_any x x0 x1 cx cp v W h1 h2 h3
  have HE : Hid (p.keysThen { p with ro := bits .and .u8 x 48 } = p.keysThen Q) := by rw [hQ]; exact rfl
  rw [HE.out]
  unfold Po.keysThen
  have lx : cx < W.heap.size := World.block_lt_of_cell? _ _ hx
  have lp : cp < W.heap.size := World.block_lt_of_cell? _ _ hp
  generalize p.keys = A at HK ⊢
  generalize Q.keys = B at HQ ⊢
  clear h hx hp hQ HE oq o k0
  go_enter Tryd.func41, Tryd.ntmps41
  go_wp2_with fail
  refine (HK.out _ H.out).mono ?_
  rintro e w1 ⟨rfl, h1, hF1⟩
  have H1 : Hid (PoAt w1 b p v ∧ Fr b W w1) := ⟨h1, hF1⟩
  clear h1 hF1
  go_wp2_with fail
  refine (HC.out _ H1.out.1 ((H1.out.2.cell lx nx).trans HX.out) ((H1.out.2.cell lp np).trans HP.out)).mono ?_
  rintro e w2 ⟨rfl, h2, hF2⟩
  have H2 : Hid (PoAt w2 b Q v ∧ Fr b W w2) := ⟨h2, H1.out.2.trans hF2⟩
  clear h2 hF2 H1
  go_wp2_with fail
  refine (HQ.out _ H2.out.1).mono ?_
  rintro e w3 ⟨rfl, h3, hF3⟩
  have H3 : Hid (PoAt w3 b Q v ∧ Fr b W w3) := ⟨h3, H2.out.2.trans hF3⟩
  clear h3 hF3 H2
  by_cases e : bits .andNot .u8 A B = 0
  · have eb : (bits .andNot .u8 A B != 0) = false := by rw [e]; rfl
    have HZ : Hid (bits .andNot .u8 A B = 0) := e
    clear e
    go_wp2_with fail
    go_end0
    exact ⟨rfl, by first | exact H3.out.1 | (rw [if_pos HZ.out]; exact H3.out.1), H3.out.2⟩
  · have eb : (bits .andNot .u8 A B != 0) = true := by simp; exact e
    have HZ : Hid (¬ bits .andNot .u8 A B = 0) := e
    clear e
    go_wp2_with fail
    refine (HA.out _ H3.out.1).mono ?_
    rintro e w4 ⟨rfl, h4, hF4⟩
    go_wp2_with fail
    go_end0
    exact ⟨rfl, by first | exact h4 | (rw [if_neg HZ.out]; exact h4), H3.out.2.trans hF4⟩
theorem Po.Ok.press {p : Po} (o : p.Ok) (x : Int) (x0 : 0 ≤ x) (x1 : x ≤ 255) : ({ p with bu := x } : Po).Ok := { o with bu := ⟨x0, x1⟩ }
theorem and48 : ∀ x : Int, 0 ≤ x → x ≤ 255 → bits .and .u8 x 48 = 0 ∨ bits .and .u8 x 48 = 16 ∨ bits .and .u8 x 48 = 32 ∨ bits .and .u8 x 48 = 48 := byteAll (by decide +kernel)
theorem Po.Ok.rows {p : Po} (o : p.Ok) (x : Int) (x0 : 0 ≤ x) (x1 : x ≤ 255) : ({ p with ro := bits .and .u8 x 48 } : Po).Ok := { o with ro := and48 x x0 x1 }
theorem or16 : ∀ x : Int, 0 ≤ x → x ≤ 255 → x ≤ 31 → 0 ≤ bits .or .u8 x 16 ∧ bits .or .u8 x 16 ≤ 31 := byteAll (by decide +kernel)
theorem Po.Ok.keysThen {p q : Po} (o : q.Ok) : (p.keysThen q).Ok := by
  unfold Po.keysThen
  split
  · exact o
  · exact { o with rq := or16 q.rq o.rq.1 (by have := o.rq.2; omega) o.rq.2 }
end Go.Proofs.YteomldlmdpphaaaDoor
