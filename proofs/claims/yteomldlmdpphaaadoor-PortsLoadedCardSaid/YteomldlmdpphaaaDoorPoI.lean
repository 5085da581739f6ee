/- The ports: Press, and the writes to BUTTONS, DIVIDER and CONTROL. -/
import Derived.Test.YteomldlmdpphaaaDoorPoH
namespace Go.Proofs.YteomldlmdpphaaaDoor
open Go.RowKit
set_option linter.unusedVariables false
variable {b : Nat} {p : Po}
/-- two -/
theorem twoB (X W : World) (B0 L : Array Value) (t0 t3 : TypeId) (h : (X.alloc (.cells B0 t0)).alloc (.cells L t3) = W) :
    (∀ k, W.cell? ⟨X.heap.size, k, none⟩ = B0[k]?) ∧ (∀ k, W.cell? ⟨X.heap.size + 1, k, none⟩ = L[k]?) ∧ W.heap.size = X.heap.size + 1 + 1 ∧ Up X W := by
  generalize e1 : X.alloc (.cells B0 t0) = w1 at h
  have s1 : w1.heap.size = X.heap.size + 1 := by rw [← e1]; simp
  have u1 : Up X w1 := by rw [← e1]; exact (Up.refl X).alloc _
  have u4 : Up w1 W := by rw [← h]; exact (Up.refl w1).alloc _
  refine ⟨fun k => ?_, fun k => ?_, by rw [← h]; simp [s1], u1.trans u4⟩
  · rw [u4.cell (by omega), ← e1]; exact World.cell?_alloc_new X _ _ k
  · rw [← h, ← s1]; exact World.cell?_alloc_new w1 _ _ k
theorem oneB (X W : World) (B0 : Array Value) (t0 : TypeId) (h : X.alloc (.cells B0 t0) = W) : (∀ k, W.cell? ⟨X.heap.size, k, none⟩ = B0[k]?) ∧ Up X W := by
  refine ⟨fun k => ?_, by rw [← h]; exact (Up.refl X).alloc _⟩
  rw [← h]
  exact World.cell?_alloc_new X _ _ k
theorem Po.Ok.ctl {p : Po} (o : p.Ok) (x : Int) : ({ p with ct := x % 8 } : Po).Ok := { o with ct := (show 0 ≤ x % 8 ∧ x % 8 ≤ 7 by omega) }
theorem Po.Ok.div {p : Po} (o : p.Ok) : ({ p with co := 0 } : Po).Ok := { o with co := (show (0 : Int) ≤ 0 ∧ (0 : Int) ≤ 65535 by decide) }
theorem Fr.upThen {b : Nat} {x y z : World} (u : Up x y) (h : Fr b y z) : Fr b x z := (Fr.ofUp u).trans h
set_option maxRecDepth 100000 in
theorem press_any (x : Int) (x0 : 0 ≤ x) (x1 : x ≤ 255) (o : p.Ok) (hb : b ≠ 0) (v : Value) (W : World) (h : PoAt W b p v) :
    Calls Tryd.prog 20 #[.pointer (some ⟨b, 0, none⟩), .int .i64 x] W fun e w' => e = .returned (.int .i64 0) ∧ PoAt w' b (p.keysThen { p with bu := x }) v ∧ Fr b W w' := by
  have hmf : ∀ (fn : Fn) (first cap : Array Value) (w : World), (Instr.makeFunc fn first cap).run Tryd.prog w = .ok (.func fn first cap) w := fun _ _ _ _ => rfl
  have lb := h.lt
  have H : Hid (PoAt W b p v) := h
  clear h 
  go_enter Tryd.func20, Tryd.ntmps20
  go_wp2_with fail
  generalize hW2 : World.alloc (World.alloc W _) _ = W2
  have k := twoB W W2 _ _ _ _ hW2
  have u2 := k.2.2.2
  have HK : Hid (Up W W2) := u2
  refine (pressW_any x x0 x1 (W.heap.size + 1) W.heap.size (by omega) (by omega) o (o.press x x0 x1) v W2 (PoAt.up H.out u2) (by rw [k.2.1]; rfl) (by rw [k.1]; rfl)).mono ?_
  rintro e w3 ⟨rfl, h3, hF⟩
  have H3 : Hid (PoAt w3 b (p.keysThen { p with bu := x }) v ∧ Fr b W w3) := ⟨h3, Fr.upThen u2 hF⟩
  clear h3 hF k u2 hW2
  go_wp2_with fail
  go_ret
  exact ⟨rfl, H3.out.1, H3.out.2⟩
set_option maxRecDepth 100000 in
theorem rows_any (x : Int) (x0 : 0 ≤ x) (x1 : x ≤ 255) (o : p.Ok) (hb : b ≠ 0) (v : Value) (W : World) (h : PoAt W b p v) :
    Calls Tryd.prog 52 #[.pointer (some ⟨b, 0, none⟩), .int .u8 x] W fun e w' => e = .returned (.tuple #[]) ∧ PoAt w' b (p.keysThen { p with ro := bits .and .u8 x 48 }) v ∧ Fr b W w' := by
  have hmf : ∀ (fn : Fn) (first cap : Array Value) (w : World), (Instr.makeFunc fn first cap).run Tryd.prog w = .ok (.func fn first cap) w := fun _ _ _ _ => rfl
  have lb := h.lt
  have H : Hid (PoAt W b p v) := h
  clear h 
  go_enter Tryd.func52, Tryd.ntmps52
  go_wp2_with fail
  generalize hW2 : World.alloc (World.alloc W _) _ = W2
  have k := twoB W W2 _ _ _ _ hW2
  have u2 := k.2.2.2
  have HK : Hid (Up W W2) := u2
  refine (rowsW_any x x0 x1 (W.heap.size + 1) W.heap.size (by omega) (by omega) o (o.rows x x0 x1) v W2 (PoAt.up H.out u2) (by rw [k.2.1]; rfl) (by rw [k.1]; rfl)).mono ?_
  rintro e w3 ⟨rfl, h3, hF⟩
  have H3 : Hid (PoAt w3 b (p.keysThen { p with ro := bits .and .u8 x 48 }) v ∧ Fr b W w3) := ⟨h3, Fr.upThen u2 hF⟩
  clear h3 hF k u2 hW2
  go_wp2_with fail
  go_end0
  exact ⟨rfl, H3.out.1, H3.out.2⟩
set_option maxRecDepth 100000 in
theorem ctl_any (x : Int) (x0 : 0 ≤ x) (x1 : x ≤ 255) (o : p.Ok) (hb : b ≠ 0) (v : Value) (W : World) (h : PoAt W b p v) (hL : LaidP W) :
    Calls Tryd.prog 64 #[.pointer (some ⟨b, 0, none⟩), .int .u8 x] W fun e w' => e = .returned (.tuple #[]) ∧ PoAt w' b (p.driveThen { p with ct := x % 8 }) v ∧ Fr b W w' := by
  have hmf : ∀ (fn : Fn) (first cap : Array Value) (w : World), (Instr.makeFunc fn first cap).run Tryd.prog w = .ok (.func fn first cap) w := fun _ _ _ _ => rfl
  have lb := h.lt
  have H : Hid (PoAt W b p v ∧ LaidP W) := ⟨h, hL⟩
  clear h hL
  go_enter Tryd.func64, Tryd.ntmps64
  go_wp2_with fail
  generalize hW2 : World.alloc (World.alloc W _) _ = W2
  have k := twoB W W2 _ _ _ _ hW2
  have u2 := k.2.2.2
  have HK : Hid (Up W W2) := u2
  refine (ctlW_any x x0 x1 (W.heap.size + 1) W.heap.size (by omega) (by omega) hb o (o.ctl x) v W2 (PoAt.up H.out.1 u2) (H.out.2.up u2) (by rw [k.2.1]; rfl) (by rw [k.1]; rfl)).mono ?_
  rintro e w3 ⟨rfl, h3, hF⟩
  have H3 : Hid (PoAt w3 b (p.driveThen { p with ct := x % 8 }) v ∧ Fr b W w3) := ⟨h3, Fr.upThen u2 hF⟩
  clear h3 hF k u2 hW2
  go_wp2_with fail
  go_end0
  exact ⟨rfl, H3.out.1, H3.out.2⟩
set_option maxRecDepth 100000 in
theorem div_any (x : Int) (o : p.Ok) (hb : b ≠ 0) (v : Value) (W : World) (h : PoAt W b p v) (hL : LaidP W) :
    Calls Tryd.prog 58 #[.pointer (some ⟨b, 0, none⟩), .int .u8 x] W fun e w' => e = .returned (.tuple #[]) ∧ PoAt w' b (p.driveThen { p with co := 0 }) v ∧ Fr b W w' := by
  have hmf : ∀ (fn : Fn) (first cap : Array Value) (w : World), (Instr.makeFunc fn first cap).run Tryd.prog w = .ok (.func fn first cap) w := fun _ _ _ _ => rfl
  have lb := h.lt
  have H : Hid (PoAt W b p v ∧ LaidP W) := ⟨h, hL⟩
  clear h hL
  go_enter Tryd.func58, Tryd.ntmps58
  go_wp2_with fail
  generalize hW2 : World.alloc W _ = W2
  have k := oneB W W2 _ _ hW2
  have u2 := k.2
  refine (divW_any W.heap.size (by omega) hb o o.div v W2 (PoAt.up H.out.1 u2) (H.out.2.up u2) (by rw [k.1]; rfl)).mono ?_
  rintro e w3 ⟨rfl, h3, hF⟩
  have H3 : Hid (PoAt w3 b (p.driveThen { p with co := 0 }) v ∧ Fr b W w3) := ⟨h3, Fr.upThen u2 hF⟩
  clear h3 hF k u2 hW2
  go_wp2_with fail
  go_end0
  exact ⟨rfl, H3.out.1, H3.out.2⟩
/-- what BUTTONS reads -/
def Po.btn (p : Po) : Int := bits .or .u8 (bits .or .u8 192 p.ro) p.keys
set_option maxRecDepth 100000 in
theorem readButtons_any (o : p.Ok) : Does 51 [] b p (.int .u8 p.btn) p := by
  intro v W h
  show Calls Tryd.prog 51 #[.pointer (some ⟨b, 0, none⟩)] W _
  have HK : Hid (∀ W, PoAt W b p v → Calls Tryd.prog 72 #[.pointer (some ⟨b, 0, none⟩)] W fun e w' => e = .returned (.int .u8 p.keys) ∧ w' = W) := fun W => keys_same o v W
  obtain ⟨c0, c1, c2, c3, c4, c5, c6, c7, c8, c9, c10, c11, c12⟩ := h.all
  have H : Hid (PoAt W b p v) := h
  clear h
  unfold Po.btn
  go_enter Tryd.func51, Tryd.ntmps51
  go_wp2_with fail
  try dsimp only [List.append]
  go_quiet ((go_at_call 72; exact Calls.quiet_of_same (HK.out _ (by exact H.out))))
  go_wp2
  go_ret
  exact ⟨rfl, H.out.up (by first | exact Up.drewN W _ | exact (Up.refl W).drew | exact Up.refl W), Fr.ofUp (by first | exact Up.drewN W _ | exact (Up.refl W).drew | exact Up.refl W)⟩
end Go.Proofs.YteomldlmdpphaaaDoor
