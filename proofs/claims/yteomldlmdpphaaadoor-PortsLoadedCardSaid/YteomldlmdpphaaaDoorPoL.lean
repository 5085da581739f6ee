/- The ports: Read. -/
import Derived.Test.YteomldlmdpphaaaDoorPoJ
namespace Go.Proofs.YteomldlmdpphaaaDoor
open Go.RowKit
set_option linter.unusedVariables false
variable {b : Nat} {p : Po}
set_option maxRecDepth 100000 in
set_option maxHeartbeats 1000000 in
theorem read65280 (o : p.Ok) (x : Int) (hx : p.btn = x) (x0 : 0 ≤ x) (x1 : x ≤ 255) (v : Value) (W : World) (h : PoAt W b p v) :
    Calls Tryd.prog 19 #[.pointer (some ⟨b, 0, none⟩), .int .i64 65280] W fun e w' => e = .returned (.tuple #[.int .i64 x, .int .i64 0]) ∧ PoAt w' b p v ∧ Fr b W w' := by
  have HP : Hid (∀ W, Calls Tryd.prog 29 #[.int .i64 65280] W fun e w' => e = .returned (.tuple #[.agg #[.func (.func 51) #[] #[], .func (.func 52) #[] #[]], .bool true]) ∧ Up W w') := fun W => at65280 W
  have HR : Hid (∀ W, PoAt W b p v → Calls Tryd.prog 51 #[.pointer (some ⟨b, 0, none⟩)] W fun e w' => e = .returned (.int .u8 x) ∧ PoAt w' b p v ∧ Fr b W w') := fun W h => by rw [← hx]; exact readButtons_any o v W h
  have H : Hid (PoAt W b p v) := h
  have lb := h.lt
  clear h hx
  go_enter Tryd.func19, Tryd.ntmps19
  go_wp2_with fail
  refine (HP.out _).mono ?_
  rintro e w2 ⟨rfl, hu2⟩
  go_wp2_with fail
  refine (HR.out _ ((H.out.up hu2).up ((Up.refl w2).alloc _))).mono ?_
  rintro e w3 ⟨rfl, h3, hF⟩
  have H3 : Hid (PoAt w3 b p v ∧ Fr b W w3) := ⟨h3, (Fr.ofUp (hu2.trans ((Up.refl w2).alloc _))).trans hF⟩
  clear h3 hF hu2
  go_wp2_with fail
  go_ret2
  exact ⟨rfl, H3.out.1, H3.out.2⟩
set_option maxRecDepth 100000 in
set_option maxHeartbeats 1000000 in
theorem write65280 (o : p.Ok) (hb : b ≠ 0) (x : Int) (x0 : 0 ≤ x) (x1 : x ≤ 255) (v : Value) (W : World) (h : PoAt W b p v) (hL : LaidP W) :
    Calls Tryd.prog 15 #[.pointer (some ⟨b, 0, none⟩), .int .i64 65280, .int .i64 x] W fun e w' => e = .returned (.int .i64 0) ∧ PoAt w' b (p.keysThen { p with ro := bits .and .u8 x 48 }) v ∧ Fr b W w' := by
  have HP : Hid (∀ W, Calls Tryd.prog 29 #[.int .i64 65280] W fun e w' => e = .returned (.tuple #[.agg #[.func (.func 51) #[] #[], .func (.func 52) #[] #[]], .bool true]) ∧ Up W w') := fun W => at65280 W
  have HR : Hid (∀ W, PoAt W b p v → LaidP W → Calls Tryd.prog 52 #[.pointer (some ⟨b, 0, none⟩), .int .u8 x] W fun e w' => e = .returned (.tuple #[]) ∧ PoAt w' b (p.keysThen { p with ro := bits .and .u8 x 48 }) v ∧ Fr b W w') := fun W h hL => rows_any x x0 x1 o hb v W h
  have H : Hid (PoAt W b p v ∧ LaidP W) := ⟨h, hL⟩
  have lb := h.lt
  generalize (p.keysThen { p with ro := bits .and .u8 x 48 }) = Q at HR ⊢
  clear h hL
  go_enter Tryd.func15, Tryd.ntmps15
  go_wp2_with fail
  refine (HP.out _).mono ?_
  rintro e w2 ⟨rfl, hu2⟩
  go_wp2_with fail
  refine (HR.out _ ((H.out.1.up hu2).up ((Up.refl w2).alloc _)) ((H.out.2.up hu2).up ((Up.refl w2).alloc _))).mono ?_
  rintro e w3 ⟨rfl, h3, hF⟩
  have H3 : Hid (PoAt w3 b Q v ∧ Fr b W w3) := ⟨h3, (Fr.ofUp (hu2.trans ((Up.refl w2).alloc _))).trans hF⟩
  clear h3 hF hu2
  go_wp2_with fail
  go_ret
  exact ⟨rfl, H3.out.1, H3.out.2⟩
set_option maxRecDepth 100000 in
set_option maxHeartbeats 1000000 in
theorem read65281 (o : p.Ok) (x : Int) (hx : p.sh = x) (x0 : 0 ≤ x) (x1 : x ≤ 255) (v : Value) (W : World) (h : PoAt W b p v) :
    Calls Tryd.prog 19 #[.pointer (some ⟨b, 0, none⟩), .int .i64 65281] W fun e w' => e = .returned (.tuple #[.int .i64 x, .int .i64 0]) ∧ PoAt w' b p v ∧ Fr b W w' := by
  have HP : Hid (∀ W, Calls Tryd.prog 29 #[.int .i64 65281] W fun e w' => e = .returned (.tuple #[.agg #[.func (.func 53) #[] #[], .func (.func 54) #[] #[]], .bool true]) ∧ Up W w') := fun W => at65281 W
  have HR : Hid (∀ W, PoAt W b p v → Calls Tryd.prog 53 #[.pointer (some ⟨b, 0, none⟩)] W fun e w' => e = .returned (.int .u8 x) ∧ PoAt w' b p v ∧ Fr b W w') := fun W h => by rw [← hx]; exact readShift_any o v W h
  have H : Hid (PoAt W b p v) := h
  have lb := h.lt
  clear h hx
  go_enter Tryd.func19, Tryd.ntmps19
  go_wp2_with fail
  refine (HP.out _).mono ?_
  rintro e w2 ⟨rfl, hu2⟩
  go_wp2_with fail
  refine (HR.out _ ((H.out.up hu2).up ((Up.refl w2).alloc _))).mono ?_
  rintro e w3 ⟨rfl, h3, hF⟩
  have H3 : Hid (PoAt w3 b p v ∧ Fr b W w3) := ⟨h3, (Fr.ofUp (hu2.trans ((Up.refl w2).alloc _))).trans hF⟩
  clear h3 hF hu2
  go_wp2_with fail
  go_ret2
  exact ⟨rfl, H3.out.1, H3.out.2⟩
set_option maxRecDepth 100000 in
set_option maxHeartbeats 1000000 in
theorem write65281 (o : p.Ok) (hb : b ≠ 0) (x : Int) (x0 : 0 ≤ x) (x1 : x ≤ 255) (v : Value) (W : World) (h : PoAt W b p v) (hL : LaidP W) :
    Calls Tryd.prog 15 #[.pointer (some ⟨b, 0, none⟩), .int .i64 65281, .int .i64 x] W fun e w' => e = .returned (.int .i64 0) ∧ PoAt w' b ({ p with sh := x }) v ∧ Fr b W w' := by
  have HP : Hid (∀ W, Calls Tryd.prog 29 #[.int .i64 65281] W fun e w' => e = .returned (.tuple #[.agg #[.func (.func 53) #[] #[], .func (.func 54) #[] #[]], .bool true]) ∧ Up W w') := fun W => at65281 W
  have HR : Hid (∀ W, PoAt W b p v → LaidP W → Calls Tryd.prog 54 #[.pointer (some ⟨b, 0, none⟩), .int .u8 x] W fun e w' => e = .returned (.tuple #[]) ∧ PoAt w' b ({ p with sh := x }) v ∧ Fr b W w') := fun W h hL => writeShift_any x x0 x1 v W h
  have H : Hid (PoAt W b p v ∧ LaidP W) := ⟨h, hL⟩
  have lb := h.lt
  generalize ({ p with sh := x }) = Q at HR ⊢
  clear h hL
  go_enter Tryd.func15, Tryd.ntmps15
  go_wp2_with fail
  refine (HP.out _).mono ?_
  rintro e w2 ⟨rfl, hu2⟩
  go_wp2_with fail
  refine (HR.out _ ((H.out.1.up hu2).up ((Up.refl w2).alloc _)) ((H.out.2.up hu2).up ((Up.refl w2).alloc _))).mono ?_
  rintro e w3 ⟨rfl, h3, hF⟩
  have H3 : Hid (PoAt w3 b Q v ∧ Fr b W w3) := ⟨h3, (Fr.ofUp (hu2.trans ((Up.refl w2).alloc _))).trans hF⟩
  clear h3 hF hu2
  go_wp2_with fail
  go_ret
  exact ⟨rfl, H3.out.1, H3.out.2⟩
set_option maxRecDepth 100000 in
set_option maxHeartbeats 1000000 in
theorem read65282 (o : p.Ok) (x : Int) (hx : bits .or .u8 p.li 126 = x) (x0 : 0 ≤ x) (x1 : x ≤ 255) (v : Value) (W : World) (h : PoAt W b p v) :
    Calls Tryd.prog 19 #[.pointer (some ⟨b, 0, none⟩), .int .i64 65282] W fun e w' => e = .returned (.tuple #[.int .i64 x, .int .i64 0]) ∧ PoAt w' b p v ∧ Fr b W w' := by
  have HP : Hid (∀ W, Calls Tryd.prog 29 #[.int .i64 65282] W fun e w' => e = .returned (.tuple #[.agg #[.func (.func 55) #[] #[], .func (.func 56) #[] #[]], .bool true]) ∧ Up W w') := fun W => at65282 W
  have HR : Hid (∀ W, PoAt W b p v → Calls Tryd.prog 55 #[.pointer (some ⟨b, 0, none⟩)] W fun e w' => e = .returned (.int .u8 x) ∧ PoAt w' b p v ∧ Fr b W w') := fun W h => by rw [← hx]; exact readLine_any o v W h
  have H : Hid (PoAt W b p v) := h
  have lb := h.lt
  clear h hx
  go_enter Tryd.func19, Tryd.ntmps19
  go_wp2_with fail
  refine (HP.out _).mono ?_
  rintro e w2 ⟨rfl, hu2⟩
  go_wp2_with fail
  refine (HR.out _ ((H.out.up hu2).up ((Up.refl w2).alloc _))).mono ?_
  rintro e w3 ⟨rfl, h3, hF⟩
  have H3 : Hid (PoAt w3 b p v ∧ Fr b W w3) := ⟨h3, (Fr.ofUp (hu2.trans ((Up.refl w2).alloc _))).trans hF⟩
  clear h3 hF hu2
  go_wp2_with fail
  go_ret2
  exact ⟨rfl, H3.out.1, H3.out.2⟩
set_option maxRecDepth 100000 in
set_option maxHeartbeats 1000000 in
theorem write65282 (o : p.Ok) (hb : b ≠ 0) (x : Int) (x0 : 0 ≤ x) (x1 : x ≤ 255) (v : Value) (W : World) (h : PoAt W b p v) (hL : LaidP W) :
    Calls Tryd.prog 15 #[.pointer (some ⟨b, 0, none⟩), .int .i64 65282, .int .i64 x] W fun e w' => e = .returned (.int .i64 0) ∧ PoAt w' b (if bits .and .u8 x 129 = 129 then { p with li := 129, tr := 4096, se := p.sh } else { p with li := bits .and .u8 x 129, tr := 0, se := 0 }) v ∧ Fr b W w' := by
  have HP : Hid (∀ W, Calls Tryd.prog 29 #[.int .i64 65282] W fun e w' => e = .returned (.tuple #[.agg #[.func (.func 55) #[] #[], .func (.func 56) #[] #[]], .bool true]) ∧ Up W w') := fun W => at65282 W
  have HR : Hid (∀ W, PoAt W b p v → LaidP W → Calls Tryd.prog 56 #[.pointer (some ⟨b, 0, none⟩), .int .u8 x] W fun e w' => e = .returned (.tuple #[]) ∧ PoAt w' b (if bits .and .u8 x 129 = 129 then { p with li := 129, tr := 4096, se := p.sh } else { p with li := bits .and .u8 x 129, tr := 0, se := 0 }) v ∧ Fr b W w') := fun W h hL => writeLine_any x x0 x1 v W h
  have H : Hid (PoAt W b p v ∧ LaidP W) := ⟨h, hL⟩
  have lb := h.lt
  generalize (if bits .and .u8 x 129 = 129 then { p with li := 129, tr := 4096, se := p.sh } else { p with li := bits .and .u8 x 129, tr := 0, se := 0 }) = Q at HR ⊢
  clear h hL
  go_enter Tryd.func15, Tryd.ntmps15
  go_wp2_with fail
  refine (HP.out _).mono ?_
  rintro e w2 ⟨rfl, hu2⟩
  go_wp2_with fail
  refine (HR.out _ ((H.out.1.up hu2).up ((Up.refl w2).alloc _)) ((H.out.2.up hu2).up ((Up.refl w2).alloc _))).mono ?_
  rintro e w3 ⟨rfl, h3, hF⟩
  have H3 : Hid (PoAt w3 b Q v ∧ Fr b W w3) := ⟨h3, (Fr.ofUp (hu2.trans ((Up.refl w2).alloc _))).trans hF⟩
  clear h3 hF hu2
  go_wp2_with fail
  go_ret
  exact ⟨rfl, H3.out.1, H3.out.2⟩
set_option maxRecDepth 100000 in
theorem read65283 (v : Value) (W : World) (h : PoAt W b p v) :
    Calls Tryd.prog 19 #[.pointer (some ⟨b, 0, none⟩), .int .i64 65283] W fun e w' => e = .returned (.tuple #[.int .i64 0, .int .i64 51]) ∧ PoAt w' b p v ∧ Fr b W w' := by
  have HP : Hid (∀ W, Calls Tryd.prog 29 #[.int .i64 65283] W fun e w' => e = .returned (.tuple #[.agg #[.nilFunc, .nilFunc], .bool false]) ∧ Up W w') := fun W => at65283 W
  have H : Hid (PoAt W b p v) := h
  clear h
  go_enter Tryd.func19, Tryd.ntmps19
  go_wp2_with fail
  refine (HP.out _).mono ?_
  rintro e w2 ⟨rfl, hu2⟩
  have H2 : Hid (Up W w2) := hu2
  clear hu2
  go_wp2_with fail
  go_ret2
  exact ⟨rfl, H.out.up (H2.out.trans ((Up.refl w2).alloc _)), Fr.ofUp (H2.out.trans ((Up.refl w2).alloc _))⟩
set_option maxRecDepth 100000 in
set_option maxHeartbeats 1000000 in
theorem read65284 (o : p.Ok) (x : Int) (hx : p.co / 256 = x) (x0 : 0 ≤ x) (x1 : x ≤ 255) (v : Value) (W : World) (h : PoAt W b p v) :
    Calls Tryd.prog 19 #[.pointer (some ⟨b, 0, none⟩), .int .i64 65284] W fun e w' => e = .returned (.tuple #[.int .i64 x, .int .i64 0]) ∧ PoAt w' b p v ∧ Fr b W w' := by
  have HP : Hid (∀ W, Calls Tryd.prog 29 #[.int .i64 65284] W fun e w' => e = .returned (.tuple #[.agg #[.func (.func 57) #[] #[], .func (.func 58) #[] #[]], .bool true]) ∧ Up W w') := fun W => at65284 W
  have HR : Hid (∀ W, PoAt W b p v → Calls Tryd.prog 57 #[.pointer (some ⟨b, 0, none⟩)] W fun e w' => e = .returned (.int .u8 x) ∧ PoAt w' b p v ∧ Fr b W w') := fun W h => by rw [← hx]; exact readDivider_any o v W h
  have H : Hid (PoAt W b p v) := h
  have lb := h.lt
  clear h hx
  go_enter Tryd.func19, Tryd.ntmps19
  go_wp2_with fail
  refine (HP.out _).mono ?_
  rintro e w2 ⟨rfl, hu2⟩
  go_wp2_with fail
  refine (HR.out _ ((H.out.up hu2).up ((Up.refl w2).alloc _))).mono ?_
  rintro e w3 ⟨rfl, h3, hF⟩
  have H3 : Hid (PoAt w3 b p v ∧ Fr b W w3) := ⟨h3, (Fr.ofUp (hu2.trans ((Up.refl w2).alloc _))).trans hF⟩
  clear h3 hF hu2
  go_wp2_with fail
  go_ret2
  exact ⟨rfl, H3.out.1, H3.out.2⟩
set_option maxRecDepth 100000 in
set_option maxHeartbeats 1000000 in
theorem write65284 (o : p.Ok) (hb : b ≠ 0) (x : Int) (x0 : 0 ≤ x) (x1 : x ≤ 255) (v : Value) (W : World) (h : PoAt W b p v) (hL : LaidP W) :
    Calls Tryd.prog 15 #[.pointer (some ⟨b, 0, none⟩), .int .i64 65284, .int .i64 x] W fun e w' => e = .returned (.int .i64 0) ∧ PoAt w' b (p.driveThen { p with co := 0 }) v ∧ Fr b W w' := by
  have HP : Hid (∀ W, Calls Tryd.prog 29 #[.int .i64 65284] W fun e w' => e = .returned (.tuple #[.agg #[.func (.func 57) #[] #[], .func (.func 58) #[] #[]], .bool true]) ∧ Up W w') := fun W => at65284 W
  have HR : Hid (∀ W, PoAt W b p v → LaidP W → Calls Tryd.prog 58 #[.pointer (some ⟨b, 0, none⟩), .int .u8 x] W fun e w' => e = .returned (.tuple #[]) ∧ PoAt w' b (p.driveThen { p with co := 0 }) v ∧ Fr b W w') := fun W h hL => div_any x o hb v W h hL
  have H : Hid (PoAt W b p v ∧ LaidP W) := ⟨h, hL⟩
  have lb := h.lt
  generalize (p.driveThen { p with co := 0 }) = Q at HR ⊢
  clear h hL
  go_enter Tryd.func15, Tryd.ntmps15
  go_wp2_with fail
  refine (HP.out _).mono ?_
  rintro e w2 ⟨rfl, hu2⟩
  go_wp2_with fail
  refine (HR.out _ ((H.out.1.up hu2).up ((Up.refl w2).alloc _)) ((H.out.2.up hu2).up ((Up.refl w2).alloc _))).mono ?_
  rintro e w3 ⟨rfl, h3, hF⟩
  have H3 : Hid (PoAt w3 b Q v ∧ Fr b W w3) := ⟨h3, (Fr.ofUp (hu2.trans ((Up.refl w2).alloc _))).trans hF⟩
  clear h3 hF hu2
  go_wp2_with fail
  go_ret
  exact ⟨rfl, H3.out.1, H3.out.2⟩
set_option maxRecDepth 100000 in
set_option maxHeartbeats 1000000 in
theorem read65285 (o : p.Ok) (x : Int) (hx : p.ti = x) (x0 : 0 ≤ x) (x1 : x ≤ 255) (v : Value) (W : World) (h : PoAt W b p v) :
    Calls Tryd.prog 19 #[.pointer (some ⟨b, 0, none⟩), .int .i64 65285] W fun e w' => e = .returned (.tuple #[.int .i64 x, .int .i64 0]) ∧ PoAt w' b p v ∧ Fr b W w' := by
  have HP : Hid (∀ W, Calls Tryd.prog 29 #[.int .i64 65285] W fun e w' => e = .returned (.tuple #[.agg #[.func (.func 59) #[] #[], .func (.func 60) #[] #[]], .bool true]) ∧ Up W w') := fun W => at65285 W
  have HR : Hid (∀ W, PoAt W b p v → Calls Tryd.prog 59 #[.pointer (some ⟨b, 0, none⟩)] W fun e w' => e = .returned (.int .u8 x) ∧ PoAt w' b p v ∧ Fr b W w') := fun W h => by rw [← hx]; exact readTimer_any o v W h
  have H : Hid (PoAt W b p v) := h
  have lb := h.lt
  clear h hx
  go_enter Tryd.func19, Tryd.ntmps19
  go_wp2_with fail
  refine (HP.out _).mono ?_
  rintro e w2 ⟨rfl, hu2⟩
  go_wp2_with fail
  refine (HR.out _ ((H.out.up hu2).up ((Up.refl w2).alloc _))).mono ?_
  rintro e w3 ⟨rfl, h3, hF⟩
  have H3 : Hid (PoAt w3 b p v ∧ Fr b W w3) := ⟨h3, (Fr.ofUp (hu2.trans ((Up.refl w2).alloc _))).trans hF⟩
  clear h3 hF hu2
  go_wp2_with fail
  go_ret2
  exact ⟨rfl, H3.out.1, H3.out.2⟩
set_option maxRecDepth 100000 in
set_option maxHeartbeats 1000000 in
theorem write65285 (o : p.Ok) (hb : b ≠ 0) (x : Int) (x0 : 0 ≤ x) (x1 : x ≤ 255) (v : Value) (W : World) (h : PoAt W b p v) (hL : LaidP W) :
    Calls Tryd.prog 15 #[.pointer (some ⟨b, 0, none⟩), .int .i64 65285, .int .i64 x] W fun e w' => e = .returned (.int .i64 0) ∧ PoAt w' b ({ p with ti := x, al := 0 }) v ∧ Fr b W w' := by
  have HP : Hid (∀ W, Calls Tryd.prog 29 #[.int .i64 65285] W fun e w' => e = .returned (.tuple #[.agg #[.func (.func 59) #[] #[], .func (.func 60) #[] #[]], .bool true]) ∧ Up W w') := fun W => at65285 W
  have HR : Hid (∀ W, PoAt W b p v → LaidP W → Calls Tryd.prog 60 #[.pointer (some ⟨b, 0, none⟩), .int .u8 x] W fun e w' => e = .returned (.tuple #[]) ∧ PoAt w' b ({ p with ti := x, al := 0 }) v ∧ Fr b W w') := fun W h hL => writeTimer_any x x0 x1 v W h
  have H : Hid (PoAt W b p v ∧ LaidP W) := ⟨h, hL⟩
  have lb := h.lt
  generalize ({ p with ti := x, al := 0 }) = Q at HR ⊢
  clear h hL
  go_enter Tryd.func15, Tryd.ntmps15
  go_wp2_with fail
  refine (HP.out _).mono ?_
  rintro e w2 ⟨rfl, hu2⟩
  go_wp2_with fail
  refine (HR.out _ ((H.out.1.up hu2).up ((Up.refl w2).alloc _)) ((H.out.2.up hu2).up ((Up.refl w2).alloc _))).mono ?_
  rintro e w3 ⟨rfl, h3, hF⟩
  have H3 : Hid (PoAt w3 b Q v ∧ Fr b W w3) := ⟨h3, (Fr.ofUp (hu2.trans ((Up.refl w2).alloc _))).trans hF⟩
  clear h3 hF hu2
  go_wp2_with fail
  go_ret
  exact ⟨rfl, H3.out.1, H3.out.2⟩
set_option maxRecDepth 100000 in
set_option maxHeartbeats 1000000 in
theorem read65286 (o : p.Ok) (x : Int) (hx : p.ag = x) (x0 : 0 ≤ x) (x1 : x ≤ 255) (v : Value) (W : World) (h : PoAt W b p v) :
    Calls Tryd.prog 19 #[.pointer (some ⟨b, 0, none⟩), .int .i64 65286] W fun e w' => e = .returned (.tuple #[.int .i64 x, .int .i64 0]) ∧ PoAt w' b p v ∧ Fr b W w' := by
  have HP : Hid (∀ W, Calls Tryd.prog 29 #[.int .i64 65286] W fun e w' => e = .returned (.tuple #[.agg #[.func (.func 61) #[] #[], .func (.func 62) #[] #[]], .bool true]) ∧ Up W w') := fun W => at65286 W
  have HR : Hid (∀ W, PoAt W b p v → Calls Tryd.prog 61 #[.pointer (some ⟨b, 0, none⟩)] W fun e w' => e = .returned (.int .u8 x) ∧ PoAt w' b p v ∧ Fr b W w') := fun W h => by rw [← hx]; exact readAgain_any o v W h
  have H : Hid (PoAt W b p v) := h
  have lb := h.lt
  clear h hx
  go_enter Tryd.func19, Tryd.ntmps19
  go_wp2_with fail
  refine (HP.out _).mono ?_
  rintro e w2 ⟨rfl, hu2⟩
  go_wp2_with fail
  refine (HR.out _ ((H.out.up hu2).up ((Up.refl w2).alloc _))).mono ?_
  rintro e w3 ⟨rfl, h3, hF⟩
  have H3 : Hid (PoAt w3 b p v ∧ Fr b W w3) := ⟨h3, (Fr.ofUp (hu2.trans ((Up.refl w2).alloc _))).trans hF⟩
  clear h3 hF hu2
  go_wp2_with fail
  go_ret2
  exact ⟨rfl, H3.out.1, H3.out.2⟩
set_option maxRecDepth 100000 in
set_option maxHeartbeats 1000000 in
theorem write65286 (o : p.Ok) (hb : b ≠ 0) (x : Int) (x0 : 0 ≤ x) (x1 : x ≤ 255) (v : Value) (W : World) (h : PoAt W b p v) (hL : LaidP W) :
    Calls Tryd.prog 15 #[.pointer (some ⟨b, 0, none⟩), .int .i64 65286, .int .i64 x] W fun e w' => e = .returned (.int .i64 0) ∧ PoAt w' b ({ p with ag := x }) v ∧ Fr b W w' := by
  have HP : Hid (∀ W, Calls Tryd.prog 29 #[.int .i64 65286] W fun e w' => e = .returned (.tuple #[.agg #[.func (.func 61) #[] #[], .func (.func 62) #[] #[]], .bool true]) ∧ Up W w') := fun W => at65286 W
  have HR : Hid (∀ W, PoAt W b p v → LaidP W → Calls Tryd.prog 62 #[.pointer (some ⟨b, 0, none⟩), .int .u8 x] W fun e w' => e = .returned (.tuple #[]) ∧ PoAt w' b ({ p with ag := x }) v ∧ Fr b W w') := fun W h hL => writeAgain_any x x0 x1 v W h
  have H : Hid (PoAt W b p v ∧ LaidP W) := ⟨h, hL⟩
  have lb := h.lt
  generalize ({ p with ag := x }) = Q at HR ⊢
  clear h hL
  go_enter Tryd.func15, Tryd.ntmps15
  go_wp2_with fail
  refine (HP.out _).mono ?_
  rintro e w2 ⟨rfl, hu2⟩
  go_wp2_with fail
  refine (HR.out _ ((H.out.1.up hu2).up ((Up.refl w2).alloc _)) ((H.out.2.up hu2).up ((Up.refl w2).alloc _))).mono ?_
  rintro e w3 ⟨rfl, h3, hF⟩
  have H3 : Hid (PoAt w3 b Q v ∧ Fr b W w3) := ⟨h3, (Fr.ofUp (hu2.trans ((Up.refl w2).alloc _))).trans hF⟩
  clear h3 hF hu2
  go_wp2_with fail
  go_ret
  exact ⟨rfl, H3.out.1, H3.out.2⟩
set_option maxRecDepth 100000 in
set_option maxHeartbeats 1000000 in
theorem read65287 (o : p.Ok) (x : Int) (hx : bits .or .u8 p.ct 248 = x) (x0 : 0 ≤ x) (x1 : x ≤ 255) (v : Value) (W : World) (h : PoAt W b p v) :
    Calls Tryd.prog 19 #[.pointer (some ⟨b, 0, none⟩), .int .i64 65287] W fun e w' => e = .returned (.tuple #[.int .i64 x, .int .i64 0]) ∧ PoAt w' b p v ∧ Fr b W w' := by
  have HP : Hid (∀ W, Calls Tryd.prog 29 #[.int .i64 65287] W fun e w' => e = .returned (.tuple #[.agg #[.func (.func 63) #[] #[], .func (.func 64) #[] #[]], .bool true]) ∧ Up W w') := fun W => at65287 W
  have HR : Hid (∀ W, PoAt W b p v → Calls Tryd.prog 63 #[.pointer (some ⟨b, 0, none⟩)] W fun e w' => e = .returned (.int .u8 x) ∧ PoAt w' b p v ∧ Fr b W w') := fun W h => by rw [← hx]; exact readControl_any o v W h
  have H : Hid (PoAt W b p v) := h
  have lb := h.lt
  clear h hx
  go_enter Tryd.func19, Tryd.ntmps19
  go_wp2_with fail
  refine (HP.out _).mono ?_
  rintro e w2 ⟨rfl, hu2⟩
  go_wp2_with fail
  refine (HR.out _ ((H.out.up hu2).up ((Up.refl w2).alloc _))).mono ?_
  rintro e w3 ⟨rfl, h3, hF⟩
  have H3 : Hid (PoAt w3 b p v ∧ Fr b W w3) := ⟨h3, (Fr.ofUp (hu2.trans ((Up.refl w2).alloc _))).trans hF⟩
  clear h3 hF hu2
  go_wp2_with fail
  go_ret2
  exact ⟨rfl, H3.out.1, H3.out.2⟩
set_option maxRecDepth 100000 in
set_option maxHeartbeats 1000000 in
theorem write65287 (o : p.Ok) (hb : b ≠ 0) (x : Int) (x0 : 0 ≤ x) (x1 : x ≤ 255) (v : Value) (W : World) (h : PoAt W b p v) (hL : LaidP W) :
    Calls Tryd.prog 15 #[.pointer (some ⟨b, 0, none⟩), .int .i64 65287, .int .i64 x] W fun e w' => e = .returned (.int .i64 0) ∧ PoAt w' b (p.driveThen { p with ct := x % 8 }) v ∧ Fr b W w' := by
  have HP : Hid (∀ W, Calls Tryd.prog 29 #[.int .i64 65287] W fun e w' => e = .returned (.tuple #[.agg #[.func (.func 63) #[] #[], .func (.func 64) #[] #[]], .bool true]) ∧ Up W w') := fun W => at65287 W
  have HR : Hid (∀ W, PoAt W b p v → LaidP W → Calls Tryd.prog 64 #[.pointer (some ⟨b, 0, none⟩), .int .u8 x] W fun e w' => e = .returned (.tuple #[]) ∧ PoAt w' b (p.driveThen { p with ct := x % 8 }) v ∧ Fr b W w') := fun W h hL => ctl_any x x0 x1 o hb v W h hL
  have H : Hid (PoAt W b p v ∧ LaidP W) := ⟨h, hL⟩
  have lb := h.lt
  generalize (p.driveThen { p with ct := x % 8 }) = Q at HR ⊢
  clear h hL
  go_enter Tryd.func15, Tryd.ntmps15
  go_wp2_with fail
  refine (HP.out _).mono ?_
  rintro e w2 ⟨rfl, hu2⟩
  go_wp2_with fail
  refine (HR.out _ ((H.out.1.up hu2).up ((Up.refl w2).alloc _)) ((H.out.2.up hu2).up ((Up.refl w2).alloc _))).mono ?_
  rintro e w3 ⟨rfl, h3, hF⟩
  have H3 : Hid (PoAt w3 b Q v ∧ Fr b W w3) := ⟨h3, (Fr.ofUp (hu2.trans ((Up.refl w2).alloc _))).trans hF⟩
  clear h3 hF hu2
  go_wp2_with fail
  go_ret
  exact ⟨rfl, H3.out.1, H3.out.2⟩
set_option maxRecDepth 100000 in
theorem read65288 (v : Value) (W : World) (h : PoAt W b p v) :
    Calls Tryd.prog 19 #[.pointer (some ⟨b, 0, none⟩), .int .i64 65288] W fun e w' => e = .returned (.tuple #[.int .i64 0, .int .i64 51]) ∧ PoAt w' b p v ∧ Fr b W w' := by
  have HP : Hid (∀ W, Calls Tryd.prog 29 #[.int .i64 65288] W fun e w' => e = .returned (.tuple #[.agg #[.nilFunc, .nilFunc], .bool false]) ∧ Up W w') := fun W => at65288 W
  have H : Hid (PoAt W b p v) := h
  clear h
  go_enter Tryd.func19, Tryd.ntmps19
  go_wp2_with fail
  refine (HP.out _).mono ?_
  rintro e w2 ⟨rfl, hu2⟩
  have H2 : Hid (Up W w2) := hu2
  clear hu2
  go_wp2_with fail
  go_ret2
  exact ⟨rfl, H.out.up (H2.out.trans ((Up.refl w2).alloc _)), Fr.ofUp (H2.out.trans ((Up.refl w2).alloc _))⟩
set_option maxRecDepth 100000 in
theorem read65289 (v : Value) (W : World) (h : PoAt W b p v) :
    Calls Tryd.prog 19 #[.pointer (some ⟨b, 0, none⟩), .int .i64 65289] W fun e w' => e = .returned (.tuple #[.int .i64 0, .int .i64 51]) ∧ PoAt w' b p v ∧ Fr b W w' := by
  have HP : Hid (∀ W, Calls Tryd.prog 29 #[.int .i64 65289] W fun e w' => e = .returned (.tuple #[.agg #[.nilFunc, .nilFunc], .bool false]) ∧ Up W w') := fun W => at65289 W
  have H : Hid (PoAt W b p v) := h
  clear h
  go_enter Tryd.func19, Tryd.ntmps19
  go_wp2_with fail
  refine (HP.out _).mono ?_
  rintro e w2 ⟨rfl, hu2⟩
  have H2 : Hid (Up W w2) := hu2
  clear hu2
  go_wp2_with fail
  go_ret2
  exact ⟨rfl, H.out.up (H2.out.trans ((Up.refl w2).alloc _)), Fr.ofUp (H2.out.trans ((Up.refl w2).alloc _))⟩
set_option maxRecDepth 100000 in
theorem read65290 (v : Value) (W : World) (h : PoAt W b p v) :
    Calls Tryd.prog 19 #[.pointer (some ⟨b, 0, none⟩), .int .i64 65290] W fun e w' => e = .returned (.tuple #[.int .i64 0, .int .i64 51]) ∧ PoAt w' b p v ∧ Fr b W w' := by
  have HP : Hid (∀ W, Calls Tryd.prog 29 #[.int .i64 65290] W fun e w' => e = .returned (.tuple #[.agg #[.nilFunc, .nilFunc], .bool false]) ∧ Up W w') := fun W => at65290 W
  have H : Hid (PoAt W b p v) := h
  clear h
  go_enter Tryd.func19, Tryd.ntmps19
  go_wp2_with fail
  refine (HP.out _).mono ?_
  rintro e w2 ⟨rfl, hu2⟩
  have H2 : Hid (Up W w2) := hu2
  clear hu2
  go_wp2_with fail
  go_ret2
  exact ⟨rfl, H.out.up (H2.out.trans ((Up.refl w2).alloc _)), Fr.ofUp (H2.out.trans ((Up.refl w2).alloc _))⟩
set_option maxRecDepth 100000 in
theorem read65291 (v : Value) (W : World) (h : PoAt W b p v) :
    Calls Tryd.prog 19 #[.pointer (some ⟨b, 0, none⟩), .int .i64 65291] W fun e w' => e = .returned (.tuple #[.int .i64 0, .int .i64 51]) ∧ PoAt w' b p v ∧ Fr b W w' := by
  have HP : Hid (∀ W, Calls Tryd.prog 29 #[.int .i64 65291] W fun e w' => e = .returned (.tuple #[.agg #[.nilFunc, .nilFunc], .bool false]) ∧ Up W w') := fun W => at65291 W
  have H : Hid (PoAt W b p v) := h
  clear h
  go_enter Tryd.func19, Tryd.ntmps19
  go_wp2_with fail
  refine (HP.out _).mono ?_
  rintro e w2 ⟨rfl, hu2⟩
  have H2 : Hid (Up W w2) := hu2
  clear hu2
  go_wp2_with fail
  go_ret2
  exact ⟨rfl, H.out.up (H2.out.trans ((Up.refl w2).alloc _)), Fr.ofUp (H2.out.trans ((Up.refl w2).alloc _))⟩
set_option maxRecDepth 100000 in
theorem read65292 (v : Value) (W : World) (h : PoAt W b p v) :
    Calls Tryd.prog 19 #[.pointer (some ⟨b, 0, none⟩), .int .i64 65292] W fun e w' => e = .returned (.tuple #[.int .i64 0, .int .i64 51]) ∧ PoAt w' b p v ∧ Fr b W w' := by
  have HP : Hid (∀ W, Calls Tryd.prog 29 #[.int .i64 65292] W fun e w' => e = .returned (.tuple #[.agg #[.nilFunc, .nilFunc], .bool false]) ∧ Up W w') := fun W => at65292 W
  have H : Hid (PoAt W b p v) := h
  clear h
  go_enter Tryd.func19, Tryd.ntmps19
  go_wp2_with fail
  refine (HP.out _).mono ?_
  rintro e w2 ⟨rfl, hu2⟩
  have H2 : Hid (Up W w2) := hu2
  clear hu2
  go_wp2_with fail
  go_ret2
  exact ⟨rfl, H.out.up (H2.out.trans ((Up.refl w2).alloc _)), Fr.ofUp (H2.out.trans ((Up.refl w2).alloc _))⟩
set_option maxRecDepth 100000 in
theorem read65293 (v : Value) (W : World) (h : PoAt W b p v) :
    Calls Tryd.prog 19 #[.pointer (some ⟨b, 0, none⟩), .int .i64 65293] W fun e w' => e = .returned (.tuple #[.int .i64 0, .int .i64 51]) ∧ PoAt w' b p v ∧ Fr b W w' := by
  have HP : Hid (∀ W, Calls Tryd.prog 29 #[.int .i64 65293] W fun e w' => e = .returned (.tuple #[.agg #[.nilFunc, .nilFunc], .bool false]) ∧ Up W w') := fun W => at65293 W
  have H : Hid (PoAt W b p v) := h
  clear h
  go_enter Tryd.func19, Tryd.ntmps19
  go_wp2_with fail
  refine (HP.out _).mono ?_
  rintro e w2 ⟨rfl, hu2⟩
  have H2 : Hid (Up W w2) := hu2
  clear hu2
  go_wp2_with fail
  go_ret2
  exact ⟨rfl, H.out.up (H2.out.trans ((Up.refl w2).alloc _)), Fr.ofUp (H2.out.trans ((Up.refl w2).alloc _))⟩
set_option maxRecDepth 100000 in
theorem read65294 (v : Value) (W : World) (h : PoAt W b p v) :
    Calls Tryd.prog 19 #[.pointer (some ⟨b, 0, none⟩), .int .i64 65294] W fun e w' => e = .returned (.tuple #[.int .i64 0, .int .i64 51]) ∧ PoAt w' b p v ∧ Fr b W w' := by
  have HP : Hid (∀ W, Calls Tryd.prog 29 #[.int .i64 65294] W fun e w' => e = .returned (.tuple #[.agg #[.nilFunc, .nilFunc], .bool false]) ∧ Up W w') := fun W => at65294 W
  have H : Hid (PoAt W b p v) := h
  clear h
  go_enter Tryd.func19, Tryd.ntmps19
  go_wp2_with fail
  refine (HP.out _).mono ?_
  rintro e w2 ⟨rfl, hu2⟩
  have H2 : Hid (Up W w2) := hu2
  clear hu2
  go_wp2_with fail
  go_ret2
  exact ⟨rfl, H.out.up (H2.out.trans ((Up.refl w2).alloc _)), Fr.ofUp (H2.out.trans ((Up.refl w2).alloc _))⟩
set_option maxRecDepth 100000 in
set_option maxHeartbeats 1000000 in
theorem read65295 (o : p.Ok) (x : Int) (hx : bits .or .u8 p.rq 224 = x) (x0 : 0 ≤ x) (x1 : x ≤ 255) (v : Value) (W : World) (h : PoAt W b p v) :
    Calls Tryd.prog 19 #[.pointer (some ⟨b, 0, none⟩), .int .i64 65295] W fun e w' => e = .returned (.tuple #[.int .i64 x, .int .i64 0]) ∧ PoAt w' b p v ∧ Fr b W w' := by
  have HP : Hid (∀ W, Calls Tryd.prog 29 #[.int .i64 65295] W fun e w' => e = .returned (.tuple #[.agg #[.func (.func 65) #[] #[], .func (.func 66) #[] #[]], .bool true]) ∧ Up W w') := fun W => at65295 W
  have HR : Hid (∀ W, PoAt W b p v → Calls Tryd.prog 65 #[.pointer (some ⟨b, 0, none⟩)] W fun e w' => e = .returned (.int .u8 x) ∧ PoAt w' b p v ∧ Fr b W w') := fun W h => by rw [← hx]; exact readRequests_any o v W h
  have H : Hid (PoAt W b p v) := h
  have lb := h.lt
  clear h hx
  go_enter Tryd.func19, Tryd.ntmps19
  go_wp2_with fail
  refine (HP.out _).mono ?_
  rintro e w2 ⟨rfl, hu2⟩
  go_wp2_with fail
  refine (HR.out _ ((H.out.up hu2).up ((Up.refl w2).alloc _))).mono ?_
  rintro e w3 ⟨rfl, h3, hF⟩
  have H3 : Hid (PoAt w3 b p v ∧ Fr b W w3) := ⟨h3, (Fr.ofUp (hu2.trans ((Up.refl w2).alloc _))).trans hF⟩
  clear h3 hF hu2
  go_wp2_with fail
  go_ret2
  exact ⟨rfl, H3.out.1, H3.out.2⟩
set_option maxRecDepth 100000 in
set_option maxHeartbeats 1000000 in
theorem write65295 (o : p.Ok) (hb : b ≠ 0) (x : Int) (x0 : 0 ≤ x) (x1 : x ≤ 255) (v : Value) (W : World) (h : PoAt W b p v) (hL : LaidP W) :
    Calls Tryd.prog 15 #[.pointer (some ⟨b, 0, none⟩), .int .i64 65295, .int .i64 x] W fun e w' => e = .returned (.int .i64 0) ∧ PoAt w' b ({ p with rq := x % 32 }) v ∧ Fr b W w' := by
  have HP : Hid (∀ W, Calls Tryd.prog 29 #[.int .i64 65295] W fun e w' => e = .returned (.tuple #[.agg #[.func (.func 65) #[] #[], .func (.func 66) #[] #[]], .bool true]) ∧ Up W w') := fun W => at65295 W
  have HR : Hid (∀ W, PoAt W b p v → LaidP W → Calls Tryd.prog 66 #[.pointer (some ⟨b, 0, none⟩), .int .u8 x] W fun e w' => e = .returned (.tuple #[]) ∧ PoAt w' b ({ p with rq := x % 32 }) v ∧ Fr b W w') := fun W h hL => writeRequests_any x x0 x1 v W h
  have H : Hid (PoAt W b p v ∧ LaidP W) := ⟨h, hL⟩
  have lb := h.lt
  generalize ({ p with rq := x % 32 }) = Q at HR ⊢
  clear h hL
  go_enter Tryd.func15, Tryd.ntmps15
  go_wp2_with fail
  refine (HP.out _).mono ?_
  rintro e w2 ⟨rfl, hu2⟩
  go_wp2_with fail
  refine (HR.out _ ((H.out.1.up hu2).up ((Up.refl w2).alloc _)) ((H.out.2.up hu2).up ((Up.refl w2).alloc _))).mono ?_
  rintro e w3 ⟨rfl, h3, hF⟩
  have H3 : Hid (PoAt w3 b Q v ∧ Fr b W w3) := ⟨h3, (Fr.ofUp (hu2.trans ((Up.refl w2).alloc _))).trans hF⟩
  clear h3 hF hu2
  go_wp2_with fail
  go_ret
  exact ⟨rfl, H3.out.1, H3.out.2⟩
end Go.Proofs.YteomldlmdpphaaaDoor
