/- What instructions do, over the translation: those that reckon. -/
import Derived.Test.YtdkibohpdkdooaaGreatDoorCpF
namespace Go.Proofs.YtdkibohpdkdooaaGreatDoor
open Go.RowKit
set_option linter.unusedVariables false
set_option maxRecDepth 100000 in
theorem askBit_any (n v f : Int) (w : World) (hL : LaidB w) (h0 : 0 ≤ v) (h1 : v ≤ 255) (f0 : 0 ≤ f) (f1 : f ≤ 255) :
    Calls Tryz.prog 105 #[.int .i64 n, .int .u8 v, .int .u8 f] w fun e w' => e = .returned (.tuple #[.int .u8 (v), .int .u8 (biF n v f)]) ∧ Up w w' := by
  go_enter Tryz.func105, Tryz.ntmps105
  go_wp2_with (go_at_call 135; refine (bit_any n v f _ (by exact hL) h0 h1 f0 f1).mono ?_; rintro e w' ⟨rfl, rfl⟩)
  go_ret2
  exact ⟨rfl, Up.refl _⟩
set_option maxRecDepth 100000 in
theorem clearBit_any (n v f : Int) (w : World) (hL : LaidB w) (h0 : 0 ≤ v) (h1 : v ≤ 255) (f0 : 0 ≤ f) (f1 : f ≤ 255) :
    Calls Tryz.prog 106 #[.int .i64 n, .int .u8 v, .int .u8 f] w fun e w' => e = .returned (.tuple #[.int .u8 (reR n v), .int .u8 (f)]) ∧ Up w w' := by
  go_enter Tryz.func106, Tryz.ntmps106
  go_wp2_with (go_at_call 136; refine (res_any n v _ (by exact hL) h0 h1).mono ?_; rintro e w' ⟨rfl, rfl⟩)
  go_ret2
  exact ⟨rfl, Up.refl _⟩
set_option maxRecDepth 100000 in
theorem setBit_any (n v f : Int) (w : World) (hL : LaidB w) (h0 : 0 ≤ v) (h1 : v ≤ 255) (f0 : 0 ≤ f) (f1 : f ≤ 255) :
    Calls Tryz.prog 107 #[.int .i64 n, .int .u8 v, .int .u8 f] w fun e w' => e = .returned (.tuple #[.int .u8 (seR n v), .int .u8 (f)]) ∧ Up w w' := by
  go_enter Tryz.func107, Tryz.ntmps107
  go_wp2_with (go_at_call 137; refine (set_any n v _ (by exact hL) h0 h1).mono ?_; rintro e w' ⟨rfl, rfl⟩)
  go_ret2
  exact ⟨rfl, Up.refl _⟩
theorem alt_call0 (v f : Int) (w : World) (hL : LaidB w) (c : Int) (hc : c / 64 = 0) (h0 : 0 ≤ v) (h1 : v ≤ 255) (f0 : 0 ≤ f) (f1 : f ≤ 255) :
    Calls Tryz.prog 104 #[.int .i64 (c / 8 % 8), .int .u8 v, .int .u8 f] w fun e w' => e = .returned (.tuple #[.int .u8 (altR c v f), .int .u8 (altF c v f)]) ∧ Up w w' := by
  unfold altR altF
  rw [hc]
  exact (shift_any (c / 8 % 8) v f w hL h0 h1 f0 f1).mono fun e w' ⟨a, g⟩ => ⟨a, Up.ofGrown g⟩
theorem alt_call1 (v f : Int) (w : World) (hL : LaidB w) (c : Int) (hc : c / 64 = 1) (h0 : 0 ≤ v) (h1 : v ≤ 255) (f0 : 0 ≤ f) (f1 : f ≤ 255) :
    Calls Tryz.prog 105 #[.int .i64 (c / 8 % 8), .int .u8 v, .int .u8 f] w fun e w' => e = .returned (.tuple #[.int .u8 (altR c v f), .int .u8 (altF c v f)]) ∧ Up w w' := by
  unfold altR altF
  rw [hc]
  exact askBit_any (c / 8 % 8) v f w hL h0 h1 f0 f1
theorem alt_call2 (v f : Int) (w : World) (hL : LaidB w) (c : Int) (hc : c / 64 = 2) (h0 : 0 ≤ v) (h1 : v ≤ 255) (f0 : 0 ≤ f) (f1 : f ≤ 255) :
    Calls Tryz.prog 106 #[.int .i64 (c / 8 % 8), .int .u8 v, .int .u8 f] w fun e w' => e = .returned (.tuple #[.int .u8 (altR c v f), .int .u8 (altF c v f)]) ∧ Up w w' := by
  unfold altR altF
  rw [hc]
  exact clearBit_any (c / 8 % 8) v f w hL h0 h1 f0 f1
theorem alt_call3 (v f : Int) (w : World) (hL : LaidB w) (c : Int) (hc : c / 64 = 3) (h0 : 0 ≤ v) (h1 : v ≤ 255) (f0 : 0 ≤ f) (f1 : f ≤ 255) :
    Calls Tryz.prog 107 #[.int .i64 (c / 8 % 8), .int .u8 v, .int .u8 f] w fun e w' => e = .returned (.tuple #[.int .u8 (altR c v f), .int .u8 (altF c v f)]) ∧ Up w w' := by
  unfold altR altF
  rw [hc]
  exact setBit_any (c / 8 % 8) v f w hL h0 h1 f0 f1
set_option maxRecDepth 100000 in
set_option maxHeartbeats 1000000 in
theorem altered_0 (b : Nat) (s : St) (w : World) (h : Cp w b s) (o : s.Ok) (hL : Lb b w) (c : Int) (ob1 : 0 ≤ c) (ob2 : c ≤ 255) (hdq : c / 64 = 0) (c17 : w.cell? ⟨b, 17, none⟩ = some (.int .u8 c)) :
    Calls Tryz.prog 71 #[.pointer (some ⟨b, 0, none⟩)] w fun e w' => e = .returned (.tuple #[.int .u8 (altR c (s.value (c % 8)) (s.r 6)), .int .u8 (altF c (s.value (c % 8)) (s.r 6))]) ∧ Up w w' := by
  have hcc : 0 ≤ c / 8 % 8 := by omega
  have hcd : c / 8 % 8 ≤ 7 := by omega
  have w0 : IntKind.u8.wrap 0 = 0 := rfl
  have HD : Hid (c / 64 = 0) := hdq
  go_enter Tryz.func71, Tryz.ntmps71
  go_wp2_with fail
  generalize hW : World.alloc w _ = W
  have u0 : Up w W := by rw [← hW]; exact (Up.refl w).alloc _
  have kf : W.cell? ⟨w.heap.size, 0, none⟩ = some (.func (.func 104) #[] #[]) := by rw [← hW]; simp
  have hws : w.heap.size < W.heap.size := by rw [← hW]; simp
  have h0 := h.up u0
  have L0 : LaidB W := (hL.up u0).1
  have k6 : W.cell? ⟨b, 6, none⟩ = some (.int .u8 (s.r 6)) := h0.cell 6
  have HU : Hid (Up w W) := u0
  clear hW c17 u0 h hL
  go_region_held3 (fun w' => w'.cell? ⟨b, 6, none⟩ = some (.int .u8 (s.r 6)) ∧ w'.cell? ⟨w.heap.size, 0, none⟩ = some (.func (.func 104) #[] #[])) (first | exact ⟨k6, kf⟩ | exact ⟨m6, mf⟩)
    (first
      | (go_at_call 69; rw [u8_and7 c ob1 ob2]; refine (value_any b s _ (by exact h0) o (c % 8) (by omega) (by omega)).mono ?_; rintro e w' ⟨rfl, n, rfl⟩)
      | (go_at_call 104; (try rw [u8_and7 (c / 8) (by omega) (by omega)]); (try rw [wi (c / 8 % 8) (by omega) (by omega)]); refine (alt_call0 (s.value (c % 8)) (s.r 6) _ (by exact L0) c HD.out (o.value _).1 (o.value _).2 (o.r 6).1 (o.r 6).2).mono ?_; rintro e w2 ⟨rfl, hu⟩
         have hup : Up W w2 := (Up.drewN W _).trans hu
         have m6 : w2.cell? ⟨b, 6, none⟩ = some (.int .u8 (s.r 6)) := (h0.up hup).cell 6
         have mf : w2.cell? ⟨w.heap.size, 0, none⟩ = some (.func (.func 104) #[] #[]) := by
           rw [← kf]
           unfold World.cell?
           rw [show (w2.heap[(⟨w.heap.size, 0, none⟩ : Addr).block]?) = W.heap[(⟨w.heap.size, 0, none⟩ : Addr).block]? from hup.block _ hws]
         clear hu))
  go_wp2
  go_ret2
  exact ⟨rfl, HU.out.trans hup⟩
set_option maxRecDepth 100000 in
set_option maxHeartbeats 1000000 in
theorem altered_1 (b : Nat) (s : St) (w : World) (h : Cp w b s) (o : s.Ok) (hL : Lb b w) (c : Int) (ob1 : 0 ≤ c) (ob2 : c ≤ 255) (hdq : c / 64 = 1) (c17 : w.cell? ⟨b, 17, none⟩ = some (.int .u8 c)) :
    Calls Tryz.prog 71 #[.pointer (some ⟨b, 0, none⟩)] w fun e w' => e = .returned (.tuple #[.int .u8 (altR c (s.value (c % 8)) (s.r 6)), .int .u8 (altF c (s.value (c % 8)) (s.r 6))]) ∧ Up w w' := by
  have hcc : 0 ≤ c / 8 % 8 := by omega
  have hcd : c / 8 % 8 ≤ 7 := by omega
  have w0 : IntKind.u8.wrap 1 = 1 := rfl
  have HD : Hid (c / 64 = 1) := hdq
  go_enter Tryz.func71, Tryz.ntmps71
  go_wp2_with fail
  generalize hW : World.alloc w _ = W
  have u0 : Up w W := by rw [← hW]; exact (Up.refl w).alloc _
  have kf : W.cell? ⟨w.heap.size, 1, none⟩ = some (.func (.func 105) #[] #[]) := by rw [← hW]; simp
  have hws : w.heap.size < W.heap.size := by rw [← hW]; simp
  have h0 := h.up u0
  have L0 : LaidB W := (hL.up u0).1
  have k6 : W.cell? ⟨b, 6, none⟩ = some (.int .u8 (s.r 6)) := h0.cell 6
  have HU : Hid (Up w W) := u0
  clear hW c17 u0 h hL
  go_region_held3 (fun w' => w'.cell? ⟨b, 6, none⟩ = some (.int .u8 (s.r 6)) ∧ w'.cell? ⟨w.heap.size, 1, none⟩ = some (.func (.func 105) #[] #[])) (first | exact ⟨k6, kf⟩ | exact ⟨m6, mf⟩)
    (first
      | (go_at_call 69; rw [u8_and7 c ob1 ob2]; refine (value_any b s _ (by exact h0) o (c % 8) (by omega) (by omega)).mono ?_; rintro e w' ⟨rfl, n, rfl⟩)
      | (go_at_call 105; (try rw [u8_and7 (c / 8) (by omega) (by omega)]); (try rw [wi (c / 8 % 8) (by omega) (by omega)]); refine (alt_call1 (s.value (c % 8)) (s.r 6) _ (by exact L0) c HD.out (o.value _).1 (o.value _).2 (o.r 6).1 (o.r 6).2).mono ?_; rintro e w2 ⟨rfl, hu⟩
         have hup : Up W w2 := (Up.drewN W _).trans hu
         have m6 : w2.cell? ⟨b, 6, none⟩ = some (.int .u8 (s.r 6)) := (h0.up hup).cell 6
         have mf : w2.cell? ⟨w.heap.size, 1, none⟩ = some (.func (.func 105) #[] #[]) := by
           rw [← kf]
           unfold World.cell?
           rw [show (w2.heap[(⟨w.heap.size, 1, none⟩ : Addr).block]?) = W.heap[(⟨w.heap.size, 1, none⟩ : Addr).block]? from hup.block _ hws]
         clear hu))
  go_wp2
  go_ret2
  exact ⟨rfl, HU.out.trans hup⟩
set_option maxRecDepth 100000 in
set_option maxHeartbeats 1000000 in
theorem altered_2 (b : Nat) (s : St) (w : World) (h : Cp w b s) (o : s.Ok) (hL : Lb b w) (c : Int) (ob1 : 0 ≤ c) (ob2 : c ≤ 255) (hdq : c / 64 = 2) (c17 : w.cell? ⟨b, 17, none⟩ = some (.int .u8 c)) :
    Calls Tryz.prog 71 #[.pointer (some ⟨b, 0, none⟩)] w fun e w' => e = .returned (.tuple #[.int .u8 (altR c (s.value (c % 8)) (s.r 6)), .int .u8 (altF c (s.value (c % 8)) (s.r 6))]) ∧ Up w w' := by
  have hcc : 0 ≤ c / 8 % 8 := by omega
  have hcd : c / 8 % 8 ≤ 7 := by omega
  have w0 : IntKind.u8.wrap 2 = 2 := rfl
  have HD : Hid (c / 64 = 2) := hdq
  go_enter Tryz.func71, Tryz.ntmps71
  go_wp2_with fail
  generalize hW : World.alloc w _ = W
  have u0 : Up w W := by rw [← hW]; exact (Up.refl w).alloc _
  have kf : W.cell? ⟨w.heap.size, 2, none⟩ = some (.func (.func 106) #[] #[]) := by rw [← hW]; simp
  have hws : w.heap.size < W.heap.size := by rw [← hW]; simp
  have h0 := h.up u0
  have L0 : LaidB W := (hL.up u0).1
  have k6 : W.cell? ⟨b, 6, none⟩ = some (.int .u8 (s.r 6)) := h0.cell 6
  have HU : Hid (Up w W) := u0
  clear hW c17 u0 h hL
  go_region_held3 (fun w' => w'.cell? ⟨b, 6, none⟩ = some (.int .u8 (s.r 6)) ∧ w'.cell? ⟨w.heap.size, 2, none⟩ = some (.func (.func 106) #[] #[])) (first | exact ⟨k6, kf⟩ | exact ⟨m6, mf⟩)
    (first
      | (go_at_call 69; rw [u8_and7 c ob1 ob2]; refine (value_any b s _ (by exact h0) o (c % 8) (by omega) (by omega)).mono ?_; rintro e w' ⟨rfl, n, rfl⟩)
      | (go_at_call 106; (try rw [u8_and7 (c / 8) (by omega) (by omega)]); (try rw [wi (c / 8 % 8) (by omega) (by omega)]); refine (alt_call2 (s.value (c % 8)) (s.r 6) _ (by exact L0) c HD.out (o.value _).1 (o.value _).2 (o.r 6).1 (o.r 6).2).mono ?_; rintro e w2 ⟨rfl, hu⟩
         have hup : Up W w2 := (Up.drewN W _).trans hu
         have m6 : w2.cell? ⟨b, 6, none⟩ = some (.int .u8 (s.r 6)) := (h0.up hup).cell 6
         have mf : w2.cell? ⟨w.heap.size, 2, none⟩ = some (.func (.func 106) #[] #[]) := by
           rw [← kf]
           unfold World.cell?
           rw [show (w2.heap[(⟨w.heap.size, 2, none⟩ : Addr).block]?) = W.heap[(⟨w.heap.size, 2, none⟩ : Addr).block]? from hup.block _ hws]
         clear hu))
  go_wp2
  go_ret2
  exact ⟨rfl, HU.out.trans hup⟩
set_option maxRecDepth 100000 in
set_option maxHeartbeats 1000000 in
theorem altered_3 (b : Nat) (s : St) (w : World) (h : Cp w b s) (o : s.Ok) (hL : Lb b w) (c : Int) (ob1 : 0 ≤ c) (ob2 : c ≤ 255) (hdq : c / 64 = 3) (c17 : w.cell? ⟨b, 17, none⟩ = some (.int .u8 c)) :
    Calls Tryz.prog 71 #[.pointer (some ⟨b, 0, none⟩)] w fun e w' => e = .returned (.tuple #[.int .u8 (altR c (s.value (c % 8)) (s.r 6)), .int .u8 (altF c (s.value (c % 8)) (s.r 6))]) ∧ Up w w' := by
  have hcc : 0 ≤ c / 8 % 8 := by omega
  have hcd : c / 8 % 8 ≤ 7 := by omega
  have w0 : IntKind.u8.wrap 3 = 3 := rfl
  have HD : Hid (c / 64 = 3) := hdq
  go_enter Tryz.func71, Tryz.ntmps71
  go_wp2_with fail
  generalize hW : World.alloc w _ = W
  have u0 : Up w W := by rw [← hW]; exact (Up.refl w).alloc _
  have kf : W.cell? ⟨w.heap.size, 3, none⟩ = some (.func (.func 107) #[] #[]) := by rw [← hW]; simp
  have hws : w.heap.size < W.heap.size := by rw [← hW]; simp
  have h0 := h.up u0
  have L0 : LaidB W := (hL.up u0).1
  have k6 : W.cell? ⟨b, 6, none⟩ = some (.int .u8 (s.r 6)) := h0.cell 6
  have HU : Hid (Up w W) := u0
  clear hW c17 u0 h hL
  go_region_held3 (fun w' => w'.cell? ⟨b, 6, none⟩ = some (.int .u8 (s.r 6)) ∧ w'.cell? ⟨w.heap.size, 3, none⟩ = some (.func (.func 107) #[] #[])) (first | exact ⟨k6, kf⟩ | exact ⟨m6, mf⟩)
    (first
      | (go_at_call 69; rw [u8_and7 c ob1 ob2]; refine (value_any b s _ (by exact h0) o (c % 8) (by omega) (by omega)).mono ?_; rintro e w' ⟨rfl, n, rfl⟩)
      | (go_at_call 107; (try rw [u8_and7 (c / 8) (by omega) (by omega)]); (try rw [wi (c / 8 % 8) (by omega) (by omega)]); refine (alt_call3 (s.value (c % 8)) (s.r 6) _ (by exact L0) c HD.out (o.value _).1 (o.value _).2 (o.r 6).1 (o.r 6).2).mono ?_; rintro e w2 ⟨rfl, hu⟩
         have hup : Up W w2 := (Up.drewN W _).trans hu
         have m6 : w2.cell? ⟨b, 6, none⟩ = some (.int .u8 (s.r 6)) := (h0.up hup).cell 6
         have mf : w2.cell? ⟨w.heap.size, 3, none⟩ = some (.func (.func 107) #[] #[]) := by
           rw [← kf]
           unfold World.cell?
           rw [show (w2.heap[(⟨w.heap.size, 3, none⟩ : Addr).block]?) = W.heap[(⟨w.heap.size, 3, none⟩ : Addr).block]? from hup.block _ hws]
         clear hu))
  go_wp2
  go_ret2
  exact ⟨rfl, HU.out.trans hup⟩
theorem altered_any (b : Nat) (s : St) (w : World) (h : Cp w b s) (o : s.Ok) (hL : Lb b w) :
    Calls Tryz.prog 71 #[.pointer (some ⟨b, 0, none⟩)] w fun e w' => e = .returned (.tuple #[.int .u8 s.alteredR, .int .u8 s.alteredF]) ∧ Up w w' := by
  have ob := o.rd 0
  have hq4 : s.rd 0 / 64 = 0 ∨ s.rd 0 / 64 = 1 ∨ s.rd 0 / 64 = 2 ∨ s.rd 0 / 64 = 3 := by omega
  rcases hq4 with hq | hq | hq | hq
  · exact altered_0 b s w h o hL (s.rd 0) ob.1 ob.2 hq (h.cell 17)
  · exact altered_1 b s w h o hL (s.rd 0) ob.1 ob.2 hq (h.cell 17)
  · exact altered_2 b s w h o hL (s.rd 0) ob.1 ob.2 hq (h.cell 17)
  · exact altered_3 b s w h o hL (s.rd 0) ob.1 ob.2 hq (h.cell 17)
set_option maxRecDepth 100000 in
theorem alteredData_any (b : Nat) (s : St) (w : World) (h : Cp w b s) (o : s.Ok) (hL : Lb b w) :
    Calls Tryz.prog 45 #[.pointer (some ⟨b, 0, none⟩)] w fun e w' => e = .returned (.int .u8 s.alteredR) ∧ Up w w' := by
  go_enter Tryz.func45, Tryz.ntmps45
  go_wp2_with (go_at_call 71; refine (altered_any b s _ (by exact h) o (by exact hL)).mono ?_; rintro e w2 ⟨rfl, hu⟩)
  go_ret
  exact ⟨rfl, hu⟩
set_option maxRecDepth 100000 in
theorem alter_does (b : Nat) (s : St) (w : World) (h : Cp w b s) (o : s.Ok) (hL : Lb b w) :
    Calls Tryz.prog 76 #[.pointer (some ⟨b, 0, none⟩)] w fun e w' => e = .returned (.tuple #[]) ∧ Cp w' b ((s.setByte (s.rd 0 % 8) s.alteredR).setReg 6 s.alteredF) ∧ Fr b w w' := by
  have ord01 := (o.rd 0).1
  have ord02 := (o.rd 0).2
  go_enter Tryz.func76, Tryz.ntmps76
  go_wp2_with fail
  refine (altered_any b s _ (by exact h) o (by exact hL)).mono ?_
  rintro e w1 ⟨rfl, hu1⟩
  have h1 := h.up hu1
  have c17 : w1.cell? ⟨b, 17, none⟩ = some (.int .u8 (s.rd 0)) := h1.cell 17
  go_wp2_with fail
  go_region_held3 (fun w' => w'.cell? ⟨b, 17, none⟩ = some (.int .u8 (s.rd 0))) (first | exact c17 | exact k17)
    (first
      | (go_at_call 109; (try rw [u8_and7 (s.rd 0) ord01 ord02]); refine (setByte_any b s _ (by exact h1) o (s.rd 0 % 8) s.alteredR (by omega) (by omega)).mono ?_; rintro e w2 ⟨rfl, hc2, hf2⟩
         have k6 : w2.cell? ⟨b, 6, none⟩ = some (.int .u8 ((s.setByte (s.rd 0 % 8) s.alteredR).r 6)) := hc2.cell 6
         have f6 := hc2.frozen 6
         have k17 : w2.cell? ⟨b, 17, none⟩ = some (.int .u8 (s.rd 0)) := by
           have := hc2.cell 17
           unfold St.setByte at this
           split at this <;> exact this))
  go_wp2
  (first | refine bodyPost_end (results_none rfl _ _ _) rfl ?_ | refine bodyPost_ret (results_none rfl _ _ _) rfl ?_)
  exact ⟨rfl, hc2.set 6 _ _ rfl, (Fr.trans (Fr.ofUp (hu1.trans (by first | exact Up.drewN w1 _ | exact (Up.refl w1).drew | exact Up.refl w1))) hf2).setCell⟩
end Go.Proofs.YtdkibohpdkdooaaGreatDoor
