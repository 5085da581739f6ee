/- PortsMasks: the walk. -/
import Derived.Test.YteomldlmdpphaaaDoorPpM
namespace Go.Proofs.YteomldlmdpphaaaDoor
open Go.RowKit
set_option linter.unusedVariables false
variable {b : Nat} {p : Po}
theorem requests_same (o : p.Ok) (v : Value) (W : World) (h : PoAt W b p v) : Calls Tryd.prog 18 #[.pointer (some ⟨b, 0, none⟩)] W fun e w' => e = .returned (.int .i64 p.rq) ∧ w' = W := by
  obtain ⟨c0, c1, c2, c3, c4, c5, c6, c7, c8, c9, c10, c11, c12⟩ := h.all
  have r0 := o.rq.1
  have r1 := o.rq.2
  go_enter Tryd.func18, Tryd.ntmps18
  go_wp2
  go_ret
  exact ⟨rfl, rfl⟩
theorem Pb.reqs {W0 : World} {K : List (Nat × Obj)} {zs : List Int} {W : World} (h : Pb W0 K b p zs W) :
    Calls Tryd.prog 18 #[.pointer (some ⟨b, 0, none⟩)] W fun e w' => e = .returned (.int .i64 p.rq) ∧ w' = W := by
  obtain ⟨v, h1, _⟩ := h.row
  exact requests_same h.ok v W h1
def msk (q : Po) (V : Int) : Nat → Po
  | 0 => q
  | 1 => q.wr 1 V
  | 2 => (q.wr 1 V).wr 4 V
  | _ => ((q.wr 1 V).wr 4 V).wr 5 V
theorem ma0 : ∀ x : Int, 0 ≤ x → x ≤ 255 → 192 ≤ x → (bits .and .i64 x 192 != 192) = false := byteAll (by decide +kernel)
theorem ma2 : ∀ x : Int, 0 ≤ x → x ≤ 255 → (bits .and .i64 (bits .or .u8 x 126) 126 != 126) = false := byteAll (by decide +kernel)
theorem ma6 : ∀ x : Int, 0 ≤ x → x ≤ 255 → (bits .and .i64 (bits .or .u8 x 248) 248 != 248) = false := byteAll (by decide +kernel)
theorem ma7 : ∀ x : Int, 0 ≤ x → x ≤ 255 → x ≤ 31 → (bits .and .i64 (bits .or .u8 x 224) 224 != 224) = false ∧ bits .and .i64 (bits .or .u8 x 224) 31 = x := byteAll (by decide +kernel)
theorem ma8 : ∀ x : Int, 0 ≤ x → x ≤ 255 → bits .or .u8 (x % 8) 248 = 248 + x % 8 := byteAll (by decide +kernel)
set_option maxRecDepth 100000 in
set_option maxHeartbeats 4000000 in
theorem masks_walk {W : World} (hL : LaidP W) {aa : Option Addr} {ab ao len cap : Nat} {f : Nat → Nat → Int} (hA : Acts W aa ab ao len cap f) (v : Int) (hv : I64 v) :
    Calls Tryd.prog 5 #[.slice aa len cap, .int .i64 v] W fun e w' => e = .returned (.bool true) ∧ Up W w' := by
  have HM : Hid _ := made_any hL hA
  have HV : Hid (∀ W, Calls Tryd.prog 14 #[.int .i64 v, .int .i64 256] W fun e w' => e = .returned (.int .i64 (pickI v 256)) ∧ w' = W) := fun W => pick_any v 256 W hv (by decide) (by decide)
  have v0 := pickI_lo v 256 (by decide)
  have v1 := pickI_hi v 256 (by decide)
  generalize pickI v 256 = V at *
  generalize madeP len f = S at *
  obtain ⟨q, us⟩ := S
  dsimp only at *
  clear hL hA hv
  go_enter Tryd.func5, Tryd.ntmps5
  go_wp2_with fail
  refine Calls.mono HM.out ?_
  rintro e w1 ⟨rfl, h1⟩
  have o := h1.ok
  have P1 : Hid _ := h1
  clear h1 HM
  have n0 := ma0 (q.rd 0) (Po.rd_b o 0).1 (Po.rd_b o 0).2 (by show 192 ≤ q.btn; rw [Po.btn_eq o]; have := Po.keys_b o; rcases o.ro with e | e | e | e <;> omega)
  have n2 : (bits .and .i64 (q.rd 2) 126 != 126) = false := ma2 q.li (by rcases o.li with h | h | h | h <;> omega) (by rcases o.li with h | h | h | h <;> omega)
  have n6 : (bits .and .i64 (q.rd 6) 248 != 248) = false := ma6 q.ct o.ct.1 (by have := o.ct.2; omega)
  have n7 : (bits .and .i64 (q.rd 7) 224 != 224) = false := (ma7 q.rq o.rq.1 (by have := o.rq.2; omega) o.rq.2).1
  have n8 : bits .and .i64 (q.rd 7) 31 = q.rq := (ma7 q.rq o.rq.1 (by have := o.rq.2; omega) o.rq.2).2
  generalize hN : W.heap.size = N at *
  go_wp2_with fail
  refine (P1.out.read 0 (by decide) (by decide)).mono ?_
  rintro e w2 ⟨rfl, h2⟩
  have P2 : Hid _ := h2
  clear h2 P1
  go_wp2_with fail
  refine (P2.out.read 2 (by decide) (by decide)).mono ?_
  rintro e w3 ⟨rfl, h3⟩
  have P3 : Hid _ := h3
  clear h3 P2
  go_wp2_with fail
  refine (P3.out.read 6 (by decide) (by decide)).mono ?_
  rintro e w4 ⟨rfl, h4⟩
  have P4 : Hid _ := h4
  clear h4 P3
  go_wp2_with fail
  refine (P4.out.read 7 (by decide) (by decide)).mono ?_
  rintro e w5 ⟨rfl, h5⟩
  have P5 : Hid _ := h5
  clear h5 P4
  go_wp2_with fail
  refine (P5.out.reqs).mono ?_
  rintro e w' ⟨rfl, hw'⟩
  obtain rfl := hw'.symm
  rw [n8] at *
  have n9 : (q.rq != q.rq) = false := by simp
  go_wp2_with fail
  refine (HV.out _).mono ?_
  rintro e w' ⟨rfl, hw'⟩
  obtain rfl := hw'.symm
  clear n0 n2 n6 n7 n8 n9 HV
  go_wp2_with fail
  have P6 : Hid _ := P5.out.keep (.cells #[.int .i64 65281, .int .i64 65285, .int .i64 65286] 3)
  generalize hD : w5.heap.size = D at *
  generalize World.alloc w5 _ = w6 at *
  clear P5 o hD
  generalize hO : Obj.cells #[.int .i64 65281, .int .i64 65285, .int .i64 65286] 3 = O at *
  go_loopw [16] (fun I wr => ∃ j : Nat, j ≤ 3 ∧ I = .int .i64 j ∧ Hid (Pb W [(D, O)] N (msk q V j) us wr)) (fun I _ => 3 - (intOf I).toNat)
  case atStart => exact ⟨0, by omega, rfl, P6⟩
  case round =>
    obtain ⟨j, hj, rfl, HP⟩ := hrel
    by_cases hlt : j < 3
    · have hj3 : j = 0 ∨ j = 1 ∨ j = 2 := by omega
      rcases hj3 with rfl | rfl | rfl
      · have k : wr.cell? ⟨D, 0, none⟩ = some (.int .i64 (adr 1)) := by have hk := HP.out.kept (List.mem_cons_self ..); rw [← hO] at hk; exact (cell_of_row _ _ _ _ _ _ hk).trans rfl
        have HW : Hid _ := HP.out.write 1 V (by decide) (by decide) v0 (by omega)
        have k' : Hid (∀ w, Pb W [(D, O)] N (msk q V 1) us w → w.cell? ⟨D, 0, none⟩ = some (.int .i64 (adr 1))) := fun w h => by have hk := h.kept (List.mem_cons_self ..); rw [← hO] at hk; exact (cell_of_row _ _ _ _ _ _ hk).trans rfl
        have hr : (msk q V 1).rd 1 = V := rfl
        have he : (V != V) = false := by simp
        clear HP
        go_wp2_with fail
        refine Calls.mono HW.out ?_
        rintro e w6 ⟨rfl, h6⟩
        have P6 : Hid (Pb W [(D, O)] N (msk q V 1) us w6) := h6
        have k6 := k'.out w6 h6
        clear h6 HW k'
        go_wp2_with fail
        refine (P6.out.read 1 (by decide) (by decide)).mono ?_
        rintro e w7 ⟨rfl, h7⟩
        have P7 : Hid _ := h7
        rw [hr]
        clear h7 P6 hr k k6
        go_wp2_with fail
        go_roundw
        case rel => exact ⟨1, by omega, rfl, P7⟩
        case measure => simp [intOf]
      · have k : wr.cell? ⟨D, 1, none⟩ = some (.int .i64 (adr 4)) := by have hk := HP.out.kept (List.mem_cons_self ..); rw [← hO] at hk; exact (cell_of_row _ _ _ _ _ _ hk).trans rfl
        have HW : Hid _ := HP.out.write 4 V (by decide) (by decide) v0 (by omega)
        have k' : Hid (∀ w, Pb W [(D, O)] N (msk q V 2) us w → w.cell? ⟨D, 1, none⟩ = some (.int .i64 (adr 4))) := fun w h => by have hk := h.kept (List.mem_cons_self ..); rw [← hO] at hk; exact (cell_of_row _ _ _ _ _ _ hk).trans rfl
        have hr : (msk q V 2).rd 4 = V := rfl
        have he : (V != V) = false := by simp
        clear HP
        go_wp2_with fail
        refine Calls.mono HW.out ?_
        rintro e w6 ⟨rfl, h6⟩
        have P6 : Hid (Pb W [(D, O)] N (msk q V 2) us w6) := h6
        have k6 := k'.out w6 h6
        clear h6 HW k'
        go_wp2_with fail
        refine (P6.out.read 4 (by decide) (by decide)).mono ?_
        rintro e w7 ⟨rfl, h7⟩
        have P7 : Hid _ := h7
        rw [hr]
        clear h7 P6 hr k k6
        go_wp2_with fail
        go_roundw
        case rel => exact ⟨2, by omega, rfl, P7⟩
        case measure => simp [intOf]
      · have k : wr.cell? ⟨D, 2, none⟩ = some (.int .i64 (adr 5)) := by have hk := HP.out.kept (List.mem_cons_self ..); rw [← hO] at hk; exact (cell_of_row _ _ _ _ _ _ hk).trans rfl
        have HW : Hid _ := HP.out.write 5 V (by decide) (by decide) v0 (by omega)
        have k' : Hid (∀ w, Pb W [(D, O)] N (msk q V 3) us w → w.cell? ⟨D, 2, none⟩ = some (.int .i64 (adr 5))) := fun w h => by have hk := h.kept (List.mem_cons_self ..); rw [← hO] at hk; exact (cell_of_row _ _ _ _ _ _ hk).trans rfl
        have hr : (msk q V 3).rd 5 = V := rfl
        have he : (V != V) = false := by simp
        clear HP
        go_wp2_with fail
        refine Calls.mono HW.out ?_
        rintro e w6 ⟨rfl, h6⟩
        have P6 : Hid (Pb W [(D, O)] N (msk q V 3) us w6) := h6
        have k6 := k'.out w6 h6
        clear h6 HW k'
        go_wp2_with fail
        refine (P6.out.read 5 (by decide) (by decide)).mono ?_
        rintro e w7 ⟨rfl, h7⟩
        have P7 : Hid _ := h7
        rw [hr]
        clear h7 P6 hr k k6
        go_wp2_with fail
        go_roundw
        case rel => exact ⟨3, by omega, rfl, P7⟩
        case measure => simp [intOf]
    · have hje : j = 3 := by omega
      subst hje
      have HW : Hid _ := HP.out.write 6 V (by decide) (by decide) v0 (by omega)
      have ec : ((msk q V 3).wr 6 V).ct = V % 8 := by
        show ((msk q V 3).driveThen { msk q V 3 with ct := V % 8 }).ct = V % 8
        unfold Po.driveThen Po.tick
        split
        · split <;> rfl
        · rfl
      have hr : ((msk q V 3).wr 6 V).rd 6 = 248 + V % 8 := by
        show bits .or .u8 ((msk q V 3).wr 6 V).ct 248 = _
        rw [ec]
        exact ma8 V v0 (by omega)
      generalize (msk q V 3).wr 6 V = r at *
      clear HP ec
      go_wp2_with fail
      refine Calls.mono HW.out ?_
      rintro e w7 ⟨rfl, h7⟩
      have P7 : Hid _ := h7
      clear h7 HW
      go_wp2_with fail
      refine (P7.out.read 6 (by decide) (by decide)).mono ?_
      rintro e w8 ⟨rfl, h8⟩
      have P8 : Hid _ := h8
      rw [hr]
      clear h8 P7 hr
      go_wp2_with fail
      go_ret
      exact ⟨by first | rfl | exact retB (by simp), P8.out.up⟩
end Go.Proofs.YteomldlmdpphaaaDoor
