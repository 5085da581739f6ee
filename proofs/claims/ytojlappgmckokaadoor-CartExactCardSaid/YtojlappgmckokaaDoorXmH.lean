import Derived.Test.YtojlappgmckokaaDoorXmF
import Derived.Test.YtojlappgmckokaaDoorCbD
import Derived.Test.YtojlappgmckokaaDoorXmB
import Derived.Deep.DeepCutAuto
/- Cart: the document's Write. -/
namespace Go.Proofs.YtojlappgmckokaaDoor
open Go.Shelf Go.RowKit
set_option linter.unusedVariables false
set_option linter.unusedSimpArgs false
variable {w w' W : World} {C : Ct} {Y : Yd}
/-- blocks that the document's cartridge never writes -/
def Yd.K (Y : Yd) (k : Nat) : Prop := k ≠ Y.yb ∧ k ≠ Y.rb
theorem Yd.ofFr {b : Nat} (h : Fr b w w') (hb : b = Y.yb ∨ b = Y.rb) : FK Y.K w w' := FK.ofFr h (fun k => by rcases hb with rfl | rfl; exact k.1 rfl; exact k.2 rfl)
def rtCells (Y : Yd) (C : Ct) : Array Value := #[.string C.hd, .int .i64 (C.ty : Int), .int .i64 (C.mpr : Int), .int .i64 (C.bk : Int), .int .i64 (C.rm : Int), .bool C.bat, .slice (some ⟨Y.rg, 0, none⟩) C.n Y.nc, .slice (some ⟨Y.rb, 0, none⟩) C.rm Y.rc, .int .i64 (C.m.on : Int), .int .i64 (C.m.low : Int), .int .i64 (C.m.high : Int), .int .i64 (C.m.pick : Int), .int .i64 (C.m.mode : Int)]
theorem RtAt.regs {m : Mp} {k : Nat} {v : Value} (h : RtAt W Y C) (u : Up W w) (hs : m.Std) (hk : m.kd = C.m.kd) (e : (rtCells Y C).setIfInBounds k v = rtCells Y { C with m := m }) : RtAt (w.setCell ⟨Y.yb, k, none⟩ v) Y { C with m := m } ∧ FK Y.K W (w.setCell ⟨Y.yb, k, none⟩ v) := by
  have h2 := h.up u
  have fr : Fr Y.yb w (w.setCell ⟨Y.yb, k, none⟩ v) := (Fr.refl Y.yb w).setCell
  refine ⟨⟨?_, h2.rom.of_block (fr.block _ h2.rom.lt h2.d1.symm), h2.ram.of_block (fr.block _ h2.ram.lt h2.d2.symm), hs, ?_, by rw [hk]; exact h2.mp, h2.nb, h2.nc, h2.rc, by rw [hk]; exact h2.rm, h2.d1, h2.d2, h2.d3⟩, (FK.ofUp u).trans (Yd.ofFr fr (Or.inl rfl))⟩
  · have hb := h2.blk
    rw [heap_setCell_same w Y.yb k _ _ _ hb]
    show some (Obj.cells ((rtCells Y C).setIfInBounds k v) _ _) = some (Obj.cells (rtCells Y { C with m := m }) _ _)
    rw [e]
  · intro k
    have := h2.ok k
    unfold Mp.kp at this ⊢
    rw [hk]
    exact this
theorem atLeast1_any {v : Nat} (hv : v ≤ 255) (w : World) : Calls Tryd.prog 65 #[.int .i64 (v : Int)] w fun e w' => e = .returned (.int .i64 ((max v 1 : Nat) : Int)) ∧ w' = w := by
  by_cases h : v = 0
  · subst h
    go_enter Tryd.func65, Tryd.ntmps65
    go_wp2_with fail
    go_ret
    exact ⟨rfl, rfl⟩
  · have z : ((v : Int) == 0) = false := by rw [beq_eq_false_iff_ne]; omega
    have e : max v 1 = v := by omega
    rw [e]
    go_enter Tryd.func65, Tryd.ntmps65
    go_wp2_with fail
    go_ret
    exact ⟨rfl, rfl⟩
theorem tmodN (x k : Nat) : (x : Int).tmod (k : Int) = ((x % k : Nat) : Int) := by rw [Int.tmod_eq_emod_of_nonneg (by omega)]; rfl
theorem tdivN (x k : Nat) : (x : Int).tdiv (k : Int) = ((x / k : Nat) : Int) := by rw [Int.tdiv_eq_ediv_of_nonneg (by omega)]; rfl
set_option maxRecDepth 100000 in
set_option maxHeartbeats 2000000 in
theorem write_0 {a : Nat} {x : Nat} {on low high pick mode : Nat} {t : ByteArray} {ty bk rm n : Nat} {bt : Bool} {f rf : Nat → Int} (h : RtAt W Y ⟨t, ty, 0, bk, rm, bt, n, f, rf, ⟨0, on, low, high, pick, mode⟩⟩) (ha : a < 32768) (hx : x ≤ 255) : Calls Tryd.prog 49 #[.pointer (some ⟨Y.yb, 0, none⟩), .int .i64 (a : Int), .int .u8 (x : Int)] W fun e w' => e = .returned (.tuple #[]) ∧ RtAt w' Y (Ct.set ⟨t, ty, 0, bk, rm, bt, n, f, rf, ⟨0, on, low, high, pick, mode⟩⟩ a x) ∧ FK Y.K W w' := by
  have HSd : Hid (Mp.Std (Mp.set ⟨0, on, low, high, pick, mode⟩ a x)) := by
    have h9 := Ct.wr_std (C := ⟨t, ty, 0, bk, rm, bt, n, f, rf, ⟨0, on, low, high, pick, mode⟩⟩) (a := (a : Int)) (x := x) h.std hx
    unfold Ct.wr at h9
    rw [if_pos (by omega), Int.toNat_natCast] at h9
    exact h9
  have HRt : Hid (RtAt W Y ⟨t, ty, 0, bk, rm, bt, n, f, rf, ⟨0, on, low, high, pick, mode⟩⟩) := h
  have HCs : Hid (∀ w, Up W w → w.cell? ⟨Y.yb, 2, none⟩ = some (.int .i64 0) ∧ (∀ k, w.frozen? ⟨Y.yb, k, none⟩ = false) ∧ w.cell? ⟨Y.yb, 8, none⟩ = some (.int .i64 (on : Int)) ∧ w.cell? ⟨Y.yb, 9, none⟩ = some (.int .i64 (low : Int)) ∧ w.cell? ⟨Y.yb, 10, none⟩ = some (.int .i64 (high : Int)) ∧ w.cell? ⟨Y.yb, 11, none⟩ = some (.int .i64 (pick : Int)) ∧ w.cell? ⟨Y.yb, 12, none⟩ = some (.int .i64 (mode : Int))) := fun w u => by
    have hB := (h.up u).blk
    exact ⟨heap_cell hB rfl, fun k => heap_fz hB, heap_cell hB rfl, heap_cell hB rfl, heap_cell hB rfl, heap_cell hB rfl, heap_cell hB rfl⟩
  have HAt : Hid (∀ v, v ≤ 255 → ∀ w, Calls Tryd.prog 65 #[.int .i64 ((v : Nat) : Int)] w fun e w' => e = .returned (.int .i64 ((max v 1 : Nat) : Int)) ∧ w' = w) := fun v hv w => atLeast1_any hv w
  have t16 : (x : Int).tmod 16 = ((x % 16 : Nat) : Int) := tmodN x 16
  have n1 : ¬ (40960 : Int) ≤ (a : Int) := by omega
  have n2 : ¬ (a : Int) < 0 := by omega
  have n3 : ¬ (32767 : Int) < (a : Int) := by omega
  have td : (a : Int).tdiv 8192 = ((a / 8192 : Nat) : Int) := tdivN a 8192
  clear h
  obtain ⟨c2, fz, c8, c9, c10, c11, c12⟩ := HCs.out W (Up.refl W)
  have f8 := fz 8
  have f9 := fz 9
  have f10 := fz 10
  have f11 := fz 11
  have f12 := fz 12
  clear fz
  have HMe : Hid (Mp.set ⟨0, on, low, high, pick, mode⟩ a x = ⟨0, on, low, high, pick, mode⟩) := by
    show Mp.set ⟨0, on, low, high, pick, mode⟩ a x = ⟨0, on, low, high, pick, mode⟩
    unfold Mp.set
    rfl
  go_enter Tryd.func49, Tryd.ntmps49
  go_wp2_with fail
  (try simp only [Exit.inBlock, Exit.then])
  refine bodyPost_ret (results_none rfl _ _ _) rfl ?_
  refine ⟨rfl, ?_, FK.ofUp (Up.refl _)⟩
  unfold Ct.set
  rw [HMe.out]
  exact HRt.out
set_option maxRecDepth 100000 in
set_option maxHeartbeats 2000000 in
theorem write_1 {a : Nat} {x : Nat} {on low high pick mode : Nat} {t : ByteArray} {ty bk rm n : Nat} {bt : Bool} {f rf : Nat → Int} (h : RtAt W Y ⟨t, ty, 1, bk, rm, bt, n, f, rf, ⟨1, on, low, high, pick, mode⟩⟩) (ha : a < 32768) (hx : x ≤ 255) : Calls Tryd.prog 49 #[.pointer (some ⟨Y.yb, 0, none⟩), .int .i64 (a : Int), .int .u8 (x : Int)] W fun e w' => e = .returned (.tuple #[]) ∧ RtAt w' Y (Ct.set ⟨t, ty, 1, bk, rm, bt, n, f, rf, ⟨1, on, low, high, pick, mode⟩⟩ a x) ∧ FK Y.K W w' := by
  have HSd : Hid (Mp.Std (Mp.set ⟨1, on, low, high, pick, mode⟩ a x)) := by
    have h9 := Ct.wr_std (C := ⟨t, ty, 1, bk, rm, bt, n, f, rf, ⟨1, on, low, high, pick, mode⟩⟩) (a := (a : Int)) (x := x) h.std hx
    unfold Ct.wr at h9
    rw [if_pos (by omega), Int.toNat_natCast] at h9
    exact h9
  have HRt : Hid (RtAt W Y ⟨t, ty, 1, bk, rm, bt, n, f, rf, ⟨1, on, low, high, pick, mode⟩⟩) := h
  have HCs : Hid (∀ w, Up W w → w.cell? ⟨Y.yb, 2, none⟩ = some (.int .i64 1) ∧ (∀ k, w.frozen? ⟨Y.yb, k, none⟩ = false) ∧ w.cell? ⟨Y.yb, 8, none⟩ = some (.int .i64 (on : Int)) ∧ w.cell? ⟨Y.yb, 9, none⟩ = some (.int .i64 (low : Int)) ∧ w.cell? ⟨Y.yb, 10, none⟩ = some (.int .i64 (high : Int)) ∧ w.cell? ⟨Y.yb, 11, none⟩ = some (.int .i64 (pick : Int)) ∧ w.cell? ⟨Y.yb, 12, none⟩ = some (.int .i64 (mode : Int))) := fun w u => by
    have hB := (h.up u).blk
    exact ⟨heap_cell hB rfl, fun k => heap_fz hB, heap_cell hB rfl, heap_cell hB rfl, heap_cell hB rfl, heap_cell hB rfl, heap_cell hB rfl⟩
  have HAt : Hid (∀ v, v ≤ 255 → ∀ w, Calls Tryd.prog 65 #[.int .i64 ((v : Nat) : Int)] w fun e w' => e = .returned (.int .i64 ((max v 1 : Nat) : Int)) ∧ w' = w) := fun v hv w => atLeast1_any hv w
  have t16 : (x : Int).tmod 16 = ((x % 16 : Nat) : Int) := tmodN x 16
  have n1 : ¬ (40960 : Int) ≤ (a : Int) := by omega
  have n2 : ¬ (a : Int) < 0 := by omega
  have n3 : ¬ (32767 : Int) < (a : Int) := by omega
  have td : (a : Int).tdiv 8192 = ((a / 8192 : Nat) : Int) := tdivN a 8192
  clear h
  obtain ⟨c2, fz, c8, c9, c10, c11, c12⟩ := HCs.out W (Up.refl W)
  have f8 := fz 8
  have f9 := fz 9
  have f10 := fz 10
  have f11 := fz 11
  have f12 := fz 12
  clear fz
  by_cases hc : a / 8192 = 0
  · skip
    have HMe : Hid (Mp.set ⟨1, on, low, high, pick, mode⟩ a x = ⟨1, onF x, low, high, pick, mode⟩) := by
      show Mp.set ⟨1, on, low, high, pick, mode⟩ a x = ⟨1, onF x, low, high, pick, mode⟩
      unfold Mp.set
      dsimp only
      repeat' split
      all_goals first | rfl | omega | (exfalso; omega)
    have eq : ((a / 8192 : Nat) : Int) = 0 := by omega
    have zq0 : (((a / 8192 : Nat) : Int) == 0) = true := by rw [beq_iff_eq]; omega
    have zq1 : (((a / 8192 : Nat) : Int) == 1) = false := by rw [beq_eq_false_iff_ne]; omega
    have zq2 : (((a / 8192 : Nat) : Int) == 2) = false := by rw [beq_eq_false_iff_ne]; omega
    have zq3 : (((a / 8192 : Nat) : Int) == 3) = false := by rw [beq_eq_false_iff_ne]; omega
    clear eq
    clear hc
    go_enter Tryd.func49, Tryd.ntmps49
    go_upto_if 54 with fail
    go_cut [8] (fun V wx => wx = W ∧ V = .int .i64 ((onF x : Nat) : Int))
    case first =>
      by_cases h10 : x % 16 = 10
      · have z10 : (((x % 16 : Nat) : Int) == 10) = true := by rw [beq_iff_eq]; omega
        have HE : Hid (onF x = 1) := if_pos h10
        clear h10
        go_wp2_with fail
        go_meet
        exact ⟨rfl, by rw [HE.out]; rfl⟩
      · have z10 : (((x % 16 : Nat) : Int) == 10) = false := by rw [beq_eq_false_iff_ne]; omega
        have HE : Hid (onF x = 0) := if_neg h10
        clear h10
        go_wp2_with fail
        all_goals (go_meet; exact ⟨rfl, by rw [HE.out]; rfl⟩)
    case rest =>
    obtain ⟨hwx, rfl⟩ := hcut
    rw [hwx]
    clear hwx
    go_wp2_with fail
    go_end0
    have h9 := HSd.out
    rw [HMe.out] at h9
    have hr := HRt.out.regs (k := 8) (m := ⟨1, onF x, low, high, pick, mode⟩) (v := .int .i64 ((onF x : Nat) : Int)) (Up.refl W) h9 rfl rfl
    refine ⟨rfl, ?_, hr.2⟩
    unfold Ct.set
    rw [HMe.out]
    exact hr.1
  have hn0 := hc
  clear hc
  by_cases hc : a / 8192 = 1
  · skip
    have HMe : Hid (Mp.set ⟨1, on, low, high, pick, mode⟩ a x = ⟨1, on, max (x % 32) 1, high, pick, mode⟩) := by
      show Mp.set ⟨1, on, low, high, pick, mode⟩ a x = ⟨1, on, max (x % 32) 1, high, pick, mode⟩
      unfold Mp.set
      dsimp only
      repeat' split
      all_goals first | rfl | omega | (exfalso; omega)
    obtain ⟨VX, hVX⟩ : ∃ V : Nat, V = x % 32 := ⟨_, rfl⟩
    have tm : (x : Int).tmod 32 = (VX : Int) := by rw [hVX]; exact tmodN x 32
    have v255 : VX ≤ 255 := by rw [hVX]; omega
    rw [← hVX] at HMe
    clear hVX
    have eq : ((a / 8192 : Nat) : Int) = 1 := by omega
    have zq0 : (((a / 8192 : Nat) : Int) == 0) = false := by rw [beq_eq_false_iff_ne]; omega
    have zq1 : (((a / 8192 : Nat) : Int) == 1) = true := by rw [beq_iff_eq]; omega
    have zq2 : (((a / 8192 : Nat) : Int) == 2) = false := by rw [beq_eq_false_iff_ne]; omega
    have zq3 : (((a / 8192 : Nat) : Int) == 3) = false := by rw [beq_eq_false_iff_ne]; omega
    clear eq
    clear hc
    go_enter Tryd.func49, Tryd.ntmps49
    go_upto_if 54 with fail
    go_cut [8] (fun V wx => wx = W ∧ V = .int .i64 ((onF x : Nat) : Int))
    case first =>
      by_cases h10 : x % 16 = 10
      · have z10 : (((x % 16 : Nat) : Int) == 10) = true := by rw [beq_iff_eq]; omega
        have HE : Hid (onF x = 1) := if_pos h10
        clear h10
        go_wp2_with fail
        go_meet
        exact ⟨rfl, by rw [HE.out]; rfl⟩
      · have z10 : (((x % 16 : Nat) : Int) == 10) = false := by rw [beq_eq_false_iff_ne]; omega
        have HE : Hid (onF x = 0) := if_neg h10
        clear h10
        go_wp2_with fail
        all_goals (go_meet; exact ⟨rfl, by rw [HE.out]; rfl⟩)
    case rest =>
    obtain ⟨hwx, rfl⟩ := hcut
    rw [hwx]
    clear hwx
    have HA : Hid _ := HAt.out VX v255
    go_wp2_with fail
    refine wp_still2 7 (by kernel_rfl) (by decide +kernel) ?_
    intro w1 hw1
    have u1 : Up W w1 := by rw [hw1]; exact (Up.refl W).drew
    have HU1 : Hid (Up W w1) := u1
    clear c2 c8 c9 c10 c11 c12 f8 f9 f10 f11 f12 hw1
    obtain ⟨c2, fz, c8, c9, c10, c11, c12⟩ := HCs.out w1 u1
    have f9 := fz 9
    clear fz u1
    simp only [List.take_succ_cons, List.take_zero, List.drop_succ_cons, List.drop_zero]
    repeat (go_big_quiet_step (exact HA.out _ _))
    refine wpQuiet_nil ?_
    go_wp2_with fail
    go_end0
    have h9 := HSd.out
    rw [HMe.out] at h9
    have hr := HRt.out.regs (k := 9) (m := ⟨1, on, max (VX) 1, high, pick, mode⟩) (v := .int .i64 ((max (VX) 1 : Nat) : Int)) HU1.out h9 rfl rfl
    refine ⟨rfl, ?_, hr.2⟩
    unfold Ct.set
    rw [HMe.out]
    exact hr.1
  have hn1 := hc
  clear hc
  by_cases hc : a / 8192 = 2
  · skip
    have HMe : Hid (Mp.set ⟨1, on, low, high, pick, mode⟩ a x = ⟨1, on, low, high, x % 4, mode⟩) := by
      show Mp.set ⟨1, on, low, high, pick, mode⟩ a x = ⟨1, on, low, high, x % 4, mode⟩
      unfold Mp.set
      dsimp only
      repeat' split
      all_goals first | rfl | omega | (exfalso; omega)
    obtain ⟨VX, hVX⟩ : ∃ V : Nat, V = x % 4 := ⟨_, rfl⟩
    have tm : (x : Int).tmod 4 = (VX : Int) := by rw [hVX]; exact tmodN x 4
    have v255 : VX ≤ 255 := by rw [hVX]; omega
    rw [← hVX] at HMe
    clear hVX
    have eq : ((a / 8192 : Nat) : Int) = 2 := by omega
    have zq0 : (((a / 8192 : Nat) : Int) == 0) = false := by rw [beq_eq_false_iff_ne]; omega
    have zq1 : (((a / 8192 : Nat) : Int) == 1) = false := by rw [beq_eq_false_iff_ne]; omega
    have zq2 : (((a / 8192 : Nat) : Int) == 2) = true := by rw [beq_iff_eq]; omega
    have zq3 : (((a / 8192 : Nat) : Int) == 3) = false := by rw [beq_eq_false_iff_ne]; omega
    clear eq
    clear hc
    go_enter Tryd.func49, Tryd.ntmps49
    go_upto_if 54 with fail
    go_cut [8] (fun V wx => wx = W ∧ V = .int .i64 ((onF x : Nat) : Int))
    case first =>
      by_cases h10 : x % 16 = 10
      · have z10 : (((x % 16 : Nat) : Int) == 10) = true := by rw [beq_iff_eq]; omega
        have HE : Hid (onF x = 1) := if_pos h10
        clear h10
        go_wp2_with fail
        go_meet
        exact ⟨rfl, by rw [HE.out]; rfl⟩
      · have z10 : (((x % 16 : Nat) : Int) == 10) = false := by rw [beq_eq_false_iff_ne]; omega
        have HE : Hid (onF x = 0) := if_neg h10
        clear h10
        go_wp2_with fail
        all_goals (go_meet; exact ⟨rfl, by rw [HE.out]; rfl⟩)
    case rest =>
    obtain ⟨hwx, rfl⟩ := hcut
    rw [hwx]
    clear hwx
    go_wp2_with fail
    go_end0
    have h9 := HSd.out
    rw [HMe.out] at h9
    have hr := HRt.out.regs (k := 11) (m := ⟨1, on, low, high, VX, mode⟩) (v := .int .i64 ((VX : Nat) : Int)) (Up.refl W) h9 rfl rfl
    refine ⟨rfl, ?_, hr.2⟩
    unfold Ct.set
    rw [HMe.out]
    exact hr.1
  have hn2 := hc
  clear hc
  have hc : a / 8192 = 3 := by omega
  have HMe : Hid (Mp.set ⟨1, on, low, high, pick, mode⟩ a x = ⟨1, on, low, high, pick, x % 2⟩) := by
    show Mp.set ⟨1, on, low, high, pick, mode⟩ a x = ⟨1, on, low, high, pick, x % 2⟩
    unfold Mp.set
    dsimp only
    repeat' split
    all_goals first | rfl | omega | (exfalso; omega)
  obtain ⟨VX, hVX⟩ : ∃ V : Nat, V = x % 2 := ⟨_, rfl⟩
  have tm : (x : Int).tmod 2 = (VX : Int) := by rw [hVX]; exact tmodN x 2
  have v255 : VX ≤ 255 := by rw [hVX]; omega
  rw [← hVX] at HMe
  clear hVX
  have eq : ((a / 8192 : Nat) : Int) = 3 := by omega
  have zq0 : (((a / 8192 : Nat) : Int) == 0) = false := by rw [beq_eq_false_iff_ne]; omega
  have zq1 : (((a / 8192 : Nat) : Int) == 1) = false := by rw [beq_eq_false_iff_ne]; omega
  have zq2 : (((a / 8192 : Nat) : Int) == 2) = false := by rw [beq_eq_false_iff_ne]; omega
  have zq3 : (((a / 8192 : Nat) : Int) == 3) = true := by rw [beq_iff_eq]; omega
  clear eq
  clear hc
  go_enter Tryd.func49, Tryd.ntmps49
  go_upto_if 54 with fail
  go_cut [8] (fun V wx => wx = W ∧ V = .int .i64 ((onF x : Nat) : Int))
  case first =>
    by_cases h10 : x % 16 = 10
    · have z10 : (((x % 16 : Nat) : Int) == 10) = true := by rw [beq_iff_eq]; omega
      have HE : Hid (onF x = 1) := if_pos h10
      clear h10
      go_wp2_with fail
      go_meet
      exact ⟨rfl, by rw [HE.out]; rfl⟩
    · have z10 : (((x % 16 : Nat) : Int) == 10) = false := by rw [beq_eq_false_iff_ne]; omega
      have HE : Hid (onF x = 0) := if_neg h10
      clear h10
      go_wp2_with fail
      all_goals (go_meet; exact ⟨rfl, by rw [HE.out]; rfl⟩)
  case rest =>
  obtain ⟨hwx, rfl⟩ := hcut
  rw [hwx]
  clear hwx
  go_wp2_with fail
  go_end0
  have h9 := HSd.out
  rw [HMe.out] at h9
  have hr := HRt.out.regs (k := 12) (m := ⟨1, on, low, high, pick, VX⟩) (v := .int .i64 ((VX : Nat) : Int)) (Up.refl W) h9 rfl rfl
  refine ⟨rfl, ?_, hr.2⟩
  unfold Ct.set
  rw [HMe.out]
  exact hr.1
set_option maxRecDepth 100000 in
set_option maxHeartbeats 2000000 in
theorem write_2 {a : Nat} {x : Nat} {on low high pick mode : Nat} {t : ByteArray} {ty bk rm n : Nat} {bt : Bool} {f rf : Nat → Int} (h : RtAt W Y ⟨t, ty, 2, bk, rm, bt, n, f, rf, ⟨2, on, low, high, pick, mode⟩⟩) (ha : a < 32768) (hx : x ≤ 255) : Calls Tryd.prog 49 #[.pointer (some ⟨Y.yb, 0, none⟩), .int .i64 (a : Int), .int .u8 (x : Int)] W fun e w' => e = .returned (.tuple #[]) ∧ RtAt w' Y (Ct.set ⟨t, ty, 2, bk, rm, bt, n, f, rf, ⟨2, on, low, high, pick, mode⟩⟩ a x) ∧ FK Y.K W w' := by
  have HSd : Hid (Mp.Std (Mp.set ⟨2, on, low, high, pick, mode⟩ a x)) := by
    have h9 := Ct.wr_std (C := ⟨t, ty, 2, bk, rm, bt, n, f, rf, ⟨2, on, low, high, pick, mode⟩⟩) (a := (a : Int)) (x := x) h.std hx
    unfold Ct.wr at h9
    rw [if_pos (by omega), Int.toNat_natCast] at h9
    exact h9
  have HRt : Hid (RtAt W Y ⟨t, ty, 2, bk, rm, bt, n, f, rf, ⟨2, on, low, high, pick, mode⟩⟩) := h
  have HCs : Hid (∀ w, Up W w → w.cell? ⟨Y.yb, 2, none⟩ = some (.int .i64 2) ∧ (∀ k, w.frozen? ⟨Y.yb, k, none⟩ = false) ∧ w.cell? ⟨Y.yb, 8, none⟩ = some (.int .i64 (on : Int)) ∧ w.cell? ⟨Y.yb, 9, none⟩ = some (.int .i64 (low : Int)) ∧ w.cell? ⟨Y.yb, 10, none⟩ = some (.int .i64 (high : Int)) ∧ w.cell? ⟨Y.yb, 11, none⟩ = some (.int .i64 (pick : Int)) ∧ w.cell? ⟨Y.yb, 12, none⟩ = some (.int .i64 (mode : Int))) := fun w u => by
    have hB := (h.up u).blk
    exact ⟨heap_cell hB rfl, fun k => heap_fz hB, heap_cell hB rfl, heap_cell hB rfl, heap_cell hB rfl, heap_cell hB rfl, heap_cell hB rfl⟩
  have HAt : Hid (∀ v, v ≤ 255 → ∀ w, Calls Tryd.prog 65 #[.int .i64 ((v : Nat) : Int)] w fun e w' => e = .returned (.int .i64 ((max v 1 : Nat) : Int)) ∧ w' = w) := fun v hv w => atLeast1_any hv w
  have t16 : (x : Int).tmod 16 = ((x % 16 : Nat) : Int) := tmodN x 16
  have n1 : ¬ (40960 : Int) ≤ (a : Int) := by omega
  have n2 : ¬ (a : Int) < 0 := by omega
  have n3 : ¬ (32767 : Int) < (a : Int) := by omega
  have td : (a : Int).tdiv 8192 = ((a / 8192 : Nat) : Int) := tdivN a 8192
  clear h
  obtain ⟨c2, fz, c8, c9, c10, c11, c12⟩ := HCs.out W (Up.refl W)
  have f8 := fz 8
  have f9 := fz 9
  have f10 := fz 10
  have f11 := fz 11
  have f12 := fz 12
  clear fz
  by_cases hc : 16384 ≤ a
  · skip
    have HMe : Hid (Mp.set ⟨2, on, low, high, pick, mode⟩ a x = ⟨2, on, low, high, pick, mode⟩) := by
      show Mp.set ⟨2, on, low, high, pick, mode⟩ a x = ⟨2, on, low, high, pick, mode⟩
      unfold Mp.set
      dsimp only
      repeat' split
      all_goals first | rfl | omega | (exfalso; omega)
    have t256 : (a : Int).tdiv 256 = ((a / 256 : Nat) : Int) := tdivN a 256
    have t2 : ((a / 256 : Nat) : Int).tmod 2 = ((a / 256 % 2 : Nat) : Int) := tmodN (a / 256) 2
    have zl : ¬ (a : Int) ≤ 16383 := by omega
    clear hc
    go_enter Tryd.func49, Tryd.ntmps49
    go_upto_if 54 with fail
    go_cut [8] (fun V wx => wx = W ∧ V = .int .i64 ((onF x : Nat) : Int))
    case first =>
      by_cases h10 : x % 16 = 10
      · have z10 : (((x % 16 : Nat) : Int) == 10) = true := by rw [beq_iff_eq]; omega
        have HE : Hid (onF x = 1) := if_pos h10
        clear h10
        go_wp2_with fail
        go_meet
        exact ⟨rfl, by rw [HE.out]; rfl⟩
      · have z10 : (((x % 16 : Nat) : Int) == 10) = false := by rw [beq_eq_false_iff_ne]; omega
        have HE : Hid (onF x = 0) := if_neg h10
        clear h10
        go_wp2_with fail
        all_goals (go_meet; exact ⟨rfl, by rw [HE.out]; rfl⟩)
    case rest =>
    obtain ⟨hwx, rfl⟩ := hcut
    rw [hwx]
    clear hwx
    go_wp2_with fail
    go_end0
    refine ⟨rfl, ?_, FK.ofUp (Up.refl _)⟩
    unfold Ct.set
    rw [HMe.out]
    exact HRt.out
  have hn0 := hc
  clear hc
  by_cases hc : a < 16384 ∧ a / 256 % 2 = 1
  · skip
    have HMe : Hid (Mp.set ⟨2, on, low, high, pick, mode⟩ a x = ⟨2, on, max (x % 16) 1, high, pick, mode⟩) := by
      show Mp.set ⟨2, on, low, high, pick, mode⟩ a x = ⟨2, on, max (x % 16) 1, high, pick, mode⟩
      unfold Mp.set
      dsimp only
      repeat' split
      all_goals first | rfl | omega | (exfalso; omega)
    have t256 : (a : Int).tdiv 256 = ((a / 256 : Nat) : Int) := tdivN a 256
    have t2 : ((a / 256 : Nat) : Int).tmod 2 = ((a / 256 % 2 : Nat) : Int) := tmodN (a / 256) 2
    have zl : (a : Int) ≤ 16383 := by omega
    have z1 : (((a / 256 % 2 : Nat) : Int) == 1) = true := by rw [beq_iff_eq]; omega
    clear hc
    go_enter Tryd.func49, Tryd.ntmps49
    go_upto_if 54 with fail
    go_cut [8] (fun V wx => wx = W ∧ V = .int .i64 ((onF x : Nat) : Int))
    case first =>
      by_cases h10 : x % 16 = 10
      · have z10 : (((x % 16 : Nat) : Int) == 10) = true := by rw [beq_iff_eq]; omega
        have HE : Hid (onF x = 1) := if_pos h10
        clear h10
        go_wp2_with fail
        go_meet
        exact ⟨rfl, by rw [HE.out]; rfl⟩
      · have z10 : (((x % 16 : Nat) : Int) == 10) = false := by rw [beq_eq_false_iff_ne]; omega
        have HE : Hid (onF x = 0) := if_neg h10
        clear h10
        go_wp2_with fail
        all_goals (go_meet; exact ⟨rfl, by rw [HE.out]; rfl⟩)
    case rest =>
    obtain ⟨hwx, rfl⟩ := hcut
    rw [hwx]
    clear hwx
    have HA : Hid _ := HAt.out (x % 16) (by omega)
    go_wp2_with fail
    refine wp_still2 7 (by kernel_rfl) (by decide +kernel) ?_
    intro w1 hw1
    have u1 : Up W w1 := by rw [hw1]; exact (Up.refl W).drew
    have HU1 : Hid (Up W w1) := u1
    clear c2 c8 c9 c10 c11 c12 f8 f9 f10 f11 f12 hw1
    obtain ⟨c2, fz, c8, c9, c10, c11, c12⟩ := HCs.out w1 u1
    have f9 := fz 9
    clear fz u1
    simp only [List.take_succ_cons, List.take_zero, List.drop_succ_cons, List.drop_zero]
    repeat (go_big_quiet_step (exact HA.out _ _))
    refine wpQuiet_nil ?_
    go_wp2_with fail
    go_end0
    have h9 := HSd.out
    rw [HMe.out] at h9
    have hr := HRt.out.regs (k := 9) (m := ⟨2, on, max (x % 16) 1, high, pick, mode⟩) (v := .int .i64 ((max (x % 16) 1 : Nat) : Int)) HU1.out h9 rfl rfl
    refine ⟨rfl, ?_, hr.2⟩
    unfold Ct.set
    rw [HMe.out]
    exact hr.1
  have hn1 := hc
  clear hc
  have hc : a < 16384 ∧ a / 256 % 2 = 0 := by omega
  have HMe : Hid (Mp.set ⟨2, on, low, high, pick, mode⟩ a x = ⟨2, onF x, low, high, pick, mode⟩) := by
    show Mp.set ⟨2, on, low, high, pick, mode⟩ a x = ⟨2, onF x, low, high, pick, mode⟩
    unfold Mp.set
    dsimp only
    repeat' split
    all_goals first | rfl | omega | (exfalso; omega)
  have t256 : (a : Int).tdiv 256 = ((a / 256 : Nat) : Int) := tdivN a 256
  have t2 : ((a / 256 : Nat) : Int).tmod 2 = ((a / 256 % 2 : Nat) : Int) := tmodN (a / 256) 2
  have zl : (a : Int) ≤ 16383 := by omega
  have z1 : (((a / 256 % 2 : Nat) : Int) == 1) = false := by rw [beq_eq_false_iff_ne]; omega
  clear hc
  go_enter Tryd.func49, Tryd.ntmps49
  go_upto_if 54 with fail
  go_cut [8] (fun V wx => wx = W ∧ V = .int .i64 ((onF x : Nat) : Int))
  case first =>
    by_cases h10 : x % 16 = 10
    · have z10 : (((x % 16 : Nat) : Int) == 10) = true := by rw [beq_iff_eq]; omega
      have HE : Hid (onF x = 1) := if_pos h10
      clear h10
      go_wp2_with fail
      go_meet
      exact ⟨rfl, by rw [HE.out]; rfl⟩
    · have z10 : (((x % 16 : Nat) : Int) == 10) = false := by rw [beq_eq_false_iff_ne]; omega
      have HE : Hid (onF x = 0) := if_neg h10
      clear h10
      go_wp2_with fail
      all_goals (go_meet; exact ⟨rfl, by rw [HE.out]; rfl⟩)
  case rest =>
  obtain ⟨hwx, rfl⟩ := hcut
  rw [hwx]
  clear hwx
  go_wp2_with fail
  go_end0
  have h9 := HSd.out
  rw [HMe.out] at h9
  have hr := HRt.out.regs (k := 8) (m := ⟨2, onF x, low, high, pick, mode⟩) (v := .int .i64 ((onF x : Nat) : Int)) (Up.refl W) h9 rfl rfl
  refine ⟨rfl, ?_, hr.2⟩
  unfold Ct.set
  rw [HMe.out]
  exact hr.1
set_option maxRecDepth 100000 in
set_option maxHeartbeats 2000000 in
theorem write_3 {a : Nat} {x : Nat} {on low high pick mode : Nat} {t : ByteArray} {ty bk rm n : Nat} {bt : Bool} {f rf : Nat → Int} (h : RtAt W Y ⟨t, ty, 3, bk, rm, bt, n, f, rf, ⟨3, on, low, high, pick, mode⟩⟩) (ha : a < 32768) (hx : x ≤ 255) : Calls Tryd.prog 49 #[.pointer (some ⟨Y.yb, 0, none⟩), .int .i64 (a : Int), .int .u8 (x : Int)] W fun e w' => e = .returned (.tuple #[]) ∧ RtAt w' Y (Ct.set ⟨t, ty, 3, bk, rm, bt, n, f, rf, ⟨3, on, low, high, pick, mode⟩⟩ a x) ∧ FK Y.K W w' := by
  have HSd : Hid (Mp.Std (Mp.set ⟨3, on, low, high, pick, mode⟩ a x)) := by
    have h9 := Ct.wr_std (C := ⟨t, ty, 3, bk, rm, bt, n, f, rf, ⟨3, on, low, high, pick, mode⟩⟩) (a := (a : Int)) (x := x) h.std hx
    unfold Ct.wr at h9
    rw [if_pos (by omega), Int.toNat_natCast] at h9
    exact h9
  have HRt : Hid (RtAt W Y ⟨t, ty, 3, bk, rm, bt, n, f, rf, ⟨3, on, low, high, pick, mode⟩⟩) := h
  have HCs : Hid (∀ w, Up W w → w.cell? ⟨Y.yb, 2, none⟩ = some (.int .i64 3) ∧ (∀ k, w.frozen? ⟨Y.yb, k, none⟩ = false) ∧ w.cell? ⟨Y.yb, 8, none⟩ = some (.int .i64 (on : Int)) ∧ w.cell? ⟨Y.yb, 9, none⟩ = some (.int .i64 (low : Int)) ∧ w.cell? ⟨Y.yb, 10, none⟩ = some (.int .i64 (high : Int)) ∧ w.cell? ⟨Y.yb, 11, none⟩ = some (.int .i64 (pick : Int)) ∧ w.cell? ⟨Y.yb, 12, none⟩ = some (.int .i64 (mode : Int))) := fun w u => by
    have hB := (h.up u).blk
    exact ⟨heap_cell hB rfl, fun k => heap_fz hB, heap_cell hB rfl, heap_cell hB rfl, heap_cell hB rfl, heap_cell hB rfl, heap_cell hB rfl⟩
  have HAt : Hid (∀ v, v ≤ 255 → ∀ w, Calls Tryd.prog 65 #[.int .i64 ((v : Nat) : Int)] w fun e w' => e = .returned (.int .i64 ((max v 1 : Nat) : Int)) ∧ w' = w) := fun v hv w => atLeast1_any hv w
  have t16 : (x : Int).tmod 16 = ((x % 16 : Nat) : Int) := tmodN x 16
  have n1 : ¬ (40960 : Int) ≤ (a : Int) := by omega
  have n2 : ¬ (a : Int) < 0 := by omega
  have n3 : ¬ (32767 : Int) < (a : Int) := by omega
  have td : (a : Int).tdiv 8192 = ((a / 8192 : Nat) : Int) := tdivN a 8192
  clear h
  obtain ⟨c2, fz, c8, c9, c10, c11, c12⟩ := HCs.out W (Up.refl W)
  have f8 := fz 8
  have f9 := fz 9
  have f10 := fz 10
  have f11 := fz 11
  have f12 := fz 12
  clear fz
  by_cases hc : a / 8192 = 0
  · skip
    have HMe : Hid (Mp.set ⟨3, on, low, high, pick, mode⟩ a x = ⟨3, onF x, low, high, pick, mode⟩) := by
      show Mp.set ⟨3, on, low, high, pick, mode⟩ a x = ⟨3, onF x, low, high, pick, mode⟩
      unfold Mp.set
      dsimp only
      repeat' split
      all_goals first | rfl | omega | (exfalso; omega)
    have eq : ((a / 8192 : Nat) : Int) = 0 := by omega
    have zq0 : (((a / 8192 : Nat) : Int) == 0) = true := by rw [beq_iff_eq]; omega
    have zq1 : (((a / 8192 : Nat) : Int) == 1) = false := by rw [beq_eq_false_iff_ne]; omega
    have zq2 : (((a / 8192 : Nat) : Int) == 2) = false := by rw [beq_eq_false_iff_ne]; omega
    have zq3 : (((a / 8192 : Nat) : Int) == 3) = false := by rw [beq_eq_false_iff_ne]; omega
    clear eq
    clear hc
    go_enter Tryd.func49, Tryd.ntmps49
    go_upto_if 54 with fail
    go_cut [8] (fun V wx => wx = W ∧ V = .int .i64 ((onF x : Nat) : Int))
    case first =>
      by_cases h10 : x % 16 = 10
      · have z10 : (((x % 16 : Nat) : Int) == 10) = true := by rw [beq_iff_eq]; omega
        have HE : Hid (onF x = 1) := if_pos h10
        clear h10
        go_wp2_with fail
        go_meet
        exact ⟨rfl, by rw [HE.out]; rfl⟩
      · have z10 : (((x % 16 : Nat) : Int) == 10) = false := by rw [beq_eq_false_iff_ne]; omega
        have HE : Hid (onF x = 0) := if_neg h10
        clear h10
        go_wp2_with fail
        all_goals (go_meet; exact ⟨rfl, by rw [HE.out]; rfl⟩)
    case rest =>
    obtain ⟨hwx, rfl⟩ := hcut
    rw [hwx]
    clear hwx
    go_wp2_with fail
    go_end0
    have h9 := HSd.out
    rw [HMe.out] at h9
    have hr := HRt.out.regs (k := 8) (m := ⟨3, onF x, low, high, pick, mode⟩) (v := .int .i64 ((onF x : Nat) : Int)) (Up.refl W) h9 rfl rfl
    refine ⟨rfl, ?_, hr.2⟩
    unfold Ct.set
    rw [HMe.out]
    exact hr.1
  have hn0 := hc
  clear hc
  by_cases hc : a / 8192 = 1
  · skip
    have HMe : Hid (Mp.set ⟨3, on, low, high, pick, mode⟩ a x = ⟨3, on, max (x % 128) 1, high, pick, mode⟩) := by
      show Mp.set ⟨3, on, low, high, pick, mode⟩ a x = ⟨3, on, max (x % 128) 1, high, pick, mode⟩
      unfold Mp.set
      dsimp only
      repeat' split
      all_goals first | rfl | omega | (exfalso; omega)
    obtain ⟨VX, hVX⟩ : ∃ V : Nat, V = x % 128 := ⟨_, rfl⟩
    have tm : (x : Int).tmod 128 = (VX : Int) := by rw [hVX]; exact tmodN x 128
    have v255 : VX ≤ 255 := by rw [hVX]; omega
    rw [← hVX] at HMe
    clear hVX
    have eq : ((a / 8192 : Nat) : Int) = 1 := by omega
    have zq0 : (((a / 8192 : Nat) : Int) == 0) = false := by rw [beq_eq_false_iff_ne]; omega
    have zq1 : (((a / 8192 : Nat) : Int) == 1) = true := by rw [beq_iff_eq]; omega
    have zq2 : (((a / 8192 : Nat) : Int) == 2) = false := by rw [beq_eq_false_iff_ne]; omega
    have zq3 : (((a / 8192 : Nat) : Int) == 3) = false := by rw [beq_eq_false_iff_ne]; omega
    clear eq
    clear hc
    go_enter Tryd.func49, Tryd.ntmps49
    go_upto_if 54 with fail
    go_cut [8] (fun V wx => wx = W ∧ V = .int .i64 ((onF x : Nat) : Int))
    case first =>
      by_cases h10 : x % 16 = 10
      · have z10 : (((x % 16 : Nat) : Int) == 10) = true := by rw [beq_iff_eq]; omega
        have HE : Hid (onF x = 1) := if_pos h10
        clear h10
        go_wp2_with fail
        go_meet
        exact ⟨rfl, by rw [HE.out]; rfl⟩
      · have z10 : (((x % 16 : Nat) : Int) == 10) = false := by rw [beq_eq_false_iff_ne]; omega
        have HE : Hid (onF x = 0) := if_neg h10
        clear h10
        go_wp2_with fail
        all_goals (go_meet; exact ⟨rfl, by rw [HE.out]; rfl⟩)
    case rest =>
    obtain ⟨hwx, rfl⟩ := hcut
    rw [hwx]
    clear hwx
    have HA : Hid _ := HAt.out VX v255
    go_wp2_with fail
    refine wp_still2 7 (by kernel_rfl) (by decide +kernel) ?_
    intro w1 hw1
    have u1 : Up W w1 := by rw [hw1]; exact (Up.refl W).drew
    have HU1 : Hid (Up W w1) := u1
    clear c2 c8 c9 c10 c11 c12 f8 f9 f10 f11 f12 hw1
    obtain ⟨c2, fz, c8, c9, c10, c11, c12⟩ := HCs.out w1 u1
    have f9 := fz 9
    clear fz u1
    simp only [List.take_succ_cons, List.take_zero, List.drop_succ_cons, List.drop_zero]
    repeat (go_big_quiet_step (exact HA.out _ _))
    refine wpQuiet_nil ?_
    go_wp2_with fail
    go_end0
    have h9 := HSd.out
    rw [HMe.out] at h9
    have hr := HRt.out.regs (k := 9) (m := ⟨3, on, max (VX) 1, high, pick, mode⟩) (v := .int .i64 ((max (VX) 1 : Nat) : Int)) HU1.out h9 rfl rfl
    refine ⟨rfl, ?_, hr.2⟩
    unfold Ct.set
    rw [HMe.out]
    exact hr.1
  have hn1 := hc
  clear hc
  by_cases hc : a / 8192 = 2
  · skip
    have HMe : Hid (Mp.set ⟨3, on, low, high, pick, mode⟩ a x = ⟨3, on, low, high, x % 16, mode⟩) := by
      show Mp.set ⟨3, on, low, high, pick, mode⟩ a x = ⟨3, on, low, high, x % 16, mode⟩
      unfold Mp.set
      dsimp only
      repeat' split
      all_goals first | rfl | omega | (exfalso; omega)
    have eq : ((a / 8192 : Nat) : Int) = 2 := by omega
    have zq0 : (((a / 8192 : Nat) : Int) == 0) = false := by rw [beq_eq_false_iff_ne]; omega
    have zq1 : (((a / 8192 : Nat) : Int) == 1) = false := by rw [beq_eq_false_iff_ne]; omega
    have zq2 : (((a / 8192 : Nat) : Int) == 2) = true := by rw [beq_iff_eq]; omega
    have zq3 : (((a / 8192 : Nat) : Int) == 3) = false := by rw [beq_eq_false_iff_ne]; omega
    clear eq
    clear hc
    go_enter Tryd.func49, Tryd.ntmps49
    go_upto_if 54 with fail
    go_cut [8] (fun V wx => wx = W ∧ V = .int .i64 ((onF x : Nat) : Int))
    case first =>
      by_cases h10 : x % 16 = 10
      · have z10 : (((x % 16 : Nat) : Int) == 10) = true := by rw [beq_iff_eq]; omega
        have HE : Hid (onF x = 1) := if_pos h10
        clear h10
        go_wp2_with fail
        go_meet
        exact ⟨rfl, by rw [HE.out]; rfl⟩
      · have z10 : (((x % 16 : Nat) : Int) == 10) = false := by rw [beq_eq_false_iff_ne]; omega
        have HE : Hid (onF x = 0) := if_neg h10
        clear h10
        go_wp2_with fail
        all_goals (go_meet; exact ⟨rfl, by rw [HE.out]; rfl⟩)
    case rest =>
    obtain ⟨hwx, rfl⟩ := hcut
    rw [hwx]
    clear hwx
    go_wp2_with fail
    go_end0
    have h9 := HSd.out
    rw [HMe.out] at h9
    have hr := HRt.out.regs (k := 11) (m := ⟨3, on, low, high, x % 16, mode⟩) (v := .int .i64 ((x % 16 : Nat) : Int)) (Up.refl W) h9 rfl rfl
    refine ⟨rfl, ?_, hr.2⟩
    unfold Ct.set
    rw [HMe.out]
    exact hr.1
  have hn2 := hc
  clear hc
  have hc : a / 8192 = 3 := by omega
  have HMe : Hid (Mp.set ⟨3, on, low, high, pick, mode⟩ a x = ⟨3, on, low, high, pick, mode⟩) := by
    show Mp.set ⟨3, on, low, high, pick, mode⟩ a x = ⟨3, on, low, high, pick, mode⟩
    unfold Mp.set
    dsimp only
    repeat' split
    all_goals first | rfl | omega | (exfalso; omega)
  have eq : ((a / 8192 : Nat) : Int) = 3 := by omega
  have zq0 : (((a / 8192 : Nat) : Int) == 0) = false := by rw [beq_eq_false_iff_ne]; omega
  have zq1 : (((a / 8192 : Nat) : Int) == 1) = false := by rw [beq_eq_false_iff_ne]; omega
  have zq2 : (((a / 8192 : Nat) : Int) == 2) = false := by rw [beq_eq_false_iff_ne]; omega
  have zq3 : (((a / 8192 : Nat) : Int) == 3) = true := by rw [beq_iff_eq]; omega
  clear eq
  clear hc
  go_enter Tryd.func49, Tryd.ntmps49
  go_upto_if 54 with fail
  go_cut [8] (fun V wx => wx = W ∧ V = .int .i64 ((onF x : Nat) : Int))
  case first =>
    by_cases h10 : x % 16 = 10
    · have z10 : (((x % 16 : Nat) : Int) == 10) = true := by rw [beq_iff_eq]; omega
      have HE : Hid (onF x = 1) := if_pos h10
      clear h10
      go_wp2_with fail
      go_meet
      exact ⟨rfl, by rw [HE.out]; rfl⟩
    · have z10 : (((x % 16 : Nat) : Int) == 10) = false := by rw [beq_eq_false_iff_ne]; omega
      have HE : Hid (onF x = 0) := if_neg h10
      clear h10
      go_wp2_with fail
      all_goals (go_meet; exact ⟨rfl, by rw [HE.out]; rfl⟩)
  case rest =>
  obtain ⟨hwx, rfl⟩ := hcut
  rw [hwx]
  clear hwx
  go_wp2_with fail
  go_end0
  refine ⟨rfl, ?_, FK.ofUp (Up.refl _)⟩
  unfold Ct.set
  rw [HMe.out]
  exact HRt.out
set_option maxRecDepth 100000 in
set_option maxHeartbeats 2000000 in
theorem write_5 {a : Nat} {x : Nat} {on low high pick mode : Nat} {t : ByteArray} {ty bk rm n : Nat} {bt : Bool} {f rf : Nat → Int} (h : RtAt W Y ⟨t, ty, 5, bk, rm, bt, n, f, rf, ⟨5, on, low, high, pick, mode⟩⟩) (ha : a < 32768) (hx : x ≤ 255) : Calls Tryd.prog 49 #[.pointer (some ⟨Y.yb, 0, none⟩), .int .i64 (a : Int), .int .u8 (x : Int)] W fun e w' => e = .returned (.tuple #[]) ∧ RtAt w' Y (Ct.set ⟨t, ty, 5, bk, rm, bt, n, f, rf, ⟨5, on, low, high, pick, mode⟩⟩ a x) ∧ FK Y.K W w' := by
  have HSd : Hid (Mp.Std (Mp.set ⟨5, on, low, high, pick, mode⟩ a x)) := by
    have h9 := Ct.wr_std (C := ⟨t, ty, 5, bk, rm, bt, n, f, rf, ⟨5, on, low, high, pick, mode⟩⟩) (a := (a : Int)) (x := x) h.std hx
    unfold Ct.wr at h9
    rw [if_pos (by omega), Int.toNat_natCast] at h9
    exact h9
  have HRt : Hid (RtAt W Y ⟨t, ty, 5, bk, rm, bt, n, f, rf, ⟨5, on, low, high, pick, mode⟩⟩) := h
  have HCs : Hid (∀ w, Up W w → w.cell? ⟨Y.yb, 2, none⟩ = some (.int .i64 5) ∧ (∀ k, w.frozen? ⟨Y.yb, k, none⟩ = false) ∧ w.cell? ⟨Y.yb, 8, none⟩ = some (.int .i64 (on : Int)) ∧ w.cell? ⟨Y.yb, 9, none⟩ = some (.int .i64 (low : Int)) ∧ w.cell? ⟨Y.yb, 10, none⟩ = some (.int .i64 (high : Int)) ∧ w.cell? ⟨Y.yb, 11, none⟩ = some (.int .i64 (pick : Int)) ∧ w.cell? ⟨Y.yb, 12, none⟩ = some (.int .i64 (mode : Int))) := fun w u => by
    have hB := (h.up u).blk
    exact ⟨heap_cell hB rfl, fun k => heap_fz hB, heap_cell hB rfl, heap_cell hB rfl, heap_cell hB rfl, heap_cell hB rfl, heap_cell hB rfl⟩
  have HAt : Hid (∀ v, v ≤ 255 → ∀ w, Calls Tryd.prog 65 #[.int .i64 ((v : Nat) : Int)] w fun e w' => e = .returned (.int .i64 ((max v 1 : Nat) : Int)) ∧ w' = w) := fun v hv w => atLeast1_any hv w
  have t16 : (x : Int).tmod 16 = ((x % 16 : Nat) : Int) := tmodN x 16
  have n1 : ¬ (40960 : Int) ≤ (a : Int) := by omega
  have n2 : ¬ (a : Int) < 0 := by omega
  have n3 : ¬ (32767 : Int) < (a : Int) := by omega
  have td : (a : Int).tdiv 8192 = ((a / 8192 : Nat) : Int) := tdivN a 8192
  clear h
  obtain ⟨c2, fz, c8, c9, c10, c11, c12⟩ := HCs.out W (Up.refl W)
  have f8 := fz 8
  have f9 := fz 9
  have f10 := fz 10
  have f11 := fz 11
  have f12 := fz 12
  clear fz
  by_cases hc : a / 4096 ≤ 1 ∧ x = 10
  · skip
    have HMe : Hid (Mp.set ⟨5, on, low, high, pick, mode⟩ a x = ⟨5, 1, low, high, pick, mode⟩) := by
      show Mp.set ⟨5, on, low, high, pick, mode⟩ a x = ⟨5, 1, low, high, pick, mode⟩
      unfold Mp.set
      dsimp only
      repeat' split
      all_goals first | rfl | omega | (exfalso; omega)
    have t4 : (a : Int).tdiv 4096 = ((a / 4096 : Nat) : Int) := tdivN a 4096
    have z10 : ((x : Int) == 10) = true := by rw [beq_iff_eq]; omega
    by_cases hv : a / 4096 = 0
    · skip
      have zq0 : (((a / 4096 : Nat) : Int) == 0) = true := by rw [beq_iff_eq]; omega
      have zq1 : (((a / 4096 : Nat) : Int) == 1) = false := by rw [beq_eq_false_iff_ne]; omega
      have zq2 : (((a / 4096 : Nat) : Int) == 2) = false := by rw [beq_eq_false_iff_ne]; omega
      have zq3 : (((a / 4096 : Nat) : Int) == 3) = false := by rw [beq_eq_false_iff_ne]; omega
      have zq4 : (((a / 4096 : Nat) : Int) == 4) = false := by rw [beq_eq_false_iff_ne]; omega
      have zq5 : (((a / 4096 : Nat) : Int) == 5) = false := by rw [beq_eq_false_iff_ne]; omega
      clear hc
      go_enter Tryd.func49, Tryd.ntmps49
      go_upto_if 54 with fail
      go_cut [8] (fun V wx => wx = W ∧ V = .int .i64 ((onF x : Nat) : Int))
      case first =>
        by_cases h10 : x % 16 = 10
        · have z10 : (((x % 16 : Nat) : Int) == 10) = true := by rw [beq_iff_eq]; omega
          have HE : Hid (onF x = 1) := if_pos h10
          clear h10
          go_wp2_with fail
          go_meet
          exact ⟨rfl, by rw [HE.out]; rfl⟩
        · have z10 : (((x % 16 : Nat) : Int) == 10) = false := by rw [beq_eq_false_iff_ne]; omega
          have HE : Hid (onF x = 0) := if_neg h10
          clear h10
          go_wp2_with fail
          all_goals (go_meet; exact ⟨rfl, by rw [HE.out]; rfl⟩)
      case rest =>
      obtain ⟨hwx, rfl⟩ := hcut
      rw [hwx]
      clear hwx
      go_wp2_with fail
      go_end0
      have h9 := HSd.out
      rw [HMe.out] at h9
      have s0 := HRt.out.std
      have hr0 := HRt.out.regs (k := 8) (m := ⟨5, 0, low, high, pick, mode⟩) (v := .int .i64 0) (Up.refl W) ⟨s0.kd, ⟨Nat.zero_le _, Nat.zero_le _⟩, s0.low, s0.high, s0.pick, s0.mode⟩ rfl rfl
      have hr := hr0.1.regs (k := 8) (m := ⟨5, 1, low, high, pick, mode⟩) (v := .int .i64 1) (Up.refl _) h9 rfl rfl
      refine ⟨rfl, ?_, hr0.2.trans hr.2⟩
      unfold Ct.set
      rw [HMe.out]
      exact hr.1
    have zq0 : (((a / 4096 : Nat) : Int) == 0) = false := by rw [beq_eq_false_iff_ne]; omega
    have zq1 : (((a / 4096 : Nat) : Int) == 1) = true := by rw [beq_iff_eq]; omega
    have zq2 : (((a / 4096 : Nat) : Int) == 2) = false := by rw [beq_eq_false_iff_ne]; omega
    have zq3 : (((a / 4096 : Nat) : Int) == 3) = false := by rw [beq_eq_false_iff_ne]; omega
    have zq4 : (((a / 4096 : Nat) : Int) == 4) = false := by rw [beq_eq_false_iff_ne]; omega
    have zq5 : (((a / 4096 : Nat) : Int) == 5) = false := by rw [beq_eq_false_iff_ne]; omega
    clear hc
    go_enter Tryd.func49, Tryd.ntmps49
    go_upto_if 54 with fail
    go_cut [8] (fun V wx => wx = W ∧ V = .int .i64 ((onF x : Nat) : Int))
    case first =>
      by_cases h10 : x % 16 = 10
      · have z10 : (((x % 16 : Nat) : Int) == 10) = true := by rw [beq_iff_eq]; omega
        have HE : Hid (onF x = 1) := if_pos h10
        clear h10
        go_wp2_with fail
        go_meet
        exact ⟨rfl, by rw [HE.out]; rfl⟩
      · have z10 : (((x % 16 : Nat) : Int) == 10) = false := by rw [beq_eq_false_iff_ne]; omega
        have HE : Hid (onF x = 0) := if_neg h10
        clear h10
        go_wp2_with fail
        all_goals (go_meet; exact ⟨rfl, by rw [HE.out]; rfl⟩)
    case rest =>
    obtain ⟨hwx, rfl⟩ := hcut
    rw [hwx]
    clear hwx
    go_wp2_with fail
    go_end0
    have h9 := HSd.out
    rw [HMe.out] at h9
    have s0 := HRt.out.std
    have hr0 := HRt.out.regs (k := 8) (m := ⟨5, 0, low, high, pick, mode⟩) (v := .int .i64 0) (Up.refl W) ⟨s0.kd, ⟨Nat.zero_le _, Nat.zero_le _⟩, s0.low, s0.high, s0.pick, s0.mode⟩ rfl rfl
    have hr := hr0.1.regs (k := 8) (m := ⟨5, 1, low, high, pick, mode⟩) (v := .int .i64 1) (Up.refl _) h9 rfl rfl
    refine ⟨rfl, ?_, hr0.2.trans hr.2⟩
    unfold Ct.set
    rw [HMe.out]
    exact hr.1
  have hn0 := hc
  clear hc
  by_cases hc : a / 4096 ≤ 1 ∧ x ≠ 10
  · skip
    have HMe : Hid (Mp.set ⟨5, on, low, high, pick, mode⟩ a x = ⟨5, 0, low, high, pick, mode⟩) := by
      show Mp.set ⟨5, on, low, high, pick, mode⟩ a x = ⟨5, 0, low, high, pick, mode⟩
      unfold Mp.set
      dsimp only
      repeat' split
      all_goals first | rfl | omega | (exfalso; omega)
    have t4 : (a : Int).tdiv 4096 = ((a / 4096 : Nat) : Int) := tdivN a 4096
    have z10 : ((x : Int) == 10) = false := by rw [beq_eq_false_iff_ne]; omega
    by_cases hv : a / 4096 = 0
    · skip
      have zq0 : (((a / 4096 : Nat) : Int) == 0) = true := by rw [beq_iff_eq]; omega
      have zq1 : (((a / 4096 : Nat) : Int) == 1) = false := by rw [beq_eq_false_iff_ne]; omega
      have zq2 : (((a / 4096 : Nat) : Int) == 2) = false := by rw [beq_eq_false_iff_ne]; omega
      have zq3 : (((a / 4096 : Nat) : Int) == 3) = false := by rw [beq_eq_false_iff_ne]; omega
      have zq4 : (((a / 4096 : Nat) : Int) == 4) = false := by rw [beq_eq_false_iff_ne]; omega
      have zq5 : (((a / 4096 : Nat) : Int) == 5) = false := by rw [beq_eq_false_iff_ne]; omega
      clear hc
      go_enter Tryd.func49, Tryd.ntmps49
      go_upto_if 54 with fail
      go_cut [8] (fun V wx => wx = W ∧ V = .int .i64 ((onF x : Nat) : Int))
      case first =>
        by_cases h10 : x % 16 = 10
        · have z10 : (((x % 16 : Nat) : Int) == 10) = true := by rw [beq_iff_eq]; omega
          have HE : Hid (onF x = 1) := if_pos h10
          clear h10
          go_wp2_with fail
          go_meet
          exact ⟨rfl, by rw [HE.out]; rfl⟩
        · have z10 : (((x % 16 : Nat) : Int) == 10) = false := by rw [beq_eq_false_iff_ne]; omega
          have HE : Hid (onF x = 0) := if_neg h10
          clear h10
          go_wp2_with fail
          all_goals (go_meet; exact ⟨rfl, by rw [HE.out]; rfl⟩)
      case rest =>
      obtain ⟨hwx, rfl⟩ := hcut
      rw [hwx]
      clear hwx
      go_wp2_with fail
      go_end0
      have h9 := HSd.out
      rw [HMe.out] at h9
      have hr := HRt.out.regs (k := 8) (m := ⟨5, 0, low, high, pick, mode⟩) (v := .int .i64 0) (Up.refl W) h9 rfl rfl
      refine ⟨rfl, ?_, hr.2⟩
      unfold Ct.set
      rw [HMe.out]
      exact hr.1
    have zq0 : (((a / 4096 : Nat) : Int) == 0) = false := by rw [beq_eq_false_iff_ne]; omega
    have zq1 : (((a / 4096 : Nat) : Int) == 1) = true := by rw [beq_iff_eq]; omega
    have zq2 : (((a / 4096 : Nat) : Int) == 2) = false := by rw [beq_eq_false_iff_ne]; omega
    have zq3 : (((a / 4096 : Nat) : Int) == 3) = false := by rw [beq_eq_false_iff_ne]; omega
    have zq4 : (((a / 4096 : Nat) : Int) == 4) = false := by rw [beq_eq_false_iff_ne]; omega
    have zq5 : (((a / 4096 : Nat) : Int) == 5) = false := by rw [beq_eq_false_iff_ne]; omega
    clear hc
    go_enter Tryd.func49, Tryd.ntmps49
    go_upto_if 54 with fail
    go_cut [8] (fun V wx => wx = W ∧ V = .int .i64 ((onF x : Nat) : Int))
    case first =>
      by_cases h10 : x % 16 = 10
      · have z10 : (((x % 16 : Nat) : Int) == 10) = true := by rw [beq_iff_eq]; omega
        have HE : Hid (onF x = 1) := if_pos h10
        clear h10
        go_wp2_with fail
        go_meet
        exact ⟨rfl, by rw [HE.out]; rfl⟩
      · have z10 : (((x % 16 : Nat) : Int) == 10) = false := by rw [beq_eq_false_iff_ne]; omega
        have HE : Hid (onF x = 0) := if_neg h10
        clear h10
        go_wp2_with fail
        all_goals (go_meet; exact ⟨rfl, by rw [HE.out]; rfl⟩)
    case rest =>
    obtain ⟨hwx, rfl⟩ := hcut
    rw [hwx]
    clear hwx
    go_wp2_with fail
    go_end0
    have h9 := HSd.out
    rw [HMe.out] at h9
    have hr := HRt.out.regs (k := 8) (m := ⟨5, 0, low, high, pick, mode⟩) (v := .int .i64 0) (Up.refl W) h9 rfl rfl
    refine ⟨rfl, ?_, hr.2⟩
    unfold Ct.set
    rw [HMe.out]
    exact hr.1
  have hn1 := hc
  clear hc
  by_cases hc : a / 4096 = 2
  · skip
    have HMe : Hid (Mp.set ⟨5, on, low, high, pick, mode⟩ a x = ⟨5, on, x, high, pick, mode⟩) := by
      show Mp.set ⟨5, on, low, high, pick, mode⟩ a x = ⟨5, on, x, high, pick, mode⟩
      unfold Mp.set
      dsimp only
      repeat' split
      all_goals first | rfl | omega | (exfalso; omega)
    have t4 : (a : Int).tdiv 4096 = ((a / 4096 : Nat) : Int) := tdivN a 4096
    have zq0 : (((a / 4096 : Nat) : Int) == 0) = false := by rw [beq_eq_false_iff_ne]; omega
    have zq1 : (((a / 4096 : Nat) : Int) == 1) = false := by rw [beq_eq_false_iff_ne]; omega
    have zq2 : (((a / 4096 : Nat) : Int) == 2) = true := by rw [beq_iff_eq]; omega
    have zq3 : (((a / 4096 : Nat) : Int) == 3) = false := by rw [beq_eq_false_iff_ne]; omega
    have zq4 : (((a / 4096 : Nat) : Int) == 4) = false := by rw [beq_eq_false_iff_ne]; omega
    have zq5 : (((a / 4096 : Nat) : Int) == 5) = false := by rw [beq_eq_false_iff_ne]; omega
    clear hc
    go_enter Tryd.func49, Tryd.ntmps49
    go_upto_if 54 with fail
    go_cut [8] (fun V wx => wx = W ∧ V = .int .i64 ((onF x : Nat) : Int))
    case first =>
      by_cases h10 : x % 16 = 10
      · have z10 : (((x % 16 : Nat) : Int) == 10) = true := by rw [beq_iff_eq]; omega
        have HE : Hid (onF x = 1) := if_pos h10
        clear h10
        go_wp2_with fail
        go_meet
        exact ⟨rfl, by rw [HE.out]; rfl⟩
      · have z10 : (((x % 16 : Nat) : Int) == 10) = false := by rw [beq_eq_false_iff_ne]; omega
        have HE : Hid (onF x = 0) := if_neg h10
        clear h10
        go_wp2_with fail
        all_goals (go_meet; exact ⟨rfl, by rw [HE.out]; rfl⟩)
    case rest =>
    obtain ⟨hwx, rfl⟩ := hcut
    rw [hwx]
    clear hwx
    go_wp2_with fail
    go_end0
    have h9 := HSd.out
    rw [HMe.out] at h9
    have hr := HRt.out.regs (k := 9) (m := ⟨5, on, x, high, pick, mode⟩) (v := .int .i64 (x : Int)) (Up.refl W) h9 rfl rfl
    refine ⟨rfl, ?_, hr.2⟩
    unfold Ct.set
    rw [HMe.out]
    exact hr.1
  have hn2 := hc
  clear hc
  by_cases hc : a / 4096 = 3
  · skip
    have HMe : Hid (Mp.set ⟨5, on, low, high, pick, mode⟩ a x = ⟨5, on, low, x % 2, pick, mode⟩) := by
      show Mp.set ⟨5, on, low, high, pick, mode⟩ a x = ⟨5, on, low, x % 2, pick, mode⟩
      unfold Mp.set
      dsimp only
      repeat' split
      all_goals first | rfl | omega | (exfalso; omega)
    obtain ⟨VX, hVX⟩ : ∃ V : Nat, V = x % 2 := ⟨_, rfl⟩
    have tm : (x : Int).tmod 2 = (VX : Int) := by rw [hVX]; exact tmodN x 2
    have v255 : VX ≤ 255 := by rw [hVX]; omega
    rw [← hVX] at HMe
    clear hVX
    have t4 : (a : Int).tdiv 4096 = ((a / 4096 : Nat) : Int) := tdivN a 4096
    have zq0 : (((a / 4096 : Nat) : Int) == 0) = false := by rw [beq_eq_false_iff_ne]; omega
    have zq1 : (((a / 4096 : Nat) : Int) == 1) = false := by rw [beq_eq_false_iff_ne]; omega
    have zq2 : (((a / 4096 : Nat) : Int) == 2) = false := by rw [beq_eq_false_iff_ne]; omega
    have zq3 : (((a / 4096 : Nat) : Int) == 3) = true := by rw [beq_iff_eq]; omega
    have zq4 : (((a / 4096 : Nat) : Int) == 4) = false := by rw [beq_eq_false_iff_ne]; omega
    have zq5 : (((a / 4096 : Nat) : Int) == 5) = false := by rw [beq_eq_false_iff_ne]; omega
    clear hc
    go_enter Tryd.func49, Tryd.ntmps49
    go_upto_if 54 with fail
    go_cut [8] (fun V wx => wx = W ∧ V = .int .i64 ((onF x : Nat) : Int))
    case first =>
      by_cases h10 : x % 16 = 10
      · have z10 : (((x % 16 : Nat) : Int) == 10) = true := by rw [beq_iff_eq]; omega
        have HE : Hid (onF x = 1) := if_pos h10
        clear h10
        go_wp2_with fail
        go_meet
        exact ⟨rfl, by rw [HE.out]; rfl⟩
      · have z10 : (((x % 16 : Nat) : Int) == 10) = false := by rw [beq_eq_false_iff_ne]; omega
        have HE : Hid (onF x = 0) := if_neg h10
        clear h10
        go_wp2_with fail
        all_goals (go_meet; exact ⟨rfl, by rw [HE.out]; rfl⟩)
    case rest =>
    obtain ⟨hwx, rfl⟩ := hcut
    rw [hwx]
    clear hwx
    go_wp2_with fail
    go_end0
    have h9 := HSd.out
    rw [HMe.out] at h9
    have hr := HRt.out.regs (k := 10) (m := ⟨5, on, low, VX, pick, mode⟩) (v := .int .i64 ((VX : Nat) : Int)) (Up.refl W) h9 rfl rfl
    refine ⟨rfl, ?_, hr.2⟩
    unfold Ct.set
    rw [HMe.out]
    exact hr.1
  have hn3 := hc
  clear hc
  by_cases hc : 4 ≤ a / 4096 ∧ a / 4096 ≤ 5
  · skip
    have HMe : Hid (Mp.set ⟨5, on, low, high, pick, mode⟩ a x = ⟨5, on, low, high, x % 16, mode⟩) := by
      show Mp.set ⟨5, on, low, high, pick, mode⟩ a x = ⟨5, on, low, high, x % 16, mode⟩
      unfold Mp.set
      dsimp only
      repeat' split
      all_goals first | rfl | omega | (exfalso; omega)
    have t4 : (a : Int).tdiv 4096 = ((a / 4096 : Nat) : Int) := tdivN a 4096
    by_cases hv : a / 4096 = 4
    · skip
      have zq0 : (((a / 4096 : Nat) : Int) == 0) = false := by rw [beq_eq_false_iff_ne]; omega
      have zq1 : (((a / 4096 : Nat) : Int) == 1) = false := by rw [beq_eq_false_iff_ne]; omega
      have zq2 : (((a / 4096 : Nat) : Int) == 2) = false := by rw [beq_eq_false_iff_ne]; omega
      have zq3 : (((a / 4096 : Nat) : Int) == 3) = false := by rw [beq_eq_false_iff_ne]; omega
      have zq4 : (((a / 4096 : Nat) : Int) == 4) = true := by rw [beq_iff_eq]; omega
      have zq5 : (((a / 4096 : Nat) : Int) == 5) = false := by rw [beq_eq_false_iff_ne]; omega
      clear hc
      go_enter Tryd.func49, Tryd.ntmps49
      go_upto_if 54 with fail
      go_cut [8] (fun V wx => wx = W ∧ V = .int .i64 ((onF x : Nat) : Int))
      case first =>
        by_cases h10 : x % 16 = 10
        · have z10 : (((x % 16 : Nat) : Int) == 10) = true := by rw [beq_iff_eq]; omega
          have HE : Hid (onF x = 1) := if_pos h10
          clear h10
          go_wp2_with fail
          go_meet
          exact ⟨rfl, by rw [HE.out]; rfl⟩
        · have z10 : (((x % 16 : Nat) : Int) == 10) = false := by rw [beq_eq_false_iff_ne]; omega
          have HE : Hid (onF x = 0) := if_neg h10
          clear h10
          go_wp2_with fail
          all_goals (go_meet; exact ⟨rfl, by rw [HE.out]; rfl⟩)
      case rest =>
      obtain ⟨hwx, rfl⟩ := hcut
      rw [hwx]
      clear hwx
      go_wp2_with fail
      go_end0
      have h9 := HSd.out
      rw [HMe.out] at h9
      have hr := HRt.out.regs (k := 11) (m := ⟨5, on, low, high, x % 16, mode⟩) (v := .int .i64 ((x % 16 : Nat) : Int)) (Up.refl W) h9 rfl rfl
      refine ⟨rfl, ?_, hr.2⟩
      unfold Ct.set
      rw [HMe.out]
      exact hr.1
    have zq0 : (((a / 4096 : Nat) : Int) == 0) = false := by rw [beq_eq_false_iff_ne]; omega
    have zq1 : (((a / 4096 : Nat) : Int) == 1) = false := by rw [beq_eq_false_iff_ne]; omega
    have zq2 : (((a / 4096 : Nat) : Int) == 2) = false := by rw [beq_eq_false_iff_ne]; omega
    have zq3 : (((a / 4096 : Nat) : Int) == 3) = false := by rw [beq_eq_false_iff_ne]; omega
    have zq4 : (((a / 4096 : Nat) : Int) == 4) = false := by rw [beq_eq_false_iff_ne]; omega
    have zq5 : (((a / 4096 : Nat) : Int) == 5) = true := by rw [beq_iff_eq]; omega
    clear hc
    go_enter Tryd.func49, Tryd.ntmps49
    go_upto_if 54 with fail
    go_cut [8] (fun V wx => wx = W ∧ V = .int .i64 ((onF x : Nat) : Int))
    case first =>
      by_cases h10 : x % 16 = 10
      · have z10 : (((x % 16 : Nat) : Int) == 10) = true := by rw [beq_iff_eq]; omega
        have HE : Hid (onF x = 1) := if_pos h10
        clear h10
        go_wp2_with fail
        go_meet
        exact ⟨rfl, by rw [HE.out]; rfl⟩
      · have z10 : (((x % 16 : Nat) : Int) == 10) = false := by rw [beq_eq_false_iff_ne]; omega
        have HE : Hid (onF x = 0) := if_neg h10
        clear h10
        go_wp2_with fail
        all_goals (go_meet; exact ⟨rfl, by rw [HE.out]; rfl⟩)
    case rest =>
    obtain ⟨hwx, rfl⟩ := hcut
    rw [hwx]
    clear hwx
    go_wp2_with fail
    go_end0
    have h9 := HSd.out
    rw [HMe.out] at h9
    have hr := HRt.out.regs (k := 11) (m := ⟨5, on, low, high, x % 16, mode⟩) (v := .int .i64 ((x % 16 : Nat) : Int)) (Up.refl W) h9 rfl rfl
    refine ⟨rfl, ?_, hr.2⟩
    unfold Ct.set
    rw [HMe.out]
    exact hr.1
  have hn4 := hc
  clear hc
  have hc : 6 ≤ a / 4096 := by omega
  have HMe : Hid (Mp.set ⟨5, on, low, high, pick, mode⟩ a x = ⟨5, on, low, high, pick, mode⟩) := by
    show Mp.set ⟨5, on, low, high, pick, mode⟩ a x = ⟨5, on, low, high, pick, mode⟩
    unfold Mp.set
    dsimp only
    repeat' split
    all_goals first | rfl | omega | (exfalso; omega)
  have t4 : (a : Int).tdiv 4096 = ((a / 4096 : Nat) : Int) := tdivN a 4096
  have zq0 : (((a / 4096 : Nat) : Int) == 0) = false := by rw [beq_eq_false_iff_ne]; omega
  have zq1 : (((a / 4096 : Nat) : Int) == 1) = false := by rw [beq_eq_false_iff_ne]; omega
  have zq2 : (((a / 4096 : Nat) : Int) == 2) = false := by rw [beq_eq_false_iff_ne]; omega
  have zq3 : (((a / 4096 : Nat) : Int) == 3) = false := by rw [beq_eq_false_iff_ne]; omega
  have zq4 : (((a / 4096 : Nat) : Int) == 4) = false := by rw [beq_eq_false_iff_ne]; omega
  have zq5 : (((a / 4096 : Nat) : Int) == 5) = false := by rw [beq_eq_false_iff_ne]; omega
  clear hc
  go_enter Tryd.func49, Tryd.ntmps49
  go_upto_if 54 with fail
  go_cut [8] (fun V wx => wx = W ∧ V = .int .i64 ((onF x : Nat) : Int))
  case first =>
    by_cases h10 : x % 16 = 10
    · have z10 : (((x % 16 : Nat) : Int) == 10) = true := by rw [beq_iff_eq]; omega
      have HE : Hid (onF x = 1) := if_pos h10
      clear h10
      go_wp2_with fail
      go_meet
      exact ⟨rfl, by rw [HE.out]; rfl⟩
    · have z10 : (((x % 16 : Nat) : Int) == 10) = false := by rw [beq_eq_false_iff_ne]; omega
      have HE : Hid (onF x = 0) := if_neg h10
      clear h10
      go_wp2_with fail
      all_goals (go_meet; exact ⟨rfl, by rw [HE.out]; rfl⟩)
  case rest =>
  obtain ⟨hwx, rfl⟩ := hcut
  rw [hwx]
  clear hwx
  go_wp2_with fail
  go_end0
  refine ⟨rfl, ?_, FK.ofUp (Up.refl _)⟩
  unfold Ct.set
  rw [HMe.out]
  exact HRt.out
theorem write_rom {a x : Nat} (h : RtAt W Y C) (ha : a < 32768) (hx : x ≤ 255) : Calls Tryd.prog 49 #[.pointer (some ⟨Y.yb, 0, none⟩), .int .i64 (a : Int), .int .u8 (x : Int)] W fun e w' => e = .returned (.tuple #[]) ∧ RtAt w' Y (C.set a x) ∧ FK Y.K W w' := by
  obtain ⟨t, ty, mpr, bk, rm, bt, n, f, rf, ⟨kd, on, low, high, pick, mode⟩⟩ := C
  have hm : mpr = kd := h.mp
  have hk : kd = 0 ∨ kd = 1 ∨ kd = 2 ∨ kd = 3 ∨ kd = 5 := h.std.kd
  subst hm
  rcases hk with rfl | rfl | rfl | rfl | rfl
  · exact write_0 h ha hx
  · exact write_1 h ha hx
  · exact write_2 h ha hx
  · exact write_3 h ha hx
  · exact write_5 h ha hx
set_option maxRecDepth 100000 in
theorem write_off {a : Int} {x : Nat} (h : RtAt W Y C) (h1 : a < 0 ∨ (32767 < a ∧ a < 40960) ∨ 49151 < a) : Calls Tryd.prog 49 #[.pointer (some ⟨Y.yb, 0, none⟩), .int .i64 a, .int .u8 (x : Int)] W fun e w' => e = .returned (.tuple #[]) ∧ w' = W := by
  have hB := h.blk
  have c2 : W.cell? ⟨Y.yb, 2, none⟩ = some (.int .i64 (C.mpr : Int)) := heap_cell hB rfl
  clear hB h
  rcases h1 with h1 | ⟨h1, h2⟩ | h1
  · have n1 : ¬ (40960 : Int) ≤ a := by omega
    go_enter Tryd.func49, Tryd.ntmps49
    go_wp2_with fail
    (try simp only [Exit.inBlock, Exit.then])
    refine bodyPost_ret (results_none rfl _ _ _) rfl ?_
    exact ⟨rfl, rfl⟩
  · have n1 : ¬ (40960 : Int) ≤ a := by omega
    have n2 : ¬ a < 0 := by omega
    go_enter Tryd.func49, Tryd.ntmps49
    go_wp2_with fail
    (try simp only [Exit.inBlock, Exit.then])
    refine bodyPost_ret (results_none rfl _ _ _) rfl ?_
    exact ⟨rfl, rfl⟩
  · have n1 : (40960 : Int) ≤ a := by omega
    have n4 : ¬ a ≤ 49151 := by omega
    have n2 : ¬ a < 0 := by omega
    have n3 : (32767 : Int) < a := by omega
    go_enter Tryd.func49, Tryd.ntmps49
    go_wp2_with fail
    (try simp only [Exit.inBlock, Exit.then])
    refine bodyPost_ret (results_none rfl _ _ _) rfl ?_
    exact ⟨rfl, rfl⟩
set_option maxRecDepth 100000 in
set_option maxHeartbeats 1000000 in
theorem write_ram {a : Int} {x : Nat} (h : RtAt W Y C) (h1 : 40960 ≤ a) (h2 : a ≤ 49151) (hx : x ≤ 255) : Calls Tryd.prog 49 #[.pointer (some ⟨Y.yb, 0, none⟩), .int .i64 a, .int .u8 (x : Int)] W fun e w' => e = .returned (.tuple #[]) ∧ RtAt w' Y (C.wr a x) ∧ FK Y.K W w' := by
  have HSe : Hid (Calls Tryd.prog 64 #[.pointer (some ⟨Y.yb, 0, none⟩), .int .i64 a] W fun e w' => e = .returned (.int .i64 (C.see a)) ∧ w' = W) := seenR_any h
  have HRt : Hid (RtAt W Y C) := h
  have hB := h.blk
  have c2 : W.cell? ⟨Y.yb, 2, none⟩ = some (.int .i64 (C.mpr : Int)) := heap_cell hB rfl
  have c7 : W.cell? ⟨Y.yb, 7, none⟩ = some (.slice (some ⟨Y.rb, 0, none⟩) C.rm Y.rc) := heap_cell hB rfl
  have rcl := h.rc.1
  have rcm := h.rc.2
  have hmp := h.mp
  have hkd := h.std.kd
  have hro : ¬ (0 ≤ a ∧ a < 32768) := by omega
  by_cases hh : C.here a
  · have hs : C.see a = ((C.at' a : Nat) : Int) := if_pos hh
    have hl : C.at' a < C.rm := Ct.pl_lt hh.2.2.1
    have HW : Hid (C.wr a x = C.put a x) := by
      show C.wr a x = C.put a x
      unfold Ct.wr
      rw [if_neg hro, if_pos hh]
    have HP : Hid (∀ v : Int, v = C.m.keeps (x : Int) → RtAt (W.setCell ⟨Y.rb, C.at' a, none⟩ (.int .u8 v)) Y (C.put a x) ∧ FK Y.K W (W.setCell ⟨Y.rb, C.at' a, none⟩ (.int .u8 v))) := fun v hv => by
      have fr : Fr Y.rb W (W.setCell ⟨Y.rb, C.at' a, none⟩ (.int .u8 v)) := (Fr.refl Y.rb W).setCell
      refine ⟨⟨(fr.block _ (heap_at h.blk) h.d2).trans h.blk, h.rom.of_block (fr.block _ h.rom.lt h.d3), ?_, h.std, h.ok.put hx, h.mp, h.nb, h.nc, h.rc, h.rm, h.d1, h.d2, h.d3⟩, Yd.ofFr fr (Or.inr rfl)⟩
      rw [hv]
      exact h.ram.set (C.at' a) hl _
    rw [hs] at HSe
    have kJ := h.ram.cell (C.at' a) hl
    have fJ := h.ram.fz (C.at' a)
    generalize C.at' a = J at HSe hl HP kJ fJ
    have lJ : (J : Int) < (C.rm : Int) := by omega
    have hJ0 : (0 : Int) ≤ (J : Int) := by omega
    clear hs hh h hB
    by_cases hk2 : C.m.kd = 2
    · have z2 : ((C.mpr : Int) == 2) = true := by rw [beq_iff_eq, hmp, hk2]; rfl
      have t16 : (x : Int).tmod 16 = (x : Int) % 16 := Int.tmod_eq_emod_of_nonneg (by omega)
      have HK : Hid (C.m.keeps (x : Int) = (x : Int) % 16) := by show C.m.keeps (x : Int) = (x : Int) % 16; unfold Mp.keeps; rw [if_pos hk2]
      clear hk2 hmp hkd
      go_enter Tryd.func49, Tryd.ntmps49
      go_wp2_with fail
      refine Calls.mono HSe.out ?_
      rintro e w1 ⟨rfl, hw1⟩
      obtain rfl := hw1.symm
      clear HSe
      go_wp2_with fail
      (try simp only [Exit.inBlock, Exit.then])
      refine bodyPost_ret (results_none rfl _ _ _) rfl ?_
      have hp := HP.out ((x : Int) % 16) HK.out.symm
      rw [HW.out]
      exact ⟨rfl, hp⟩
    · have z2 : ((C.mpr : Int) == 2) = false := by rw [beq_eq_false_iff_ne, hmp]; omega
      have HK : Hid (C.m.keeps (x : Int) = (x : Int)) := by show C.m.keeps (x : Int) = (x : Int); unfold Mp.keeps; rw [if_neg hk2]
      clear hk2 hmp hkd
      go_enter Tryd.func49, Tryd.ntmps49
      go_wp2_with fail
      refine Calls.mono HSe.out ?_
      rintro e w1 ⟨rfl, hw1⟩
      obtain rfl := hw1.symm
      clear HSe
      go_wp2_with fail
      (try simp only [Exit.inBlock, Exit.then])
      refine bodyPost_ret (results_none rfl _ _ _) rfl ?_
      have hp := HP.out (x : Int) HK.out.symm
      rw [HW.out]
      exact ⟨rfl, hp⟩
  · have hs : C.see a = -1 := if_neg hh
    have HW : Hid (C.wr a x = C) := by
      show C.wr a x = C
      unfold Ct.wr
      rw [if_neg hro, if_neg hh]
    rw [hs] at HSe
    clear hs hh h hB hmp hkd
    go_enter Tryd.func49, Tryd.ntmps49
    go_wp2_with fail
    refine Calls.mono HSe.out ?_
    rintro e w1 ⟨rfl, hw1⟩
    obtain rfl := hw1.symm
    clear HSe
    go_wp2_with fail
    (try simp only [Exit.inBlock, Exit.then])
    refine bodyPost_ret (results_none rfl _ _ _) rfl ?_
    rw [HW.out]
    exact ⟨rfl, HRt.out, FK.ofUp (Up.refl _)⟩
theorem writeR_any {a : Int} {x : Nat} (h : RtAt W Y C) (hx : x ≤ 255) : Calls Tryd.prog 49 #[.pointer (some ⟨Y.yb, 0, none⟩), .int .i64 a, .int .u8 (x : Int)] W fun e w' => e = .returned (.tuple #[]) ∧ RtAt w' Y (C.wr a x) ∧ FK Y.K W w' := by
  by_cases h0 : 0 ≤ a ∧ a < 32768
  · have e : C.wr a x = C.set a.toNat x := by unfold Ct.wr; rw [if_pos h0]
    obtain ⟨n, rfl⟩ := Int.eq_ofNat_of_zero_le h0.1
    rw [Int.toNat_natCast] at e
    rw [e]
    exact write_rom h (by omega) hx
  · by_cases h1 : 40960 ≤ a ∧ a ≤ 49151
    · exact write_ram h h1.1 h1.2 hx
    · have e : C.wr a x = C := by
        unfold Ct.wr
        rw [if_neg h0, if_neg (fun q => h1 ⟨q.1, by have := q.2.1; omega⟩)]
      rw [e]
      refine (write_off h (by omega)).mono fun e w' ⟨q1, q2⟩ => ?_
      rw [q2]
      exact ⟨q1, h, FK.ofUp (Up.refl _)⟩
end Go.Proofs.YtojlappgmckokaaDoor
