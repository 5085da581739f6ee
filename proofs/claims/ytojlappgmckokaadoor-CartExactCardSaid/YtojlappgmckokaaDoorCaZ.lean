/- Cart: Read of the RAM. -/
import Derived.Test.YtojlappgmckokaaDoorCaY
namespace Go.Proofs.YtojlappgmckokaaDoor
open Go.Shelf Go.RowKit
set_option linter.unusedVariables false
set_option linter.unusedSimpArgs false
variable {w w' W : World} {b : Nat}
theorem cpl8 : ∀ a : Int, 0 ≤ a → a ≤ 255 → bits .xor .u8 IntKind.u8.max a = 255 - a := byteAll (by decide +kernel)
set_option maxRecDepth 100000 in
set_option maxHeartbeats 1000000 in
theorem readRam_none {cb A pl : Nat} (hA1 : 40960 ≤ A) (hA2 : A < 49152) (HRP : Hid (∀ w, Up W w → Calls Tryd.prog 41 #[.pointer (some ⟨cb, 0, none⟩), .int .i64 (A : Int)] w fun e w' => e = .returned (.tuple #[.int .i64 (pl : Int), .bool false]) ∧ Up w w')) : Calls Tryd.prog 17 #[.pointer (some ⟨cb, 0, none⟩), .int .i64 (A : Int)] W fun e w' => e = .returned (.int .u8 255) ∧ Up W w' := by
  have e1 : ¬ (A : Int) < 0 := by omega
  have e2 : ¬ (A : Int) < 16384 := by omega
  have e3 : ¬ (A : Int) < 32768 := by omega
  go_enter Tryd.func17, Tryd.ntmps17
  go_wp2_with fail
  refine (HRP.out _ (by first | exact Up.refl _ | exact Up.drewN _ _ | exact (Up.refl _).drew)).mono ?_
  rintro e w5 ⟨rfl, u5⟩
  have HU5 : Hid (Up W w5) := by first | exact u5 | exact (Up.drewN _ _).trans u5 | exact ((Up.refl _).drew).trans u5
  clear u5
  go_wp2_with fail
  first | go_ret | go_ret2
  exact ⟨by first | rfl | (simp; done), HU5.out⟩
set_option maxRecDepth 100000 in
set_option maxHeartbeats 1000000 in
theorem readRam_0 {cb rb rc n A pl x kp : Nat} (hA1 : 40960 ≤ A) (hA2 : A < 49152) (k7 : W.cell? ⟨cb, 7, none⟩ = some (.slice (some ⟨rb, 0, none⟩) n rc)) (k8 : W.cell? ⟨cb, 8, none⟩ = some (.iface 121 (.agg #[]))) (kx : W.cell? ⟨rb, pl, none⟩ = some (.int .u8 (x : Int))) (hpl : pl < n) (hx : x ≤ 255) (hkp : kp ≤ 255)
    (HRP : Hid (∀ w, Up W w → Calls Tryd.prog 41 #[.pointer (some ⟨cb, 0, none⟩), .int .i64 (A : Int)] w fun e w' => e = .returned (.tuple #[.int .i64 (pl : Int), .bool true]) ∧ Up w w'))
    (HKp : Hid (∀ w, Up W w → Calls Tryd.prog 113 #[.agg #[]] w fun e w' => e = .returned (.int .u8 (kp : Int)) ∧ Up w w')) : Calls Tryd.prog 17 #[.pointer (some ⟨cb, 0, none⟩), .int .i64 (A : Int)] W fun e w' => e = .returned (.int .u8 (bits .or .u8 (x : Int) (255 - (kp : Int)))) ∧ Up W w' := by
  have e1 : ¬ (A : Int) < 0 := by omega
  have e2 : ¬ (A : Int) < 16384 := by omega
  have e3 : ¬ (A : Int) < 32768 := by omega
  have e4 : (pl : Int) < (n : Int) := by omega
  have HSw : Hid (∀ w, Up W w → w.cell? ⟨cb, 7, none⟩ = some (.slice (some ⟨rb, 0, none⟩) n rc) ∧ w.cell? ⟨cb, 8, none⟩ = some (.iface 121 (.agg #[])) ∧ w.cell? ⟨rb, pl, none⟩ = some (.int .u8 (x : Int))) := fun w u => ⟨cell_up u k7, cell_up u k8, cell_up u kx⟩
  clear k7 k8 kx
  go_enter Tryd.func17, Tryd.ntmps17
  go_wp2_with fail
  refine (HRP.out _ (by first | exact Up.refl _ | exact Up.drewN _ _ | exact (Up.refl _).drew)).mono ?_
  rintro e w5 ⟨rfl, u5⟩
  have HU5 : Hid (Up W w5) := by first | exact u5 | exact (Up.drewN _ _).trans u5 | exact ((Up.refl _).drew).trans u5
  clear u5
  obtain ⟨k7, k8, kx⟩ := HSw.out w5 HU5.out
  go_wp2_with fail
  clear k7 k8 kx
  refine wp_region_held_drew (S := fun w => w.cell? ⟨cb, 7, none⟩ = some (.slice (some ⟨rb, 0, none⟩) n rc) ∧ w.cell? ⟨cb, 8, none⟩ = some (.iface 121 (.agg #[])) ∧ w.cell? ⟨rb, pl, none⟩ = some (.int .u8 (x : Int))) (by kernel_rfl) ?_ (fun hHeld => ?_)
  · exact HSw.out _ HU5.out.drew
  have HU6 : Hid (Up W w5.drew) := HU5.out.drew
  generalize World.drew w5 = wd at HU6 hHeld ⊢
  refine wpAnyH_take (i := 0) (v := ?_) (by simp only [List.getElem?_toArray, List.getElem?_cons_zero]; rfl) (by kernel_rfl) (by kernel_rfl) (by kernel_rfl) (by intro _ _ _ h; exact h) (Or.inl ⟨by rfl, ?_⟩) (by assumption) ?_
  rotate_left
  · (intro w hSw; (try dsimp only at hSw); go_simp <;> with_reducible rfl)
  try simp only [Act.put, List.setIfInBounds_toArray, List.set_cons_zero, List.set_cons_succ]
  refine wpAnyH_take (i := 1) (v := ?_) (by simp only [List.getElem?_toArray, List.getElem?_cons_succ, List.getElem?_cons_zero]; rfl) (by kernel_rfl) (by kernel_rfl) (by kernel_rfl) (by intro _ _ _ h; exact h) (Or.inl ⟨by rfl, ?_⟩) (by assumption) ?_
  rotate_left
  · (intro w hSw; (try dsimp only at hSw); go_simp <;> with_reducible rfl)
  try simp only [Act.put, List.setIfInBounds_toArray, List.set_cons_zero, List.set_cons_succ]
  refine wpAnyH_take (i := 2) (v := ?_) (by simp only [List.getElem?_toArray, List.getElem?_cons_succ, List.getElem?_cons_zero]; rfl) (by kernel_rfl) (by kernel_rfl) (by kernel_rfl) (by intro _ _ _ h; exact h) (Or.inl ⟨by rfl, ?_⟩) (by assumption) ?_
  rotate_left
  · (intro w hSw; (try dsimp only at hSw); go_simp <;> with_reducible rfl)
  try simp only [Act.put, List.setIfInBounds_toArray, List.set_cons_zero, List.set_cons_succ]
  refine wpAnyH_take (i := 3) (v := ?_) (by simp only [List.getElem?_toArray, List.getElem?_cons_succ, List.getElem?_cons_zero]; rfl) (by kernel_rfl) (by kernel_rfl) (by kernel_rfl) (by intro _ _ _ h; exact h) (Or.inl ⟨by rfl, ?_⟩) (by assumption) ?_
  rotate_left
  · (intro w hSw; (try dsimp only at hSw); go_simp <;> with_reducible rfl)
  try simp only [Act.put, List.setIfInBounds_toArray, List.set_cons_zero, List.set_cons_succ]
  refine wpAnyH_take (i := 4) (v := ?_) (by simp only [List.getElem?_toArray, List.getElem?_cons_succ, List.getElem?_cons_zero]; rfl) (by kernel_rfl) (by kernel_rfl) (by kernel_rfl) (by intro _ _ _ h; exact h) (Or.inl ⟨by rfl, ?_⟩) (by assumption) ?_
  rotate_left
  · (intro w hSw; (try dsimp only at hSw); go_simp <;> with_reducible rfl)
  try simp only [Act.put, List.setIfInBounds_toArray, List.set_cons_zero, List.set_cons_succ]
  refine wpAnyH_take (i := 5) (v := ?_) (by simp only [List.getElem?_toArray, List.getElem?_cons_succ, List.getElem?_cons_zero]; rfl) (by kernel_rfl) (by kernel_rfl) (by kernel_rfl) (by intro _ _ _ h; exact h) (Or.inl ⟨by rfl, ?_⟩) (by assumption) ?_
  rotate_left
  · (intro w hSw; (try dsimp only at hSw); go_simp <;> with_reducible rfl)
  try simp only [Act.put, List.setIfInBounds_toArray, List.set_cons_zero, List.set_cons_succ]
  refine wpAnyH_take (i := 6) (v := ?_) (by simp only [List.getElem?_toArray, List.getElem?_cons_succ, List.getElem?_cons_zero]; rfl) (by kernel_rfl) (by kernel_rfl) (by kernel_rfl) (by intro _ _ _ h; exact h) (Or.inl ⟨by rfl, ?_⟩) (by assumption) ?_
  rotate_left
  · (intro w hSw; (try dsimp only at hSw); go_simp <;> with_reducible rfl)
  try simp only [Act.put, List.setIfInBounds_toArray, List.set_cons_zero, List.set_cons_succ]
  refine wpAnyH_take (i := 7) (v := ?_) (by simp only [List.getElem?_toArray, List.getElem?_cons_succ, List.getElem?_cons_zero]; rfl) (by kernel_rfl) (by kernel_rfl) (by kernel_rfl) (by intro _ _ _ h; exact h) (Or.inl ⟨by rfl, ?_⟩) (by assumption) ?_
  rotate_left
  · (intro w hSw; (try dsimp only at hSw); go_simp <;> with_reducible rfl)
  try simp only [Act.put, List.setIfInBounds_toArray, List.set_cons_zero, List.set_cons_succ]
  refine wpAnyH_take (i := 8) (v := ?_) (by simp only [List.getElem?_toArray, List.getElem?_cons_succ, List.getElem?_cons_zero]; rfl) (by kernel_rfl) (by kernel_rfl) (by kernel_rfl) (by intro _ _ _ h; exact h) (Or.inl ⟨by rfl, ?_⟩) (by assumption) ?_
  rotate_left
  · (intro w hSw; (try dsimp only at hSw); go_simp <;> with_reducible rfl)
  try simp only [Act.put, List.setIfInBounds_toArray, List.set_cons_zero, List.set_cons_succ]
  refine wpAnyH_take (i := 9) (v := ?_) (by simp only [List.getElem?_toArray, List.getElem?_cons_succ, List.getElem?_cons_zero]; rfl) (by kernel_rfl) (by kernel_rfl) (by kernel_rfl) (by intro _ _ _ h; exact h) (Or.inl ⟨by rfl, ?_⟩) (by assumption) ?_
  rotate_left
  · (intro w hSw; (try dsimp only at hSw); go_simp <;> with_reducible rfl)
  try simp only [Act.put, List.setIfInBounds_toArray, List.set_cons_zero, List.set_cons_succ]
  refine wpAnyH_take (i := 10) (v := ?_) (by simp only [List.getElem?_toArray, List.getElem?_cons_succ, List.getElem?_cons_zero]; rfl) (by kernel_rfl) (by kernel_rfl) (by kernel_rfl) (by intro _ _ _ h; exact h) (Or.inl ⟨by rfl, ?_⟩) (by assumption) ?_
  rotate_left
  · (intro w hSw; (try dsimp only at hSw); go_simp <;> with_reducible rfl)
  try simp only [Act.put, List.setIfInBounds_toArray, List.set_cons_zero, List.set_cons_succ]
  refine wpAnyH_ready (rs := [11]) (by kernel_rfl) (by simp) ?_
  refine AllReadyH.cons (by simp only [List.getElem?_toArray, List.getElem?_cons_succ, List.getElem?_cons_zero]; rfl) (fun KK hK => ?_) AllReadyH.nil
  go_simp
  refine (HKp.out wd HU6.out).mono ?_
  rintro e w7 ⟨rfl, u7⟩
  have HX7 : Hid (Up W w7) := HU6.out.trans u7
  clear u7
  refine hK.out _ _ (HSw.out _ HX7.out) (fun hHeld => ?_)
  clear hK KK
  try simp only [Act.put, List.setIfInBounds_toArray, List.set_cons_zero, List.set_cons_succ]
  refine wpAnyH_take (i := 12) (v := ?_) (by simp only [List.getElem?_toArray, List.getElem?_cons_succ, List.getElem?_cons_zero]; rfl) (by kernel_rfl) (by kernel_rfl) (by kernel_rfl) (by intro _ _ _ h; exact h) (Or.inl ⟨by rfl, ?_⟩) (by assumption) ?_
  rotate_left
  · (intro w hSw; (try dsimp only at hSw); go_simp <;> with_reducible rfl)
  try simp only [Act.put, List.setIfInBounds_toArray, List.set_cons_zero, List.set_cons_succ]
  refine wpAnyH_take (i := 13) (v := ?_) (by simp only [List.getElem?_toArray, List.getElem?_cons_succ, List.getElem?_cons_zero]; rfl) (by kernel_rfl) (by kernel_rfl) (by kernel_rfl) (by intro _ _ _ h; exact h) (Or.inl ⟨by rfl, ?_⟩) (by assumption) ?_
  rotate_left
  · (intro w hSw; (try dsimp only at hSw); go_simp <;> with_reducible rfl)
  try simp only [Act.put, List.setIfInBounds_toArray, List.set_cons_zero, List.set_cons_succ]
  refine wpAnyH_take (i := 14) (v := ?_) (by simp only [List.getElem?_toArray, List.getElem?_cons_succ, List.getElem?_cons_zero]; rfl) (by kernel_rfl) (by kernel_rfl) (by kernel_rfl) (by intro _ _ _ h; exact h) (Or.inl ⟨by rfl, ?_⟩) (by assumption) ?_
  rotate_left
  · (intro w hSw; (try dsimp only at hSw); go_simp <;> with_reducible rfl)
  try simp only [Act.put, List.setIfInBounds_toArray, List.set_cons_zero, List.set_cons_succ]
  refine wpAnyH_done (by kernel_rfl) ?_ _
  clear hHeld
  go_wp2_with fail
  first | go_ret | go_ret2
  exact ⟨ret1 (by rw [cpl8 (kp : Int) (by omega) (by omega)]), HX7.out⟩
set_option maxRecDepth 100000 in
set_option maxHeartbeats 1000000 in
theorem readRam_1 {cb rb rc n A pl x kp : Nat} (hA1 : 40960 ≤ A) (hA2 : A < 49152) (k7 : W.cell? ⟨cb, 7, none⟩ = some (.slice (some ⟨rb, 0, none⟩) n rc)) (k8 : W.cell? ⟨cb, 8, none⟩ = some (.iface 108 (.pointer (some ⟨b, 0, none⟩)))) (kx : W.cell? ⟨rb, pl, none⟩ = some (.int .u8 (x : Int))) (hpl : pl < n) (hx : x ≤ 255) (hkp : kp ≤ 255)
    (HRP : Hid (∀ w, Up W w → Calls Tryd.prog 41 #[.pointer (some ⟨cb, 0, none⟩), .int .i64 (A : Int)] w fun e w' => e = .returned (.tuple #[.int .i64 (pl : Int), .bool true]) ∧ Up w w'))
    (HKp : Hid (∀ w, Up W w → Calls Tryd.prog 92 #[.pointer (some ⟨b, 0, none⟩)] w fun e w' => e = .returned (.int .u8 (kp : Int)) ∧ Up w w')) : Calls Tryd.prog 17 #[.pointer (some ⟨cb, 0, none⟩), .int .i64 (A : Int)] W fun e w' => e = .returned (.int .u8 (bits .or .u8 (x : Int) (255 - (kp : Int)))) ∧ Up W w' := by
  have e1 : ¬ (A : Int) < 0 := by omega
  have e2 : ¬ (A : Int) < 16384 := by omega
  have e3 : ¬ (A : Int) < 32768 := by omega
  have e4 : (pl : Int) < (n : Int) := by omega
  have HSw : Hid (∀ w, Up W w → w.cell? ⟨cb, 7, none⟩ = some (.slice (some ⟨rb, 0, none⟩) n rc) ∧ w.cell? ⟨cb, 8, none⟩ = some (.iface 108 (.pointer (some ⟨b, 0, none⟩))) ∧ w.cell? ⟨rb, pl, none⟩ = some (.int .u8 (x : Int))) := fun w u => ⟨cell_up u k7, cell_up u k8, cell_up u kx⟩
  clear k7 k8 kx
  go_enter Tryd.func17, Tryd.ntmps17
  go_wp2_with fail
  refine (HRP.out _ (by first | exact Up.refl _ | exact Up.drewN _ _ | exact (Up.refl _).drew)).mono ?_
  rintro e w5 ⟨rfl, u5⟩
  have HU5 : Hid (Up W w5) := by first | exact u5 | exact (Up.drewN _ _).trans u5 | exact ((Up.refl _).drew).trans u5
  clear u5
  obtain ⟨k7, k8, kx⟩ := HSw.out w5 HU5.out
  go_wp2_with fail
  clear k7 k8 kx
  refine wp_region_held_drew (S := fun w => w.cell? ⟨cb, 7, none⟩ = some (.slice (some ⟨rb, 0, none⟩) n rc) ∧ w.cell? ⟨cb, 8, none⟩ = some (.iface 108 (.pointer (some ⟨b, 0, none⟩))) ∧ w.cell? ⟨rb, pl, none⟩ = some (.int .u8 (x : Int))) (by kernel_rfl) ?_ (fun hHeld => ?_)
  · exact HSw.out _ HU5.out.drew
  have HU6 : Hid (Up W w5.drew) := HU5.out.drew
  generalize World.drew w5 = wd at HU6 hHeld ⊢
  refine wpAnyH_take (i := 0) (v := ?_) (by simp only [List.getElem?_toArray, List.getElem?_cons_zero]; rfl) (by kernel_rfl) (by kernel_rfl) (by kernel_rfl) (by intro _ _ _ h; exact h) (Or.inl ⟨by rfl, ?_⟩) (by assumption) ?_
  rotate_left
  · (intro w hSw; (try dsimp only at hSw); go_simp <;> with_reducible rfl)
  try simp only [Act.put, List.setIfInBounds_toArray, List.set_cons_zero, List.set_cons_succ]
  refine wpAnyH_take (i := 1) (v := ?_) (by simp only [List.getElem?_toArray, List.getElem?_cons_succ, List.getElem?_cons_zero]; rfl) (by kernel_rfl) (by kernel_rfl) (by kernel_rfl) (by intro _ _ _ h; exact h) (Or.inl ⟨by rfl, ?_⟩) (by assumption) ?_
  rotate_left
  · (intro w hSw; (try dsimp only at hSw); go_simp <;> with_reducible rfl)
  try simp only [Act.put, List.setIfInBounds_toArray, List.set_cons_zero, List.set_cons_succ]
  refine wpAnyH_take (i := 2) (v := ?_) (by simp only [List.getElem?_toArray, List.getElem?_cons_succ, List.getElem?_cons_zero]; rfl) (by kernel_rfl) (by kernel_rfl) (by kernel_rfl) (by intro _ _ _ h; exact h) (Or.inl ⟨by rfl, ?_⟩) (by assumption) ?_
  rotate_left
  · (intro w hSw; (try dsimp only at hSw); go_simp <;> with_reducible rfl)
  try simp only [Act.put, List.setIfInBounds_toArray, List.set_cons_zero, List.set_cons_succ]
  refine wpAnyH_take (i := 3) (v := ?_) (by simp only [List.getElem?_toArray, List.getElem?_cons_succ, List.getElem?_cons_zero]; rfl) (by kernel_rfl) (by kernel_rfl) (by kernel_rfl) (by intro _ _ _ h; exact h) (Or.inl ⟨by rfl, ?_⟩) (by assumption) ?_
  rotate_left
  · (intro w hSw; (try dsimp only at hSw); go_simp <;> with_reducible rfl)
  try simp only [Act.put, List.setIfInBounds_toArray, List.set_cons_zero, List.set_cons_succ]
  refine wpAnyH_take (i := 4) (v := ?_) (by simp only [List.getElem?_toArray, List.getElem?_cons_succ, List.getElem?_cons_zero]; rfl) (by kernel_rfl) (by kernel_rfl) (by kernel_rfl) (by intro _ _ _ h; exact h) (Or.inl ⟨by rfl, ?_⟩) (by assumption) ?_
  rotate_left
  · (intro w hSw; (try dsimp only at hSw); go_simp <;> with_reducible rfl)
  try simp only [Act.put, List.setIfInBounds_toArray, List.set_cons_zero, List.set_cons_succ]
  refine wpAnyH_take (i := 5) (v := ?_) (by simp only [List.getElem?_toArray, List.getElem?_cons_succ, List.getElem?_cons_zero]; rfl) (by kernel_rfl) (by kernel_rfl) (by kernel_rfl) (by intro _ _ _ h; exact h) (Or.inl ⟨by rfl, ?_⟩) (by assumption) ?_
  rotate_left
  · (intro w hSw; (try dsimp only at hSw); go_simp <;> with_reducible rfl)
  try simp only [Act.put, List.setIfInBounds_toArray, List.set_cons_zero, List.set_cons_succ]
  refine wpAnyH_take (i := 6) (v := ?_) (by simp only [List.getElem?_toArray, List.getElem?_cons_succ, List.getElem?_cons_zero]; rfl) (by kernel_rfl) (by kernel_rfl) (by kernel_rfl) (by intro _ _ _ h; exact h) (Or.inl ⟨by rfl, ?_⟩) (by assumption) ?_
  rotate_left
  · (intro w hSw; (try dsimp only at hSw); go_simp <;> with_reducible rfl)
  try simp only [Act.put, List.setIfInBounds_toArray, List.set_cons_zero, List.set_cons_succ]
  refine wpAnyH_take (i := 7) (v := ?_) (by simp only [List.getElem?_toArray, List.getElem?_cons_succ, List.getElem?_cons_zero]; rfl) (by kernel_rfl) (by kernel_rfl) (by kernel_rfl) (by intro _ _ _ h; exact h) (Or.inl ⟨by rfl, ?_⟩) (by assumption) ?_
  rotate_left
  · (intro w hSw; (try dsimp only at hSw); go_simp <;> with_reducible rfl)
  try simp only [Act.put, List.setIfInBounds_toArray, List.set_cons_zero, List.set_cons_succ]
  refine wpAnyH_take (i := 8) (v := ?_) (by simp only [List.getElem?_toArray, List.getElem?_cons_succ, List.getElem?_cons_zero]; rfl) (by kernel_rfl) (by kernel_rfl) (by kernel_rfl) (by intro _ _ _ h; exact h) (Or.inl ⟨by rfl, ?_⟩) (by assumption) ?_
  rotate_left
  · (intro w hSw; (try dsimp only at hSw); go_simp <;> with_reducible rfl)
  try simp only [Act.put, List.setIfInBounds_toArray, List.set_cons_zero, List.set_cons_succ]
  refine wpAnyH_take (i := 9) (v := ?_) (by simp only [List.getElem?_toArray, List.getElem?_cons_succ, List.getElem?_cons_zero]; rfl) (by kernel_rfl) (by kernel_rfl) (by kernel_rfl) (by intro _ _ _ h; exact h) (Or.inl ⟨by rfl, ?_⟩) (by assumption) ?_
  rotate_left
  · (intro w hSw; (try dsimp only at hSw); go_simp <;> with_reducible rfl)
  try simp only [Act.put, List.setIfInBounds_toArray, List.set_cons_zero, List.set_cons_succ]
  refine wpAnyH_take (i := 10) (v := ?_) (by simp only [List.getElem?_toArray, List.getElem?_cons_succ, List.getElem?_cons_zero]; rfl) (by kernel_rfl) (by kernel_rfl) (by kernel_rfl) (by intro _ _ _ h; exact h) (Or.inl ⟨by rfl, ?_⟩) (by assumption) ?_
  rotate_left
  · (intro w hSw; (try dsimp only at hSw); go_simp <;> with_reducible rfl)
  try simp only [Act.put, List.setIfInBounds_toArray, List.set_cons_zero, List.set_cons_succ]
  refine wpAnyH_ready (rs := [11]) (by kernel_rfl) (by simp) ?_
  refine AllReadyH.cons (by simp only [List.getElem?_toArray, List.getElem?_cons_succ, List.getElem?_cons_zero]; rfl) (fun KK hK => ?_) AllReadyH.nil
  go_simp
  refine (HKp.out wd HU6.out).mono ?_
  rintro e w7 ⟨rfl, u7⟩
  have HX7 : Hid (Up W w7) := HU6.out.trans u7
  clear u7
  refine hK.out _ _ (HSw.out _ HX7.out) (fun hHeld => ?_)
  clear hK KK
  try simp only [Act.put, List.setIfInBounds_toArray, List.set_cons_zero, List.set_cons_succ]
  refine wpAnyH_take (i := 12) (v := ?_) (by simp only [List.getElem?_toArray, List.getElem?_cons_succ, List.getElem?_cons_zero]; rfl) (by kernel_rfl) (by kernel_rfl) (by kernel_rfl) (by intro _ _ _ h; exact h) (Or.inl ⟨by rfl, ?_⟩) (by assumption) ?_
  rotate_left
  · (intro w hSw; (try dsimp only at hSw); go_simp <;> with_reducible rfl)
  try simp only [Act.put, List.setIfInBounds_toArray, List.set_cons_zero, List.set_cons_succ]
  refine wpAnyH_take (i := 13) (v := ?_) (by simp only [List.getElem?_toArray, List.getElem?_cons_succ, List.getElem?_cons_zero]; rfl) (by kernel_rfl) (by kernel_rfl) (by kernel_rfl) (by intro _ _ _ h; exact h) (Or.inl ⟨by rfl, ?_⟩) (by assumption) ?_
  rotate_left
  · (intro w hSw; (try dsimp only at hSw); go_simp <;> with_reducible rfl)
  try simp only [Act.put, List.setIfInBounds_toArray, List.set_cons_zero, List.set_cons_succ]
  refine wpAnyH_take (i := 14) (v := ?_) (by simp only [List.getElem?_toArray, List.getElem?_cons_succ, List.getElem?_cons_zero]; rfl) (by kernel_rfl) (by kernel_rfl) (by kernel_rfl) (by intro _ _ _ h; exact h) (Or.inl ⟨by rfl, ?_⟩) (by assumption) ?_
  rotate_left
  · (intro w hSw; (try dsimp only at hSw); go_simp <;> with_reducible rfl)
  try simp only [Act.put, List.setIfInBounds_toArray, List.set_cons_zero, List.set_cons_succ]
  refine wpAnyH_done (by kernel_rfl) ?_ _
  clear hHeld
  go_wp2_with fail
  first | go_ret | go_ret2
  exact ⟨ret1 (by rw [cpl8 (kp : Int) (by omega) (by omega)]), HX7.out⟩
set_option maxRecDepth 100000 in
set_option maxHeartbeats 1000000 in
theorem readRam_2 {cb rb rc n A pl x kp : Nat} (hA1 : 40960 ≤ A) (hA2 : A < 49152) (k7 : W.cell? ⟨cb, 7, none⟩ = some (.slice (some ⟨rb, 0, none⟩) n rc)) (k8 : W.cell? ⟨cb, 8, none⟩ = some (.iface 111 (.pointer (some ⟨b, 0, none⟩)))) (kx : W.cell? ⟨rb, pl, none⟩ = some (.int .u8 (x : Int))) (hpl : pl < n) (hx : x ≤ 255) (hkp : kp ≤ 255)
    (HRP : Hid (∀ w, Up W w → Calls Tryd.prog 41 #[.pointer (some ⟨cb, 0, none⟩), .int .i64 (A : Int)] w fun e w' => e = .returned (.tuple #[.int .i64 (pl : Int), .bool true]) ∧ Up w w'))
    (HKp : Hid (∀ w, Up W w → Calls Tryd.prog 98 #[.pointer (some ⟨b, 0, none⟩)] w fun e w' => e = .returned (.int .u8 (kp : Int)) ∧ Up w w')) : Calls Tryd.prog 17 #[.pointer (some ⟨cb, 0, none⟩), .int .i64 (A : Int)] W fun e w' => e = .returned (.int .u8 (bits .or .u8 (x : Int) (255 - (kp : Int)))) ∧ Up W w' := by
  have e1 : ¬ (A : Int) < 0 := by omega
  have e2 : ¬ (A : Int) < 16384 := by omega
  have e3 : ¬ (A : Int) < 32768 := by omega
  have e4 : (pl : Int) < (n : Int) := by omega
  have HSw : Hid (∀ w, Up W w → w.cell? ⟨cb, 7, none⟩ = some (.slice (some ⟨rb, 0, none⟩) n rc) ∧ w.cell? ⟨cb, 8, none⟩ = some (.iface 111 (.pointer (some ⟨b, 0, none⟩))) ∧ w.cell? ⟨rb, pl, none⟩ = some (.int .u8 (x : Int))) := fun w u => ⟨cell_up u k7, cell_up u k8, cell_up u kx⟩
  clear k7 k8 kx
  go_enter Tryd.func17, Tryd.ntmps17
  go_wp2_with fail
  refine (HRP.out _ (by first | exact Up.refl _ | exact Up.drewN _ _ | exact (Up.refl _).drew)).mono ?_
  rintro e w5 ⟨rfl, u5⟩
  have HU5 : Hid (Up W w5) := by first | exact u5 | exact (Up.drewN _ _).trans u5 | exact ((Up.refl _).drew).trans u5
  clear u5
  obtain ⟨k7, k8, kx⟩ := HSw.out w5 HU5.out
  go_wp2_with fail
  clear k7 k8 kx
  refine wp_region_held_drew (S := fun w => w.cell? ⟨cb, 7, none⟩ = some (.slice (some ⟨rb, 0, none⟩) n rc) ∧ w.cell? ⟨cb, 8, none⟩ = some (.iface 111 (.pointer (some ⟨b, 0, none⟩))) ∧ w.cell? ⟨rb, pl, none⟩ = some (.int .u8 (x : Int))) (by kernel_rfl) ?_ (fun hHeld => ?_)
  · exact HSw.out _ HU5.out.drew
  have HU6 : Hid (Up W w5.drew) := HU5.out.drew
  generalize World.drew w5 = wd at HU6 hHeld ⊢
  refine wpAnyH_take (i := 0) (v := ?_) (by simp only [List.getElem?_toArray, List.getElem?_cons_zero]; rfl) (by kernel_rfl) (by kernel_rfl) (by kernel_rfl) (by intro _ _ _ h; exact h) (Or.inl ⟨by rfl, ?_⟩) (by assumption) ?_
  rotate_left
  · (intro w hSw; (try dsimp only at hSw); go_simp <;> with_reducible rfl)
  try simp only [Act.put, List.setIfInBounds_toArray, List.set_cons_zero, List.set_cons_succ]
  refine wpAnyH_take (i := 1) (v := ?_) (by simp only [List.getElem?_toArray, List.getElem?_cons_succ, List.getElem?_cons_zero]; rfl) (by kernel_rfl) (by kernel_rfl) (by kernel_rfl) (by intro _ _ _ h; exact h) (Or.inl ⟨by rfl, ?_⟩) (by assumption) ?_
  rotate_left
  · (intro w hSw; (try dsimp only at hSw); go_simp <;> with_reducible rfl)
  try simp only [Act.put, List.setIfInBounds_toArray, List.set_cons_zero, List.set_cons_succ]
  refine wpAnyH_take (i := 2) (v := ?_) (by simp only [List.getElem?_toArray, List.getElem?_cons_succ, List.getElem?_cons_zero]; rfl) (by kernel_rfl) (by kernel_rfl) (by kernel_rfl) (by intro _ _ _ h; exact h) (Or.inl ⟨by rfl, ?_⟩) (by assumption) ?_
  rotate_left
  · (intro w hSw; (try dsimp only at hSw); go_simp <;> with_reducible rfl)
  try simp only [Act.put, List.setIfInBounds_toArray, List.set_cons_zero, List.set_cons_succ]
  refine wpAnyH_take (i := 3) (v := ?_) (by simp only [List.getElem?_toArray, List.getElem?_cons_succ, List.getElem?_cons_zero]; rfl) (by kernel_rfl) (by kernel_rfl) (by kernel_rfl) (by intro _ _ _ h; exact h) (Or.inl ⟨by rfl, ?_⟩) (by assumption) ?_
  rotate_left
  · (intro w hSw; (try dsimp only at hSw); go_simp <;> with_reducible rfl)
  try simp only [Act.put, List.setIfInBounds_toArray, List.set_cons_zero, List.set_cons_succ]
  refine wpAnyH_take (i := 4) (v := ?_) (by simp only [List.getElem?_toArray, List.getElem?_cons_succ, List.getElem?_cons_zero]; rfl) (by kernel_rfl) (by kernel_rfl) (by kernel_rfl) (by intro _ _ _ h; exact h) (Or.inl ⟨by rfl, ?_⟩) (by assumption) ?_
  rotate_left
  · (intro w hSw; (try dsimp only at hSw); go_simp <;> with_reducible rfl)
  try simp only [Act.put, List.setIfInBounds_toArray, List.set_cons_zero, List.set_cons_succ]
  refine wpAnyH_take (i := 5) (v := ?_) (by simp only [List.getElem?_toArray, List.getElem?_cons_succ, List.getElem?_cons_zero]; rfl) (by kernel_rfl) (by kernel_rfl) (by kernel_rfl) (by intro _ _ _ h; exact h) (Or.inl ⟨by rfl, ?_⟩) (by assumption) ?_
  rotate_left
  · (intro w hSw; (try dsimp only at hSw); go_simp <;> with_reducible rfl)
  try simp only [Act.put, List.setIfInBounds_toArray, List.set_cons_zero, List.set_cons_succ]
  refine wpAnyH_take (i := 6) (v := ?_) (by simp only [List.getElem?_toArray, List.getElem?_cons_succ, List.getElem?_cons_zero]; rfl) (by kernel_rfl) (by kernel_rfl) (by kernel_rfl) (by intro _ _ _ h; exact h) (Or.inl ⟨by rfl, ?_⟩) (by assumption) ?_
  rotate_left
  · (intro w hSw; (try dsimp only at hSw); go_simp <;> with_reducible rfl)
  try simp only [Act.put, List.setIfInBounds_toArray, List.set_cons_zero, List.set_cons_succ]
  refine wpAnyH_take (i := 7) (v := ?_) (by simp only [List.getElem?_toArray, List.getElem?_cons_succ, List.getElem?_cons_zero]; rfl) (by kernel_rfl) (by kernel_rfl) (by kernel_rfl) (by intro _ _ _ h; exact h) (Or.inl ⟨by rfl, ?_⟩) (by assumption) ?_
  rotate_left
  · (intro w hSw; (try dsimp only at hSw); go_simp <;> with_reducible rfl)
  try simp only [Act.put, List.setIfInBounds_toArray, List.set_cons_zero, List.set_cons_succ]
  refine wpAnyH_take (i := 8) (v := ?_) (by simp only [List.getElem?_toArray, List.getElem?_cons_succ, List.getElem?_cons_zero]; rfl) (by kernel_rfl) (by kernel_rfl) (by kernel_rfl) (by intro _ _ _ h; exact h) (Or.inl ⟨by rfl, ?_⟩) (by assumption) ?_
  rotate_left
  · (intro w hSw; (try dsimp only at hSw); go_simp <;> with_reducible rfl)
  try simp only [Act.put, List.setIfInBounds_toArray, List.set_cons_zero, List.set_cons_succ]
  refine wpAnyH_take (i := 9) (v := ?_) (by simp only [List.getElem?_toArray, List.getElem?_cons_succ, List.getElem?_cons_zero]; rfl) (by kernel_rfl) (by kernel_rfl) (by kernel_rfl) (by intro _ _ _ h; exact h) (Or.inl ⟨by rfl, ?_⟩) (by assumption) ?_
  rotate_left
  · (intro w hSw; (try dsimp only at hSw); go_simp <;> with_reducible rfl)
  try simp only [Act.put, List.setIfInBounds_toArray, List.set_cons_zero, List.set_cons_succ]
  refine wpAnyH_take (i := 10) (v := ?_) (by simp only [List.getElem?_toArray, List.getElem?_cons_succ, List.getElem?_cons_zero]; rfl) (by kernel_rfl) (by kernel_rfl) (by kernel_rfl) (by intro _ _ _ h; exact h) (Or.inl ⟨by rfl, ?_⟩) (by assumption) ?_
  rotate_left
  · (intro w hSw; (try dsimp only at hSw); go_simp <;> with_reducible rfl)
  try simp only [Act.put, List.setIfInBounds_toArray, List.set_cons_zero, List.set_cons_succ]
  refine wpAnyH_ready (rs := [11]) (by kernel_rfl) (by simp) ?_
  refine AllReadyH.cons (by simp only [List.getElem?_toArray, List.getElem?_cons_succ, List.getElem?_cons_zero]; rfl) (fun KK hK => ?_) AllReadyH.nil
  go_simp
  refine (HKp.out wd HU6.out).mono ?_
  rintro e w7 ⟨rfl, u7⟩
  have HX7 : Hid (Up W w7) := HU6.out.trans u7
  clear u7
  refine hK.out _ _ (HSw.out _ HX7.out) (fun hHeld => ?_)
  clear hK KK
  try simp only [Act.put, List.setIfInBounds_toArray, List.set_cons_zero, List.set_cons_succ]
  refine wpAnyH_take (i := 12) (v := ?_) (by simp only [List.getElem?_toArray, List.getElem?_cons_succ, List.getElem?_cons_zero]; rfl) (by kernel_rfl) (by kernel_rfl) (by kernel_rfl) (by intro _ _ _ h; exact h) (Or.inl ⟨by rfl, ?_⟩) (by assumption) ?_
  rotate_left
  · (intro w hSw; (try dsimp only at hSw); go_simp <;> with_reducible rfl)
  try simp only [Act.put, List.setIfInBounds_toArray, List.set_cons_zero, List.set_cons_succ]
  refine wpAnyH_take (i := 13) (v := ?_) (by simp only [List.getElem?_toArray, List.getElem?_cons_succ, List.getElem?_cons_zero]; rfl) (by kernel_rfl) (by kernel_rfl) (by kernel_rfl) (by intro _ _ _ h; exact h) (Or.inl ⟨by rfl, ?_⟩) (by assumption) ?_
  rotate_left
  · (intro w hSw; (try dsimp only at hSw); go_simp <;> with_reducible rfl)
  try simp only [Act.put, List.setIfInBounds_toArray, List.set_cons_zero, List.set_cons_succ]
  refine wpAnyH_take (i := 14) (v := ?_) (by simp only [List.getElem?_toArray, List.getElem?_cons_succ, List.getElem?_cons_zero]; rfl) (by kernel_rfl) (by kernel_rfl) (by kernel_rfl) (by intro _ _ _ h; exact h) (Or.inl ⟨by rfl, ?_⟩) (by assumption) ?_
  rotate_left
  · (intro w hSw; (try dsimp only at hSw); go_simp <;> with_reducible rfl)
  try simp only [Act.put, List.setIfInBounds_toArray, List.set_cons_zero, List.set_cons_succ]
  refine wpAnyH_done (by kernel_rfl) ?_ _
  clear hHeld
  go_wp2_with fail
  first | go_ret | go_ret2
  exact ⟨ret1 (by rw [cpl8 (kp : Int) (by omega) (by omega)]), HX7.out⟩
set_option maxRecDepth 100000 in
set_option maxHeartbeats 1000000 in
theorem readRam_3 {cb rb rc n A pl x kp : Nat} (hA1 : 40960 ≤ A) (hA2 : A < 49152) (k7 : W.cell? ⟨cb, 7, none⟩ = some (.slice (some ⟨rb, 0, none⟩) n rc)) (k8 : W.cell? ⟨cb, 8, none⟩ = some (.iface 114 (.pointer (some ⟨b, 0, none⟩)))) (kx : W.cell? ⟨rb, pl, none⟩ = some (.int .u8 (x : Int))) (hpl : pl < n) (hx : x ≤ 255) (hkp : kp ≤ 255)
    (HRP : Hid (∀ w, Up W w → Calls Tryd.prog 41 #[.pointer (some ⟨cb, 0, none⟩), .int .i64 (A : Int)] w fun e w' => e = .returned (.tuple #[.int .i64 (pl : Int), .bool true]) ∧ Up w w'))
    (HKp : Hid (∀ w, Up W w → Calls Tryd.prog 103 #[.pointer (some ⟨b, 0, none⟩)] w fun e w' => e = .returned (.int .u8 (kp : Int)) ∧ Up w w')) : Calls Tryd.prog 17 #[.pointer (some ⟨cb, 0, none⟩), .int .i64 (A : Int)] W fun e w' => e = .returned (.int .u8 (bits .or .u8 (x : Int) (255 - (kp : Int)))) ∧ Up W w' := by
  have e1 : ¬ (A : Int) < 0 := by omega
  have e2 : ¬ (A : Int) < 16384 := by omega
  have e3 : ¬ (A : Int) < 32768 := by omega
  have e4 : (pl : Int) < (n : Int) := by omega
  have HSw : Hid (∀ w, Up W w → w.cell? ⟨cb, 7, none⟩ = some (.slice (some ⟨rb, 0, none⟩) n rc) ∧ w.cell? ⟨cb, 8, none⟩ = some (.iface 114 (.pointer (some ⟨b, 0, none⟩))) ∧ w.cell? ⟨rb, pl, none⟩ = some (.int .u8 (x : Int))) := fun w u => ⟨cell_up u k7, cell_up u k8, cell_up u kx⟩
  clear k7 k8 kx
  go_enter Tryd.func17, Tryd.ntmps17
  go_wp2_with fail
  refine (HRP.out _ (by first | exact Up.refl _ | exact Up.drewN _ _ | exact (Up.refl _).drew)).mono ?_
  rintro e w5 ⟨rfl, u5⟩
  have HU5 : Hid (Up W w5) := by first | exact u5 | exact (Up.drewN _ _).trans u5 | exact ((Up.refl _).drew).trans u5
  clear u5
  obtain ⟨k7, k8, kx⟩ := HSw.out w5 HU5.out
  go_wp2_with fail
  clear k7 k8 kx
  refine wp_region_held_drew (S := fun w => w.cell? ⟨cb, 7, none⟩ = some (.slice (some ⟨rb, 0, none⟩) n rc) ∧ w.cell? ⟨cb, 8, none⟩ = some (.iface 114 (.pointer (some ⟨b, 0, none⟩))) ∧ w.cell? ⟨rb, pl, none⟩ = some (.int .u8 (x : Int))) (by kernel_rfl) ?_ (fun hHeld => ?_)
  · exact HSw.out _ HU5.out.drew
  have HU6 : Hid (Up W w5.drew) := HU5.out.drew
  generalize World.drew w5 = wd at HU6 hHeld ⊢
  refine wpAnyH_take (i := 0) (v := ?_) (by simp only [List.getElem?_toArray, List.getElem?_cons_zero]; rfl) (by kernel_rfl) (by kernel_rfl) (by kernel_rfl) (by intro _ _ _ h; exact h) (Or.inl ⟨by rfl, ?_⟩) (by assumption) ?_
  rotate_left
  · (intro w hSw; (try dsimp only at hSw); go_simp <;> with_reducible rfl)
  try simp only [Act.put, List.setIfInBounds_toArray, List.set_cons_zero, List.set_cons_succ]
  refine wpAnyH_take (i := 1) (v := ?_) (by simp only [List.getElem?_toArray, List.getElem?_cons_succ, List.getElem?_cons_zero]; rfl) (by kernel_rfl) (by kernel_rfl) (by kernel_rfl) (by intro _ _ _ h; exact h) (Or.inl ⟨by rfl, ?_⟩) (by assumption) ?_
  rotate_left
  · (intro w hSw; (try dsimp only at hSw); go_simp <;> with_reducible rfl)
  try simp only [Act.put, List.setIfInBounds_toArray, List.set_cons_zero, List.set_cons_succ]
  refine wpAnyH_take (i := 2) (v := ?_) (by simp only [List.getElem?_toArray, List.getElem?_cons_succ, List.getElem?_cons_zero]; rfl) (by kernel_rfl) (by kernel_rfl) (by kernel_rfl) (by intro _ _ _ h; exact h) (Or.inl ⟨by rfl, ?_⟩) (by assumption) ?_
  rotate_left
  · (intro w hSw; (try dsimp only at hSw); go_simp <;> with_reducible rfl)
  try simp only [Act.put, List.setIfInBounds_toArray, List.set_cons_zero, List.set_cons_succ]
  refine wpAnyH_take (i := 3) (v := ?_) (by simp only [List.getElem?_toArray, List.getElem?_cons_succ, List.getElem?_cons_zero]; rfl) (by kernel_rfl) (by kernel_rfl) (by kernel_rfl) (by intro _ _ _ h; exact h) (Or.inl ⟨by rfl, ?_⟩) (by assumption) ?_
  rotate_left
  · (intro w hSw; (try dsimp only at hSw); go_simp <;> with_reducible rfl)
  try simp only [Act.put, List.setIfInBounds_toArray, List.set_cons_zero, List.set_cons_succ]
  refine wpAnyH_take (i := 4) (v := ?_) (by simp only [List.getElem?_toArray, List.getElem?_cons_succ, List.getElem?_cons_zero]; rfl) (by kernel_rfl) (by kernel_rfl) (by kernel_rfl) (by intro _ _ _ h; exact h) (Or.inl ⟨by rfl, ?_⟩) (by assumption) ?_
  rotate_left
  · (intro w hSw; (try dsimp only at hSw); go_simp <;> with_reducible rfl)
  try simp only [Act.put, List.setIfInBounds_toArray, List.set_cons_zero, List.set_cons_succ]
  refine wpAnyH_take (i := 5) (v := ?_) (by simp only [List.getElem?_toArray, List.getElem?_cons_succ, List.getElem?_cons_zero]; rfl) (by kernel_rfl) (by kernel_rfl) (by kernel_rfl) (by intro _ _ _ h; exact h) (Or.inl ⟨by rfl, ?_⟩) (by assumption) ?_
  rotate_left
  · (intro w hSw; (try dsimp only at hSw); go_simp <;> with_reducible rfl)
  try simp only [Act.put, List.setIfInBounds_toArray, List.set_cons_zero, List.set_cons_succ]
  refine wpAnyH_take (i := 6) (v := ?_) (by simp only [List.getElem?_toArray, List.getElem?_cons_succ, List.getElem?_cons_zero]; rfl) (by kernel_rfl) (by kernel_rfl) (by kernel_rfl) (by intro _ _ _ h; exact h) (Or.inl ⟨by rfl, ?_⟩) (by assumption) ?_
  rotate_left
  · (intro w hSw; (try dsimp only at hSw); go_simp <;> with_reducible rfl)
  try simp only [Act.put, List.setIfInBounds_toArray, List.set_cons_zero, List.set_cons_succ]
  refine wpAnyH_take (i := 7) (v := ?_) (by simp only [List.getElem?_toArray, List.getElem?_cons_succ, List.getElem?_cons_zero]; rfl) (by kernel_rfl) (by kernel_rfl) (by kernel_rfl) (by intro _ _ _ h; exact h) (Or.inl ⟨by rfl, ?_⟩) (by assumption) ?_
  rotate_left
  · (intro w hSw; (try dsimp only at hSw); go_simp <;> with_reducible rfl)
  try simp only [Act.put, List.setIfInBounds_toArray, List.set_cons_zero, List.set_cons_succ]
  refine wpAnyH_take (i := 8) (v := ?_) (by simp only [List.getElem?_toArray, List.getElem?_cons_succ, List.getElem?_cons_zero]; rfl) (by kernel_rfl) (by kernel_rfl) (by kernel_rfl) (by intro _ _ _ h; exact h) (Or.inl ⟨by rfl, ?_⟩) (by assumption) ?_
  rotate_left
  · (intro w hSw; (try dsimp only at hSw); go_simp <;> with_reducible rfl)
  try simp only [Act.put, List.setIfInBounds_toArray, List.set_cons_zero, List.set_cons_succ]
  refine wpAnyH_take (i := 9) (v := ?_) (by simp only [List.getElem?_toArray, List.getElem?_cons_succ, List.getElem?_cons_zero]; rfl) (by kernel_rfl) (by kernel_rfl) (by kernel_rfl) (by intro _ _ _ h; exact h) (Or.inl ⟨by rfl, ?_⟩) (by assumption) ?_
  rotate_left
  · (intro w hSw; (try dsimp only at hSw); go_simp <;> with_reducible rfl)
  try simp only [Act.put, List.setIfInBounds_toArray, List.set_cons_zero, List.set_cons_succ]
  refine wpAnyH_take (i := 10) (v := ?_) (by simp only [List.getElem?_toArray, List.getElem?_cons_succ, List.getElem?_cons_zero]; rfl) (by kernel_rfl) (by kernel_rfl) (by kernel_rfl) (by intro _ _ _ h; exact h) (Or.inl ⟨by rfl, ?_⟩) (by assumption) ?_
  rotate_left
  · (intro w hSw; (try dsimp only at hSw); go_simp <;> with_reducible rfl)
  try simp only [Act.put, List.setIfInBounds_toArray, List.set_cons_zero, List.set_cons_succ]
  refine wpAnyH_ready (rs := [11]) (by kernel_rfl) (by simp) ?_
  refine AllReadyH.cons (by simp only [List.getElem?_toArray, List.getElem?_cons_succ, List.getElem?_cons_zero]; rfl) (fun KK hK => ?_) AllReadyH.nil
  go_simp
  refine (HKp.out wd HU6.out).mono ?_
  rintro e w7 ⟨rfl, u7⟩
  have HX7 : Hid (Up W w7) := HU6.out.trans u7
  clear u7
  refine hK.out _ _ (HSw.out _ HX7.out) (fun hHeld => ?_)
  clear hK KK
  try simp only [Act.put, List.setIfInBounds_toArray, List.set_cons_zero, List.set_cons_succ]
  refine wpAnyH_take (i := 12) (v := ?_) (by simp only [List.getElem?_toArray, List.getElem?_cons_succ, List.getElem?_cons_zero]; rfl) (by kernel_rfl) (by kernel_rfl) (by kernel_rfl) (by intro _ _ _ h; exact h) (Or.inl ⟨by rfl, ?_⟩) (by assumption) ?_
  rotate_left
  · (intro w hSw; (try dsimp only at hSw); go_simp <;> with_reducible rfl)
  try simp only [Act.put, List.setIfInBounds_toArray, List.set_cons_zero, List.set_cons_succ]
  refine wpAnyH_take (i := 13) (v := ?_) (by simp only [List.getElem?_toArray, List.getElem?_cons_succ, List.getElem?_cons_zero]; rfl) (by kernel_rfl) (by kernel_rfl) (by kernel_rfl) (by intro _ _ _ h; exact h) (Or.inl ⟨by rfl, ?_⟩) (by assumption) ?_
  rotate_left
  · (intro w hSw; (try dsimp only at hSw); go_simp <;> with_reducible rfl)
  try simp only [Act.put, List.setIfInBounds_toArray, List.set_cons_zero, List.set_cons_succ]
  refine wpAnyH_take (i := 14) (v := ?_) (by simp only [List.getElem?_toArray, List.getElem?_cons_succ, List.getElem?_cons_zero]; rfl) (by kernel_rfl) (by kernel_rfl) (by kernel_rfl) (by intro _ _ _ h; exact h) (Or.inl ⟨by rfl, ?_⟩) (by assumption) ?_
  rotate_left
  · (intro w hSw; (try dsimp only at hSw); go_simp <;> with_reducible rfl)
  try simp only [Act.put, List.setIfInBounds_toArray, List.set_cons_zero, List.set_cons_succ]
  refine wpAnyH_done (by kernel_rfl) ?_ _
  clear hHeld
  go_wp2_with fail
  first | go_ret | go_ret2
  exact ⟨ret1 (by rw [cpl8 (kp : Int) (by omega) (by omega)]), HX7.out⟩
set_option maxRecDepth 100000 in
set_option maxHeartbeats 1000000 in
theorem readRam_5 {cb rb rc n A pl x kp : Nat} (hA1 : 40960 ≤ A) (hA2 : A < 49152) (k7 : W.cell? ⟨cb, 7, none⟩ = some (.slice (some ⟨rb, 0, none⟩) n rc)) (k8 : W.cell? ⟨cb, 8, none⟩ = some (.iface 117 (.pointer (some ⟨b, 0, none⟩)))) (kx : W.cell? ⟨rb, pl, none⟩ = some (.int .u8 (x : Int))) (hpl : pl < n) (hx : x ≤ 255) (hkp : kp ≤ 255)
    (HRP : Hid (∀ w, Up W w → Calls Tryd.prog 41 #[.pointer (some ⟨cb, 0, none⟩), .int .i64 (A : Int)] w fun e w' => e = .returned (.tuple #[.int .i64 (pl : Int), .bool true]) ∧ Up w w'))
    (HKp : Hid (∀ w, Up W w → Calls Tryd.prog 108 #[.pointer (some ⟨b, 0, none⟩)] w fun e w' => e = .returned (.int .u8 (kp : Int)) ∧ Up w w')) : Calls Tryd.prog 17 #[.pointer (some ⟨cb, 0, none⟩), .int .i64 (A : Int)] W fun e w' => e = .returned (.int .u8 (bits .or .u8 (x : Int) (255 - (kp : Int)))) ∧ Up W w' := by
  have e1 : ¬ (A : Int) < 0 := by omega
  have e2 : ¬ (A : Int) < 16384 := by omega
  have e3 : ¬ (A : Int) < 32768 := by omega
  have e4 : (pl : Int) < (n : Int) := by omega
  have HSw : Hid (∀ w, Up W w → w.cell? ⟨cb, 7, none⟩ = some (.slice (some ⟨rb, 0, none⟩) n rc) ∧ w.cell? ⟨cb, 8, none⟩ = some (.iface 117 (.pointer (some ⟨b, 0, none⟩))) ∧ w.cell? ⟨rb, pl, none⟩ = some (.int .u8 (x : Int))) := fun w u => ⟨cell_up u k7, cell_up u k8, cell_up u kx⟩
  clear k7 k8 kx
  go_enter Tryd.func17, Tryd.ntmps17
  go_wp2_with fail
  refine (HRP.out _ (by first | exact Up.refl _ | exact Up.drewN _ _ | exact (Up.refl _).drew)).mono ?_
  rintro e w5 ⟨rfl, u5⟩
  have HU5 : Hid (Up W w5) := by first | exact u5 | exact (Up.drewN _ _).trans u5 | exact ((Up.refl _).drew).trans u5
  clear u5
  obtain ⟨k7, k8, kx⟩ := HSw.out w5 HU5.out
  go_wp2_with fail
  clear k7 k8 kx
  refine wp_region_held_drew (S := fun w => w.cell? ⟨cb, 7, none⟩ = some (.slice (some ⟨rb, 0, none⟩) n rc) ∧ w.cell? ⟨cb, 8, none⟩ = some (.iface 117 (.pointer (some ⟨b, 0, none⟩))) ∧ w.cell? ⟨rb, pl, none⟩ = some (.int .u8 (x : Int))) (by kernel_rfl) ?_ (fun hHeld => ?_)
  · exact HSw.out _ HU5.out.drew
  have HU6 : Hid (Up W w5.drew) := HU5.out.drew
  generalize World.drew w5 = wd at HU6 hHeld ⊢
  refine wpAnyH_take (i := 0) (v := ?_) (by simp only [List.getElem?_toArray, List.getElem?_cons_zero]; rfl) (by kernel_rfl) (by kernel_rfl) (by kernel_rfl) (by intro _ _ _ h; exact h) (Or.inl ⟨by rfl, ?_⟩) (by assumption) ?_
  rotate_left
  · (intro w hSw; (try dsimp only at hSw); go_simp <;> with_reducible rfl)
  try simp only [Act.put, List.setIfInBounds_toArray, List.set_cons_zero, List.set_cons_succ]
  refine wpAnyH_take (i := 1) (v := ?_) (by simp only [List.getElem?_toArray, List.getElem?_cons_succ, List.getElem?_cons_zero]; rfl) (by kernel_rfl) (by kernel_rfl) (by kernel_rfl) (by intro _ _ _ h; exact h) (Or.inl ⟨by rfl, ?_⟩) (by assumption) ?_
  rotate_left
  · (intro w hSw; (try dsimp only at hSw); go_simp <;> with_reducible rfl)
  try simp only [Act.put, List.setIfInBounds_toArray, List.set_cons_zero, List.set_cons_succ]
  refine wpAnyH_take (i := 2) (v := ?_) (by simp only [List.getElem?_toArray, List.getElem?_cons_succ, List.getElem?_cons_zero]; rfl) (by kernel_rfl) (by kernel_rfl) (by kernel_rfl) (by intro _ _ _ h; exact h) (Or.inl ⟨by rfl, ?_⟩) (by assumption) ?_
  rotate_left
  · (intro w hSw; (try dsimp only at hSw); go_simp <;> with_reducible rfl)
  try simp only [Act.put, List.setIfInBounds_toArray, List.set_cons_zero, List.set_cons_succ]
  refine wpAnyH_take (i := 3) (v := ?_) (by simp only [List.getElem?_toArray, List.getElem?_cons_succ, List.getElem?_cons_zero]; rfl) (by kernel_rfl) (by kernel_rfl) (by kernel_rfl) (by intro _ _ _ h; exact h) (Or.inl ⟨by rfl, ?_⟩) (by assumption) ?_
  rotate_left
  · (intro w hSw; (try dsimp only at hSw); go_simp <;> with_reducible rfl)
  try simp only [Act.put, List.setIfInBounds_toArray, List.set_cons_zero, List.set_cons_succ]
  refine wpAnyH_take (i := 4) (v := ?_) (by simp only [List.getElem?_toArray, List.getElem?_cons_succ, List.getElem?_cons_zero]; rfl) (by kernel_rfl) (by kernel_rfl) (by kernel_rfl) (by intro _ _ _ h; exact h) (Or.inl ⟨by rfl, ?_⟩) (by assumption) ?_
  rotate_left
  · (intro w hSw; (try dsimp only at hSw); go_simp <;> with_reducible rfl)
  try simp only [Act.put, List.setIfInBounds_toArray, List.set_cons_zero, List.set_cons_succ]
  refine wpAnyH_take (i := 5) (v := ?_) (by simp only [List.getElem?_toArray, List.getElem?_cons_succ, List.getElem?_cons_zero]; rfl) (by kernel_rfl) (by kernel_rfl) (by kernel_rfl) (by intro _ _ _ h; exact h) (Or.inl ⟨by rfl, ?_⟩) (by assumption) ?_
  rotate_left
  · (intro w hSw; (try dsimp only at hSw); go_simp <;> with_reducible rfl)
  try simp only [Act.put, List.setIfInBounds_toArray, List.set_cons_zero, List.set_cons_succ]
  refine wpAnyH_take (i := 6) (v := ?_) (by simp only [List.getElem?_toArray, List.getElem?_cons_succ, List.getElem?_cons_zero]; rfl) (by kernel_rfl) (by kernel_rfl) (by kernel_rfl) (by intro _ _ _ h; exact h) (Or.inl ⟨by rfl, ?_⟩) (by assumption) ?_
  rotate_left
  · (intro w hSw; (try dsimp only at hSw); go_simp <;> with_reducible rfl)
  try simp only [Act.put, List.setIfInBounds_toArray, List.set_cons_zero, List.set_cons_succ]
  refine wpAnyH_take (i := 7) (v := ?_) (by simp only [List.getElem?_toArray, List.getElem?_cons_succ, List.getElem?_cons_zero]; rfl) (by kernel_rfl) (by kernel_rfl) (by kernel_rfl) (by intro _ _ _ h; exact h) (Or.inl ⟨by rfl, ?_⟩) (by assumption) ?_
  rotate_left
  · (intro w hSw; (try dsimp only at hSw); go_simp <;> with_reducible rfl)
  try simp only [Act.put, List.setIfInBounds_toArray, List.set_cons_zero, List.set_cons_succ]
  refine wpAnyH_take (i := 8) (v := ?_) (by simp only [List.getElem?_toArray, List.getElem?_cons_succ, List.getElem?_cons_zero]; rfl) (by kernel_rfl) (by kernel_rfl) (by kernel_rfl) (by intro _ _ _ h; exact h) (Or.inl ⟨by rfl, ?_⟩) (by assumption) ?_
  rotate_left
  · (intro w hSw; (try dsimp only at hSw); go_simp <;> with_reducible rfl)
  try simp only [Act.put, List.setIfInBounds_toArray, List.set_cons_zero, List.set_cons_succ]
  refine wpAnyH_take (i := 9) (v := ?_) (by simp only [List.getElem?_toArray, List.getElem?_cons_succ, List.getElem?_cons_zero]; rfl) (by kernel_rfl) (by kernel_rfl) (by kernel_rfl) (by intro _ _ _ h; exact h) (Or.inl ⟨by rfl, ?_⟩) (by assumption) ?_
  rotate_left
  · (intro w hSw; (try dsimp only at hSw); go_simp <;> with_reducible rfl)
  try simp only [Act.put, List.setIfInBounds_toArray, List.set_cons_zero, List.set_cons_succ]
  refine wpAnyH_take (i := 10) (v := ?_) (by simp only [List.getElem?_toArray, List.getElem?_cons_succ, List.getElem?_cons_zero]; rfl) (by kernel_rfl) (by kernel_rfl) (by kernel_rfl) (by intro _ _ _ h; exact h) (Or.inl ⟨by rfl, ?_⟩) (by assumption) ?_
  rotate_left
  · (intro w hSw; (try dsimp only at hSw); go_simp <;> with_reducible rfl)
  try simp only [Act.put, List.setIfInBounds_toArray, List.set_cons_zero, List.set_cons_succ]
  refine wpAnyH_ready (rs := [11]) (by kernel_rfl) (by simp) ?_
  refine AllReadyH.cons (by simp only [List.getElem?_toArray, List.getElem?_cons_succ, List.getElem?_cons_zero]; rfl) (fun KK hK => ?_) AllReadyH.nil
  go_simp
  refine (HKp.out wd HU6.out).mono ?_
  rintro e w7 ⟨rfl, u7⟩
  have HX7 : Hid (Up W w7) := HU6.out.trans u7
  clear u7
  refine hK.out _ _ (HSw.out _ HX7.out) (fun hHeld => ?_)
  clear hK KK
  try simp only [Act.put, List.setIfInBounds_toArray, List.set_cons_zero, List.set_cons_succ]
  refine wpAnyH_take (i := 12) (v := ?_) (by simp only [List.getElem?_toArray, List.getElem?_cons_succ, List.getElem?_cons_zero]; rfl) (by kernel_rfl) (by kernel_rfl) (by kernel_rfl) (by intro _ _ _ h; exact h) (Or.inl ⟨by rfl, ?_⟩) (by assumption) ?_
  rotate_left
  · (intro w hSw; (try dsimp only at hSw); go_simp <;> with_reducible rfl)
  try simp only [Act.put, List.setIfInBounds_toArray, List.set_cons_zero, List.set_cons_succ]
  refine wpAnyH_take (i := 13) (v := ?_) (by simp only [List.getElem?_toArray, List.getElem?_cons_succ, List.getElem?_cons_zero]; rfl) (by kernel_rfl) (by kernel_rfl) (by kernel_rfl) (by intro _ _ _ h; exact h) (Or.inl ⟨by rfl, ?_⟩) (by assumption) ?_
  rotate_left
  · (intro w hSw; (try dsimp only at hSw); go_simp <;> with_reducible rfl)
  try simp only [Act.put, List.setIfInBounds_toArray, List.set_cons_zero, List.set_cons_succ]
  refine wpAnyH_take (i := 14) (v := ?_) (by simp only [List.getElem?_toArray, List.getElem?_cons_succ, List.getElem?_cons_zero]; rfl) (by kernel_rfl) (by kernel_rfl) (by kernel_rfl) (by intro _ _ _ h; exact h) (Or.inl ⟨by rfl, ?_⟩) (by assumption) ?_
  rotate_left
  · (intro w hSw; (try dsimp only at hSw); go_simp <;> with_reducible rfl)
  try simp only [Act.put, List.setIfInBounds_toArray, List.set_cons_zero, List.set_cons_succ]
  refine wpAnyH_done (by kernel_rfl) ?_ _
  clear hHeld
  go_wp2_with fail
  first | go_ret | go_ret2
  exact ⟨ret1 (by rw [cpl8 (kp : Int) (by omega) (by omega)]), HX7.out⟩
end Go.Proofs.YtojlappgmckokaaDoor
