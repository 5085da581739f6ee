/- Cart: Write to the RAM. -/
import Derived.Test.YtojlappgmckokaaDoorCaW
namespace Go.Proofs.YtojlappgmckokaaDoor
open Go.Shelf Go.RowKit
set_option linter.unusedVariables false
set_option linter.unusedSimpArgs false
variable {w w' W : World} {b : Nat}
set_option maxRecDepth 100000 in
set_option maxHeartbeats 1000000 in
theorem writeRam_0 {cb rb rc n A pl x kp : Nat} {f : Nat → Int} (hA1 : 40960 ≤ A) (hA2 : A < 49152) (k7 : W.cell? ⟨cb, 7, none⟩ = some (.slice (some ⟨rb, 0, none⟩) n rc)) (k8 : W.cell? ⟨cb, 8, none⟩ = some (.iface 121 (.agg #[]))) (hB : By W rb n f) (hpl : pl < n) (hne : cb ≠ rb) (hx : x ≤ 255) (hkp : kp ≤ 255)
    (HRP : Hid (∀ w, Up W w → Calls Tryd.prog 41 #[.pointer (some ⟨cb, 0, none⟩), .int .i64 (A : Int)] w fun e w' => e = .returned (.tuple #[.int .i64 (pl : Int), .bool true]) ∧ Up w w'))
    (HKp : Hid (∀ w, Up W w → Calls Tryd.prog 113 #[.agg #[]] w fun e w' => e = .returned (.int .u8 (kp : Int)) ∧ Up w w')) : Calls Tryd.prog 18 #[.pointer (some ⟨cb, 0, none⟩), .int .i64 (A : Int), .int .u8 (x : Int)] W fun e w' => e = .returned (.tuple #[]) ∧ By w' rb n (putF f pl 1 (fun _ => bits .and .u8 (x : Int) (kp : Int))) ∧ Fr rb W w' := by
  have e1 : ¬ (A : Int) < 32768 := by omega
  have e0 : (0 : Int) ≤ (A : Int) := by omega
  have e4 : (pl : Int) < (n : Int) := by omega
  have HSw : Hid (∀ w, Up W w → w.cell? ⟨cb, 7, none⟩ = some (.slice (some ⟨rb, 0, none⟩) n rc) ∧ w.cell? ⟨cb, 8, none⟩ = some (.iface 121 (.agg #[]))) := fun w u => ⟨cell_up u k7, cell_up u k8⟩
  have HBy : Hid (∀ w, Up W w → By w rb n f) := fun w u => hB.up u
  have HPl : Hid (pl < n) := hpl
  clear k7 k8 hB
  go_enter Tryd.func18, Tryd.ntmps18
  go_wp2_with fail
  refine (HRP.out _ (by first | exact Up.refl _ | exact Up.drewN _ _ | exact (Up.refl _).drew)).mono ?_
  rintro e w5 ⟨rfl, u5⟩
  have HU5 : Hid (Up W w5) := by first | exact u5 | exact (Up.drewN _ _).trans u5 | exact ((Up.refl _).drew).trans u5
  clear u5
  obtain ⟨k7, k8⟩ := HSw.out w5 HU5.out
  go_wp2_with fail
  clear k7 k8
  refine wp_region_held_drew (S := fun w => w.cell? ⟨cb, 7, none⟩ = some (.slice (some ⟨rb, 0, none⟩) n rc) ∧ w.cell? ⟨cb, 8, none⟩ = some (.iface 121 (.agg #[]))) (by kernel_rfl) ?_ (fun hHeld => ?_)
  · exact HSw.out _ HU5.out.drew
  have HU6 : Hid (Up W w5.drew) := HU5.out.drew
  generalize World.drew w5 = wd at HU6 hHeld ⊢
  refine wpAnyH_take (i := 0) (v := ?_) (by simp only [List.getElem?_toArray, List.getElem?_cons_zero]; rfl) (by kernel_rfl) (by kernel_rfl) (by kernel_rfl) (by intro _ _ _ h; exact h) (Or.inl ⟨by rfl, ?_⟩) (by assumption) ?_
  rotate_left
  · (intro w hSw; (try dsimp only at hSw); go_simp <;> with_reducible rfl)
  try simp only [Act.put, List.setIfInBounds_toArray, List.set_cons_zero, List.set_cons_succ]
  refine wpAnyH_take (i := 1) (v := ?_) (by simp only [List.getElem?_toArray, List.getElem?_cons_succ, List.getElem?_cons_zero]; rfl) (by kernel_rfl) (by kernel_rfl) (by kernel_rfl) (by intro _ _ _ h; exact h) (Or.inl ⟨by rfl, ?_⟩) (by assumption) ?_
  rotate_left
  · (intro w hSw; (try dsimp only at hSw); go_simp <;> with_reducible rfl)
  try simp only [Act.put, List.setIfInBounds_toArray, List.set_cons_zero, List.set_cons_succ]
  refine wpAnyH_take (i := 2) (v := ?_) (by simp only [List.getElem?_toArray, List.getElem?_cons_succ, List.getElem?_cons_zero]; rfl) (by kernel_rfl) (by kernel_rfl) (by kernel_rfl) (by intro _ _ _ h; exact h) (Or.inl ⟨by rfl, ?_⟩) (by assumption) ?_
  rotate_left
  · (intro w hSw; (try dsimp only at hSw); go_simp <;> with_reducible rfl)
  try simp only [Act.put, List.setIfInBounds_toArray, List.set_cons_zero, List.set_cons_succ]
  refine wpAnyH_take (i := 3) (v := ?_) (by simp only [List.getElem?_toArray, List.getElem?_cons_succ, List.getElem?_cons_zero]; rfl) (by kernel_rfl) (by kernel_rfl) (by kernel_rfl) (by intro _ _ _ h; exact h) (Or.inl ⟨by rfl, ?_⟩) (by assumption) ?_
  rotate_left
  · (intro w hSw; (try dsimp only at hSw); go_simp <;> with_reducible rfl)
  try simp only [Act.put, List.setIfInBounds_toArray, List.set_cons_zero, List.set_cons_succ]
  refine wpAnyH_take (i := 4) (v := ?_) (by simp only [List.getElem?_toArray, List.getElem?_cons_succ, List.getElem?_cons_zero]; rfl) (by kernel_rfl) (by kernel_rfl) (by kernel_rfl) (by intro _ _ _ h; exact h) (Or.inl ⟨by rfl, ?_⟩) (by assumption) ?_
  rotate_left
  · (intro w hSw; (try dsimp only at hSw); go_simp <;> with_reducible rfl)
  try simp only [Act.put, List.setIfInBounds_toArray, List.set_cons_zero, List.set_cons_succ]
  refine wpAnyH_take (i := 5) (v := ?_) (by simp only [List.getElem?_toArray, List.getElem?_cons_succ, List.getElem?_cons_zero]; rfl) (by kernel_rfl) (by kernel_rfl) (by kernel_rfl) (by intro _ _ _ h; exact h) (Or.inl ⟨by rfl, ?_⟩) (by assumption) ?_
  rotate_left
  · (intro w hSw; (try dsimp only at hSw); go_simp <;> with_reducible rfl)
  try simp only [Act.put, List.setIfInBounds_toArray, List.set_cons_zero, List.set_cons_succ]
  refine wpAnyH_take (i := 6) (v := ?_) (by simp only [List.getElem?_toArray, List.getElem?_cons_succ, List.getElem?_cons_zero]; rfl) (by kernel_rfl) (by kernel_rfl) (by kernel_rfl) (by intro _ _ _ h; exact h) (Or.inl ⟨by rfl, ?_⟩) (by assumption) ?_
  rotate_left
  · (intro w hSw; (try dsimp only at hSw); go_simp <;> with_reducible rfl)
  try simp only [Act.put, List.setIfInBounds_toArray, List.set_cons_zero, List.set_cons_succ]
  refine wpAnyH_take (i := 7) (v := ?_) (by simp only [List.getElem?_toArray, List.getElem?_cons_succ, List.getElem?_cons_zero]; rfl) (by kernel_rfl) (by kernel_rfl) (by kernel_rfl) (by intro _ _ _ h; exact h) (Or.inl ⟨by rfl, ?_⟩) (by assumption) ?_
  rotate_left
  · (intro w hSw; (try dsimp only at hSw); go_simp <;> with_reducible rfl)
  try simp only [Act.put, List.setIfInBounds_toArray, List.set_cons_zero, List.set_cons_succ]
  refine wpAnyH_take (i := 8) (v := ?_) (by simp only [List.getElem?_toArray, List.getElem?_cons_succ, List.getElem?_cons_zero]; rfl) (by kernel_rfl) (by kernel_rfl) (by kernel_rfl) (by intro _ _ _ h; exact h) (Or.inl ⟨by rfl, ?_⟩) (by assumption) ?_
  rotate_left
  · (intro w hSw; (try dsimp only at hSw); go_simp <;> with_reducible rfl)
  try simp only [Act.put, List.setIfInBounds_toArray, List.set_cons_zero, List.set_cons_succ]
  refine wpAnyH_take (i := 9) (v := ?_) (by simp only [List.getElem?_toArray, List.getElem?_cons_succ, List.getElem?_cons_zero]; rfl) (by kernel_rfl) (by kernel_rfl) (by kernel_rfl) (by intro _ _ _ h; exact h) (Or.inl ⟨by rfl, ?_⟩) (by assumption) ?_
  rotate_left
  · (intro w hSw; (try dsimp only at hSw); go_simp <;> with_reducible rfl)
  try simp only [Act.put, List.setIfInBounds_toArray, List.set_cons_zero, List.set_cons_succ]
  refine wpAnyH_ready (rs := [10]) (by kernel_rfl) (by simp) ?_
  refine AllReadyH.cons (by simp only [List.getElem?_toArray, List.getElem?_cons_succ, List.getElem?_cons_zero]; rfl) (fun KK hK => ?_) AllReadyH.nil
  go_simp
  refine (HKp.out wd HU6.out).mono ?_
  rintro e w7 ⟨rfl, u7⟩
  have HX7 : Hid (Up W w7) := HU6.out.trans u7
  clear u7
  refine hK.out _ _ (HSw.out _ HX7.out) (fun hHeld => ?_)
  clear hK KK
  try simp only [Act.put, List.setIfInBounds_toArray, List.set_cons_zero, List.set_cons_succ]
  refine wpAnyH_take (i := 11) (v := ?_) (by simp only [List.getElem?_toArray, List.getElem?_cons_succ, List.getElem?_cons_zero]; rfl) (by kernel_rfl) (by kernel_rfl) (by kernel_rfl) (by intro _ _ _ h; exact h) (Or.inl ⟨by rfl, ?_⟩) (by assumption) ?_
  rotate_left
  · (intro w hSw; (try dsimp only at hSw); go_simp <;> with_reducible rfl)
  try simp only [Act.put, List.setIfInBounds_toArray, List.set_cons_zero, List.set_cons_succ]
  refine wpAnyH_take (i := 12) (v := ?_) (by simp only [List.getElem?_toArray, List.getElem?_cons_succ, List.getElem?_cons_zero]; rfl) (by kernel_rfl) (by kernel_rfl) (by kernel_rfl) (by intro _ _ _ h; exact h) (Or.inl ⟨by rfl, ?_⟩) (by assumption) ?_
  rotate_left
  · (intro w hSw; (try dsimp only at hSw); go_simp <;> with_reducible rfl)
  try simp only [Act.put, List.setIfInBounds_toArray, List.set_cons_zero, List.set_cons_succ]
  have kc := (HBy.out w7 HX7.out).cell pl HPl.out
  have kf := (HBy.out w7 HX7.out).fz pl
  refine wpAnyH_ready (rs := [13]) (by kernel_rfl) (by simp) ?_
  refine AllReadyH.cons (by simp only [List.getElem?_toArray, List.getElem?_cons_succ, List.getElem?_cons_zero]; rfl) (fun KK hK => ?_) AllReadyH.nil
  go_simp
  have HF : Hid (Fr rb w7 (w7.setCell ⟨rb, pl, none⟩ (.int .u8 (bits .and .u8 (x : Int) (kp : Int))))) := (Fr.refl rb w7).setCell
  have HZ : Hid (By (w7.setCell ⟨rb, pl, none⟩ (.int .u8 (bits .and .u8 (x : Int) (kp : Int)))) rb n (putF f pl 1 (fun _ => bits .and .u8 (x : Int) (kp : Int)))) := (HBy.out w7 HX7.out).set pl HPl.out _
  generalize World.setCell w7 _ _ = w8 at HF HZ ⊢
  refine hK.out _ _ ?_ (fun hHeld => ?_)
  · have h7 := HSw.out _ HX7.out
    exact ⟨(HF.out.cell (World.block_lt_of_cell? _ _ h7.1) hne).trans h7.1, (HF.out.cell (World.block_lt_of_cell? _ _ h7.1) hne).trans h7.2⟩
  clear hK KK
  refine wpAnyH_done (by kernel_rfl) ?_ _
  clear hHeld kc kf
  go_wp2_with fail
  go_end0
  exact ⟨rfl, HZ.out, (Fr.ofUp HX7.out).trans HF.out⟩
set_option maxRecDepth 100000 in
set_option maxHeartbeats 1000000 in
theorem writeRam_1 {cb rb rc n A pl x kp : Nat} {f : Nat → Int} (hA1 : 40960 ≤ A) (hA2 : A < 49152) (k7 : W.cell? ⟨cb, 7, none⟩ = some (.slice (some ⟨rb, 0, none⟩) n rc)) (k8 : W.cell? ⟨cb, 8, none⟩ = some (.iface 108 (.pointer (some ⟨b, 0, none⟩)))) (hB : By W rb n f) (hpl : pl < n) (hne : cb ≠ rb) (hx : x ≤ 255) (hkp : kp ≤ 255)
    (HRP : Hid (∀ w, Up W w → Calls Tryd.prog 41 #[.pointer (some ⟨cb, 0, none⟩), .int .i64 (A : Int)] w fun e w' => e = .returned (.tuple #[.int .i64 (pl : Int), .bool true]) ∧ Up w w'))
    (HKp : Hid (∀ w, Up W w → Calls Tryd.prog 92 #[.pointer (some ⟨b, 0, none⟩)] w fun e w' => e = .returned (.int .u8 (kp : Int)) ∧ Up w w')) : Calls Tryd.prog 18 #[.pointer (some ⟨cb, 0, none⟩), .int .i64 (A : Int), .int .u8 (x : Int)] W fun e w' => e = .returned (.tuple #[]) ∧ By w' rb n (putF f pl 1 (fun _ => bits .and .u8 (x : Int) (kp : Int))) ∧ Fr rb W w' := by
  have e1 : ¬ (A : Int) < 32768 := by omega
  have e0 : (0 : Int) ≤ (A : Int) := by omega
  have e4 : (pl : Int) < (n : Int) := by omega
  have HSw : Hid (∀ w, Up W w → w.cell? ⟨cb, 7, none⟩ = some (.slice (some ⟨rb, 0, none⟩) n rc) ∧ w.cell? ⟨cb, 8, none⟩ = some (.iface 108 (.pointer (some ⟨b, 0, none⟩)))) := fun w u => ⟨cell_up u k7, cell_up u k8⟩
  have HBy : Hid (∀ w, Up W w → By w rb n f) := fun w u => hB.up u
  have HPl : Hid (pl < n) := hpl
  clear k7 k8 hB
  go_enter Tryd.func18, Tryd.ntmps18
  go_wp2_with fail
  refine (HRP.out _ (by first | exact Up.refl _ | exact Up.drewN _ _ | exact (Up.refl _).drew)).mono ?_
  rintro e w5 ⟨rfl, u5⟩
  have HU5 : Hid (Up W w5) := by first | exact u5 | exact (Up.drewN _ _).trans u5 | exact ((Up.refl _).drew).trans u5
  clear u5
  obtain ⟨k7, k8⟩ := HSw.out w5 HU5.out
  go_wp2_with fail
  clear k7 k8
  refine wp_region_held_drew (S := fun w => w.cell? ⟨cb, 7, none⟩ = some (.slice (some ⟨rb, 0, none⟩) n rc) ∧ w.cell? ⟨cb, 8, none⟩ = some (.iface 108 (.pointer (some ⟨b, 0, none⟩)))) (by kernel_rfl) ?_ (fun hHeld => ?_)
  · exact HSw.out _ HU5.out.drew
  have HU6 : Hid (Up W w5.drew) := HU5.out.drew
  generalize World.drew w5 = wd at HU6 hHeld ⊢
  refine wpAnyH_take (i := 0) (v := ?_) (by simp only [List.getElem?_toArray, List.getElem?_cons_zero]; rfl) (by kernel_rfl) (by kernel_rfl) (by kernel_rfl) (by intro _ _ _ h; exact h) (Or.inl ⟨by rfl, ?_⟩) (by assumption) ?_
  rotate_left
  · (intro w hSw; (try dsimp only at hSw); go_simp <;> with_reducible rfl)
  try simp only [Act.put, List.setIfInBounds_toArray, List.set_cons_zero, List.set_cons_succ]
  refine wpAnyH_take (i := 1) (v := ?_) (by simp only [List.getElem?_toArray, List.getElem?_cons_succ, List.getElem?_cons_zero]; rfl) (by kernel_rfl) (by kernel_rfl) (by kernel_rfl) (by intro _ _ _ h; exact h) (Or.inl ⟨by rfl, ?_⟩) (by assumption) ?_
  rotate_left
  · (intro w hSw; (try dsimp only at hSw); go_simp <;> with_reducible rfl)
  try simp only [Act.put, List.setIfInBounds_toArray, List.set_cons_zero, List.set_cons_succ]
  refine wpAnyH_take (i := 2) (v := ?_) (by simp only [List.getElem?_toArray, List.getElem?_cons_succ, List.getElem?_cons_zero]; rfl) (by kernel_rfl) (by kernel_rfl) (by kernel_rfl) (by intro _ _ _ h; exact h) (Or.inl ⟨by rfl, ?_⟩) (by assumption) ?_
  rotate_left
  · (intro w hSw; (try dsimp only at hSw); go_simp <;> with_reducible rfl)
  try simp only [Act.put, List.setIfInBounds_toArray, List.set_cons_zero, List.set_cons_succ]
  refine wpAnyH_take (i := 3) (v := ?_) (by simp only [List.getElem?_toArray, List.getElem?_cons_succ, List.getElem?_cons_zero]; rfl) (by kernel_rfl) (by kernel_rfl) (by kernel_rfl) (by intro _ _ _ h; exact h) (Or.inl ⟨by rfl, ?_⟩) (by assumption) ?_
  rotate_left
  · (intro w hSw; (try dsimp only at hSw); go_simp <;> with_reducible rfl)
  try simp only [Act.put, List.setIfInBounds_toArray, List.set_cons_zero, List.set_cons_succ]
  refine wpAnyH_take (i := 4) (v := ?_) (by simp only [List.getElem?_toArray, List.getElem?_cons_succ, List.getElem?_cons_zero]; rfl) (by kernel_rfl) (by kernel_rfl) (by kernel_rfl) (by intro _ _ _ h; exact h) (Or.inl ⟨by rfl, ?_⟩) (by assumption) ?_
  rotate_left
  · (intro w hSw; (try dsimp only at hSw); go_simp <;> with_reducible rfl)
  try simp only [Act.put, List.setIfInBounds_toArray, List.set_cons_zero, List.set_cons_succ]
  refine wpAnyH_take (i := 5) (v := ?_) (by simp only [List.getElem?_toArray, List.getElem?_cons_succ, List.getElem?_cons_zero]; rfl) (by kernel_rfl) (by kernel_rfl) (by kernel_rfl) (by intro _ _ _ h; exact h) (Or.inl ⟨by rfl, ?_⟩) (by assumption) ?_
  rotate_left
  · (intro w hSw; (try dsimp only at hSw); go_simp <;> with_reducible rfl)
  try simp only [Act.put, List.setIfInBounds_toArray, List.set_cons_zero, List.set_cons_succ]
  refine wpAnyH_take (i := 6) (v := ?_) (by simp only [List.getElem?_toArray, List.getElem?_cons_succ, List.getElem?_cons_zero]; rfl) (by kernel_rfl) (by kernel_rfl) (by kernel_rfl) (by intro _ _ _ h; exact h) (Or.inl ⟨by rfl, ?_⟩) (by assumption) ?_
  rotate_left
  · (intro w hSw; (try dsimp only at hSw); go_simp <;> with_reducible rfl)
  try simp only [Act.put, List.setIfInBounds_toArray, List.set_cons_zero, List.set_cons_succ]
  refine wpAnyH_take (i := 7) (v := ?_) (by simp only [List.getElem?_toArray, List.getElem?_cons_succ, List.getElem?_cons_zero]; rfl) (by kernel_rfl) (by kernel_rfl) (by kernel_rfl) (by intro _ _ _ h; exact h) (Or.inl ⟨by rfl, ?_⟩) (by assumption) ?_
  rotate_left
  · (intro w hSw; (try dsimp only at hSw); go_simp <;> with_reducible rfl)
  try simp only [Act.put, List.setIfInBounds_toArray, List.set_cons_zero, List.set_cons_succ]
  refine wpAnyH_take (i := 8) (v := ?_) (by simp only [List.getElem?_toArray, List.getElem?_cons_succ, List.getElem?_cons_zero]; rfl) (by kernel_rfl) (by kernel_rfl) (by kernel_rfl) (by intro _ _ _ h; exact h) (Or.inl ⟨by rfl, ?_⟩) (by assumption) ?_
  rotate_left
  · (intro w hSw; (try dsimp only at hSw); go_simp <;> with_reducible rfl)
  try simp only [Act.put, List.setIfInBounds_toArray, List.set_cons_zero, List.set_cons_succ]
  refine wpAnyH_take (i := 9) (v := ?_) (by simp only [List.getElem?_toArray, List.getElem?_cons_succ, List.getElem?_cons_zero]; rfl) (by kernel_rfl) (by kernel_rfl) (by kernel_rfl) (by intro _ _ _ h; exact h) (Or.inl ⟨by rfl, ?_⟩) (by assumption) ?_
  rotate_left
  · (intro w hSw; (try dsimp only at hSw); go_simp <;> with_reducible rfl)
  try simp only [Act.put, List.setIfInBounds_toArray, List.set_cons_zero, List.set_cons_succ]
  refine wpAnyH_ready (rs := [10]) (by kernel_rfl) (by simp) ?_
  refine AllReadyH.cons (by simp only [List.getElem?_toArray, List.getElem?_cons_succ, List.getElem?_cons_zero]; rfl) (fun KK hK => ?_) AllReadyH.nil
  go_simp
  refine (HKp.out wd HU6.out).mono ?_
  rintro e w7 ⟨rfl, u7⟩
  have HX7 : Hid (Up W w7) := HU6.out.trans u7
  clear u7
  refine hK.out _ _ (HSw.out _ HX7.out) (fun hHeld => ?_)
  clear hK KK
  try simp only [Act.put, List.setIfInBounds_toArray, List.set_cons_zero, List.set_cons_succ]
  refine wpAnyH_take (i := 11) (v := ?_) (by simp only [List.getElem?_toArray, List.getElem?_cons_succ, List.getElem?_cons_zero]; rfl) (by kernel_rfl) (by kernel_rfl) (by kernel_rfl) (by intro _ _ _ h; exact h) (Or.inl ⟨by rfl, ?_⟩) (by assumption) ?_
  rotate_left
  · (intro w hSw; (try dsimp only at hSw); go_simp <;> with_reducible rfl)
  try simp only [Act.put, List.setIfInBounds_toArray, List.set_cons_zero, List.set_cons_succ]
  refine wpAnyH_take (i := 12) (v := ?_) (by simp only [List.getElem?_toArray, List.getElem?_cons_succ, List.getElem?_cons_zero]; rfl) (by kernel_rfl) (by kernel_rfl) (by kernel_rfl) (by intro _ _ _ h; exact h) (Or.inl ⟨by rfl, ?_⟩) (by assumption) ?_
  rotate_left
  · (intro w hSw; (try dsimp only at hSw); go_simp <;> with_reducible rfl)
  try simp only [Act.put, List.setIfInBounds_toArray, List.set_cons_zero, List.set_cons_succ]
  have kc := (HBy.out w7 HX7.out).cell pl HPl.out
  have kf := (HBy.out w7 HX7.out).fz pl
  refine wpAnyH_ready (rs := [13]) (by kernel_rfl) (by simp) ?_
  refine AllReadyH.cons (by simp only [List.getElem?_toArray, List.getElem?_cons_succ, List.getElem?_cons_zero]; rfl) (fun KK hK => ?_) AllReadyH.nil
  go_simp
  have HF : Hid (Fr rb w7 (w7.setCell ⟨rb, pl, none⟩ (.int .u8 (bits .and .u8 (x : Int) (kp : Int))))) := (Fr.refl rb w7).setCell
  have HZ : Hid (By (w7.setCell ⟨rb, pl, none⟩ (.int .u8 (bits .and .u8 (x : Int) (kp : Int)))) rb n (putF f pl 1 (fun _ => bits .and .u8 (x : Int) (kp : Int)))) := (HBy.out w7 HX7.out).set pl HPl.out _
  generalize World.setCell w7 _ _ = w8 at HF HZ ⊢
  refine hK.out _ _ ?_ (fun hHeld => ?_)
  · have h7 := HSw.out _ HX7.out
    exact ⟨(HF.out.cell (World.block_lt_of_cell? _ _ h7.1) hne).trans h7.1, (HF.out.cell (World.block_lt_of_cell? _ _ h7.1) hne).trans h7.2⟩
  clear hK KK
  refine wpAnyH_done (by kernel_rfl) ?_ _
  clear hHeld kc kf
  go_wp2_with fail
  go_end0
  exact ⟨rfl, HZ.out, (Fr.ofUp HX7.out).trans HF.out⟩
set_option maxRecDepth 100000 in
set_option maxHeartbeats 1000000 in
theorem writeRam_2 {cb rb rc n A pl x kp : Nat} {f : Nat → Int} (hA1 : 40960 ≤ A) (hA2 : A < 49152) (k7 : W.cell? ⟨cb, 7, none⟩ = some (.slice (some ⟨rb, 0, none⟩) n rc)) (k8 : W.cell? ⟨cb, 8, none⟩ = some (.iface 111 (.pointer (some ⟨b, 0, none⟩)))) (hB : By W rb n f) (hpl : pl < n) (hne : cb ≠ rb) (hx : x ≤ 255) (hkp : kp ≤ 255)
    (HRP : Hid (∀ w, Up W w → Calls Tryd.prog 41 #[.pointer (some ⟨cb, 0, none⟩), .int .i64 (A : Int)] w fun e w' => e = .returned (.tuple #[.int .i64 (pl : Int), .bool true]) ∧ Up w w'))
    (HKp : Hid (∀ w, Up W w → Calls Tryd.prog 98 #[.pointer (some ⟨b, 0, none⟩)] w fun e w' => e = .returned (.int .u8 (kp : Int)) ∧ Up w w')) : Calls Tryd.prog 18 #[.pointer (some ⟨cb, 0, none⟩), .int .i64 (A : Int), .int .u8 (x : Int)] W fun e w' => e = .returned (.tuple #[]) ∧ By w' rb n (putF f pl 1 (fun _ => bits .and .u8 (x : Int) (kp : Int))) ∧ Fr rb W w' := by
  have e1 : ¬ (A : Int) < 32768 := by omega
  have e0 : (0 : Int) ≤ (A : Int) := by omega
  have e4 : (pl : Int) < (n : Int) := by omega
  have HSw : Hid (∀ w, Up W w → w.cell? ⟨cb, 7, none⟩ = some (.slice (some ⟨rb, 0, none⟩) n rc) ∧ w.cell? ⟨cb, 8, none⟩ = some (.iface 111 (.pointer (some ⟨b, 0, none⟩)))) := fun w u => ⟨cell_up u k7, cell_up u k8⟩
  have HBy : Hid (∀ w, Up W w → By w rb n f) := fun w u => hB.up u
  have HPl : Hid (pl < n) := hpl
  clear k7 k8 hB
  go_enter Tryd.func18, Tryd.ntmps18
  go_wp2_with fail
  refine (HRP.out _ (by first | exact Up.refl _ | exact Up.drewN _ _ | exact (Up.refl _).drew)).mono ?_
  rintro e w5 ⟨rfl, u5⟩
  have HU5 : Hid (Up W w5) := by first | exact u5 | exact (Up.drewN _ _).trans u5 | exact ((Up.refl _).drew).trans u5
  clear u5
  obtain ⟨k7, k8⟩ := HSw.out w5 HU5.out
  go_wp2_with fail
  clear k7 k8
  refine wp_region_held_drew (S := fun w => w.cell? ⟨cb, 7, none⟩ = some (.slice (some ⟨rb, 0, none⟩) n rc) ∧ w.cell? ⟨cb, 8, none⟩ = some (.iface 111 (.pointer (some ⟨b, 0, none⟩)))) (by kernel_rfl) ?_ (fun hHeld => ?_)
  · exact HSw.out _ HU5.out.drew
  have HU6 : Hid (Up W w5.drew) := HU5.out.drew
  generalize World.drew w5 = wd at HU6 hHeld ⊢
  refine wpAnyH_take (i := 0) (v := ?_) (by simp only [List.getElem?_toArray, List.getElem?_cons_zero]; rfl) (by kernel_rfl) (by kernel_rfl) (by kernel_rfl) (by intro _ _ _ h; exact h) (Or.inl ⟨by rfl, ?_⟩) (by assumption) ?_
  rotate_left
  · (intro w hSw; (try dsimp only at hSw); go_simp <;> with_reducible rfl)
  try simp only [Act.put, List.setIfInBounds_toArray, List.set_cons_zero, List.set_cons_succ]
  refine wpAnyH_take (i := 1) (v := ?_) (by simp only [List.getElem?_toArray, List.getElem?_cons_succ, List.getElem?_cons_zero]; rfl) (by kernel_rfl) (by kernel_rfl) (by kernel_rfl) (by intro _ _ _ h; exact h) (Or.inl ⟨by rfl, ?_⟩) (by assumption) ?_
  rotate_left
  · (intro w hSw; (try dsimp only at hSw); go_simp <;> with_reducible rfl)
  try simp only [Act.put, List.setIfInBounds_toArray, List.set_cons_zero, List.set_cons_succ]
  refine wpAnyH_take (i := 2) (v := ?_) (by simp only [List.getElem?_toArray, List.getElem?_cons_succ, List.getElem?_cons_zero]; rfl) (by kernel_rfl) (by kernel_rfl) (by kernel_rfl) (by intro _ _ _ h; exact h) (Or.inl ⟨by rfl, ?_⟩) (by assumption) ?_
  rotate_left
  · (intro w hSw; (try dsimp only at hSw); go_simp <;> with_reducible rfl)
  try simp only [Act.put, List.setIfInBounds_toArray, List.set_cons_zero, List.set_cons_succ]
  refine wpAnyH_take (i := 3) (v := ?_) (by simp only [List.getElem?_toArray, List.getElem?_cons_succ, List.getElem?_cons_zero]; rfl) (by kernel_rfl) (by kernel_rfl) (by kernel_rfl) (by intro _ _ _ h; exact h) (Or.inl ⟨by rfl, ?_⟩) (by assumption) ?_
  rotate_left
  · (intro w hSw; (try dsimp only at hSw); go_simp <;> with_reducible rfl)
  try simp only [Act.put, List.setIfInBounds_toArray, List.set_cons_zero, List.set_cons_succ]
  refine wpAnyH_take (i := 4) (v := ?_) (by simp only [List.getElem?_toArray, List.getElem?_cons_succ, List.getElem?_cons_zero]; rfl) (by kernel_rfl) (by kernel_rfl) (by kernel_rfl) (by intro _ _ _ h; exact h) (Or.inl ⟨by rfl, ?_⟩) (by assumption) ?_
  rotate_left
  · (intro w hSw; (try dsimp only at hSw); go_simp <;> with_reducible rfl)
  try simp only [Act.put, List.setIfInBounds_toArray, List.set_cons_zero, List.set_cons_succ]
  refine wpAnyH_take (i := 5) (v := ?_) (by simp only [List.getElem?_toArray, List.getElem?_cons_succ, List.getElem?_cons_zero]; rfl) (by kernel_rfl) (by kernel_rfl) (by kernel_rfl) (by intro _ _ _ h; exact h) (Or.inl ⟨by rfl, ?_⟩) (by assumption) ?_
  rotate_left
  · (intro w hSw; (try dsimp only at hSw); go_simp <;> with_reducible rfl)
  try simp only [Act.put, List.setIfInBounds_toArray, List.set_cons_zero, List.set_cons_succ]
  refine wpAnyH_take (i := 6) (v := ?_) (by simp only [List.getElem?_toArray, List.getElem?_cons_succ, List.getElem?_cons_zero]; rfl) (by kernel_rfl) (by kernel_rfl) (by kernel_rfl) (by intro _ _ _ h; exact h) (Or.inl ⟨by rfl, ?_⟩) (by assumption) ?_
  rotate_left
  · (intro w hSw; (try dsimp only at hSw); go_simp <;> with_reducible rfl)
  try simp only [Act.put, List.setIfInBounds_toArray, List.set_cons_zero, List.set_cons_succ]
  refine wpAnyH_take (i := 7) (v := ?_) (by simp only [List.getElem?_toArray, List.getElem?_cons_succ, List.getElem?_cons_zero]; rfl) (by kernel_rfl) (by kernel_rfl) (by kernel_rfl) (by intro _ _ _ h; exact h) (Or.inl ⟨by rfl, ?_⟩) (by assumption) ?_
  rotate_left
  · (intro w hSw; (try dsimp only at hSw); go_simp <;> with_reducible rfl)
  try simp only [Act.put, List.setIfInBounds_toArray, List.set_cons_zero, List.set_cons_succ]
  refine wpAnyH_take (i := 8) (v := ?_) (by simp only [List.getElem?_toArray, List.getElem?_cons_succ, List.getElem?_cons_zero]; rfl) (by kernel_rfl) (by kernel_rfl) (by kernel_rfl) (by intro _ _ _ h; exact h) (Or.inl ⟨by rfl, ?_⟩) (by assumption) ?_
  rotate_left
  · (intro w hSw; (try dsimp only at hSw); go_simp <;> with_reducible rfl)
  try simp only [Act.put, List.setIfInBounds_toArray, List.set_cons_zero, List.set_cons_succ]
  refine wpAnyH_take (i := 9) (v := ?_) (by simp only [List.getElem?_toArray, List.getElem?_cons_succ, List.getElem?_cons_zero]; rfl) (by kernel_rfl) (by kernel_rfl) (by kernel_rfl) (by intro _ _ _ h; exact h) (Or.inl ⟨by rfl, ?_⟩) (by assumption) ?_
  rotate_left
  · (intro w hSw; (try dsimp only at hSw); go_simp <;> with_reducible rfl)
  try simp only [Act.put, List.setIfInBounds_toArray, List.set_cons_zero, List.set_cons_succ]
  refine wpAnyH_ready (rs := [10]) (by kernel_rfl) (by simp) ?_
  refine AllReadyH.cons (by simp only [List.getElem?_toArray, List.getElem?_cons_succ, List.getElem?_cons_zero]; rfl) (fun KK hK => ?_) AllReadyH.nil
  go_simp
  refine (HKp.out wd HU6.out).mono ?_
  rintro e w7 ⟨rfl, u7⟩
  have HX7 : Hid (Up W w7) := HU6.out.trans u7
  clear u7
  refine hK.out _ _ (HSw.out _ HX7.out) (fun hHeld => ?_)
  clear hK KK
  try simp only [Act.put, List.setIfInBounds_toArray, List.set_cons_zero, List.set_cons_succ]
  refine wpAnyH_take (i := 11) (v := ?_) (by simp only [List.getElem?_toArray, List.getElem?_cons_succ, List.getElem?_cons_zero]; rfl) (by kernel_rfl) (by kernel_rfl) (by kernel_rfl) (by intro _ _ _ h; exact h) (Or.inl ⟨by rfl, ?_⟩) (by assumption) ?_
  rotate_left
  · (intro w hSw; (try dsimp only at hSw); go_simp <;> with_reducible rfl)
  try simp only [Act.put, List.setIfInBounds_toArray, List.set_cons_zero, List.set_cons_succ]
  refine wpAnyH_take (i := 12) (v := ?_) (by simp only [List.getElem?_toArray, List.getElem?_cons_succ, List.getElem?_cons_zero]; rfl) (by kernel_rfl) (by kernel_rfl) (by kernel_rfl) (by intro _ _ _ h; exact h) (Or.inl ⟨by rfl, ?_⟩) (by assumption) ?_
  rotate_left
  · (intro w hSw; (try dsimp only at hSw); go_simp <;> with_reducible rfl)
  try simp only [Act.put, List.setIfInBounds_toArray, List.set_cons_zero, List.set_cons_succ]
  have kc := (HBy.out w7 HX7.out).cell pl HPl.out
  have kf := (HBy.out w7 HX7.out).fz pl
  refine wpAnyH_ready (rs := [13]) (by kernel_rfl) (by simp) ?_
  refine AllReadyH.cons (by simp only [List.getElem?_toArray, List.getElem?_cons_succ, List.getElem?_cons_zero]; rfl) (fun KK hK => ?_) AllReadyH.nil
  go_simp
  have HF : Hid (Fr rb w7 (w7.setCell ⟨rb, pl, none⟩ (.int .u8 (bits .and .u8 (x : Int) (kp : Int))))) := (Fr.refl rb w7).setCell
  have HZ : Hid (By (w7.setCell ⟨rb, pl, none⟩ (.int .u8 (bits .and .u8 (x : Int) (kp : Int)))) rb n (putF f pl 1 (fun _ => bits .and .u8 (x : Int) (kp : Int)))) := (HBy.out w7 HX7.out).set pl HPl.out _
  generalize World.setCell w7 _ _ = w8 at HF HZ ⊢
  refine hK.out _ _ ?_ (fun hHeld => ?_)
  · have h7 := HSw.out _ HX7.out
    exact ⟨(HF.out.cell (World.block_lt_of_cell? _ _ h7.1) hne).trans h7.1, (HF.out.cell (World.block_lt_of_cell? _ _ h7.1) hne).trans h7.2⟩
  clear hK KK
  refine wpAnyH_done (by kernel_rfl) ?_ _
  clear hHeld kc kf
  go_wp2_with fail
  go_end0
  exact ⟨rfl, HZ.out, (Fr.ofUp HX7.out).trans HF.out⟩
set_option maxRecDepth 100000 in
set_option maxHeartbeats 1000000 in
theorem writeRam_3 {cb rb rc n A pl x kp : Nat} {f : Nat → Int} (hA1 : 40960 ≤ A) (hA2 : A < 49152) (k7 : W.cell? ⟨cb, 7, none⟩ = some (.slice (some ⟨rb, 0, none⟩) n rc)) (k8 : W.cell? ⟨cb, 8, none⟩ = some (.iface 114 (.pointer (some ⟨b, 0, none⟩)))) (hB : By W rb n f) (hpl : pl < n) (hne : cb ≠ rb) (hx : x ≤ 255) (hkp : kp ≤ 255)
    (HRP : Hid (∀ w, Up W w → Calls Tryd.prog 41 #[.pointer (some ⟨cb, 0, none⟩), .int .i64 (A : Int)] w fun e w' => e = .returned (.tuple #[.int .i64 (pl : Int), .bool true]) ∧ Up w w'))
    (HKp : Hid (∀ w, Up W w → Calls Tryd.prog 103 #[.pointer (some ⟨b, 0, none⟩)] w fun e w' => e = .returned (.int .u8 (kp : Int)) ∧ Up w w')) : Calls Tryd.prog 18 #[.pointer (some ⟨cb, 0, none⟩), .int .i64 (A : Int), .int .u8 (x : Int)] W fun e w' => e = .returned (.tuple #[]) ∧ By w' rb n (putF f pl 1 (fun _ => bits .and .u8 (x : Int) (kp : Int))) ∧ Fr rb W w' := by
  have e1 : ¬ (A : Int) < 32768 := by omega
  have e0 : (0 : Int) ≤ (A : Int) := by omega
  have e4 : (pl : Int) < (n : Int) := by omega
  have HSw : Hid (∀ w, Up W w → w.cell? ⟨cb, 7, none⟩ = some (.slice (some ⟨rb, 0, none⟩) n rc) ∧ w.cell? ⟨cb, 8, none⟩ = some (.iface 114 (.pointer (some ⟨b, 0, none⟩)))) := fun w u => ⟨cell_up u k7, cell_up u k8⟩
  have HBy : Hid (∀ w, Up W w → By w rb n f) := fun w u => hB.up u
  have HPl : Hid (pl < n) := hpl
  clear k7 k8 hB
  go_enter Tryd.func18, Tryd.ntmps18
  go_wp2_with fail
  refine (HRP.out _ (by first | exact Up.refl _ | exact Up.drewN _ _ | exact (Up.refl _).drew)).mono ?_
  rintro e w5 ⟨rfl, u5⟩
  have HU5 : Hid (Up W w5) := by first | exact u5 | exact (Up.drewN _ _).trans u5 | exact ((Up.refl _).drew).trans u5
  clear u5
  obtain ⟨k7, k8⟩ := HSw.out w5 HU5.out
  go_wp2_with fail
  clear k7 k8
  refine wp_region_held_drew (S := fun w => w.cell? ⟨cb, 7, none⟩ = some (.slice (some ⟨rb, 0, none⟩) n rc) ∧ w.cell? ⟨cb, 8, none⟩ = some (.iface 114 (.pointer (some ⟨b, 0, none⟩)))) (by kernel_rfl) ?_ (fun hHeld => ?_)
  · exact HSw.out _ HU5.out.drew
  have HU6 : Hid (Up W w5.drew) := HU5.out.drew
  generalize World.drew w5 = wd at HU6 hHeld ⊢
  refine wpAnyH_take (i := 0) (v := ?_) (by simp only [List.getElem?_toArray, List.getElem?_cons_zero]; rfl) (by kernel_rfl) (by kernel_rfl) (by kernel_rfl) (by intro _ _ _ h; exact h) (Or.inl ⟨by rfl, ?_⟩) (by assumption) ?_
  rotate_left
  · (intro w hSw; (try dsimp only at hSw); go_simp <;> with_reducible rfl)
  try simp only [Act.put, List.setIfInBounds_toArray, List.set_cons_zero, List.set_cons_succ]
  refine wpAnyH_take (i := 1) (v := ?_) (by simp only [List.getElem?_toArray, List.getElem?_cons_succ, List.getElem?_cons_zero]; rfl) (by kernel_rfl) (by kernel_rfl) (by kernel_rfl) (by intro _ _ _ h; exact h) (Or.inl ⟨by rfl, ?_⟩) (by assumption) ?_
  rotate_left
  · (intro w hSw; (try dsimp only at hSw); go_simp <;> with_reducible rfl)
  try simp only [Act.put, List.setIfInBounds_toArray, List.set_cons_zero, List.set_cons_succ]
  refine wpAnyH_take (i := 2) (v := ?_) (by simp only [List.getElem?_toArray, List.getElem?_cons_succ, List.getElem?_cons_zero]; rfl) (by kernel_rfl) (by kernel_rfl) (by kernel_rfl) (by intro _ _ _ h; exact h) (Or.inl ⟨by rfl, ?_⟩) (by assumption) ?_
  rotate_left
  · (intro w hSw; (try dsimp only at hSw); go_simp <;> with_reducible rfl)
  try simp only [Act.put, List.setIfInBounds_toArray, List.set_cons_zero, List.set_cons_succ]
  refine wpAnyH_take (i := 3) (v := ?_) (by simp only [List.getElem?_toArray, List.getElem?_cons_succ, List.getElem?_cons_zero]; rfl) (by kernel_rfl) (by kernel_rfl) (by kernel_rfl) (by intro _ _ _ h; exact h) (Or.inl ⟨by rfl, ?_⟩) (by assumption) ?_
  rotate_left
  · (intro w hSw; (try dsimp only at hSw); go_simp <;> with_reducible rfl)
  try simp only [Act.put, List.setIfInBounds_toArray, List.set_cons_zero, List.set_cons_succ]
  refine wpAnyH_take (i := 4) (v := ?_) (by simp only [List.getElem?_toArray, List.getElem?_cons_succ, List.getElem?_cons_zero]; rfl) (by kernel_rfl) (by kernel_rfl) (by kernel_rfl) (by intro _ _ _ h; exact h) (Or.inl ⟨by rfl, ?_⟩) (by assumption) ?_
  rotate_left
  · (intro w hSw; (try dsimp only at hSw); go_simp <;> with_reducible rfl)
  try simp only [Act.put, List.setIfInBounds_toArray, List.set_cons_zero, List.set_cons_succ]
  refine wpAnyH_take (i := 5) (v := ?_) (by simp only [List.getElem?_toArray, List.getElem?_cons_succ, List.getElem?_cons_zero]; rfl) (by kernel_rfl) (by kernel_rfl) (by kernel_rfl) (by intro _ _ _ h; exact h) (Or.inl ⟨by rfl, ?_⟩) (by assumption) ?_
  rotate_left
  · (intro w hSw; (try dsimp only at hSw); go_simp <;> with_reducible rfl)
  try simp only [Act.put, List.setIfInBounds_toArray, List.set_cons_zero, List.set_cons_succ]
  refine wpAnyH_take (i := 6) (v := ?_) (by simp only [List.getElem?_toArray, List.getElem?_cons_succ, List.getElem?_cons_zero]; rfl) (by kernel_rfl) (by kernel_rfl) (by kernel_rfl) (by intro _ _ _ h; exact h) (Or.inl ⟨by rfl, ?_⟩) (by assumption) ?_
  rotate_left
  · (intro w hSw; (try dsimp only at hSw); go_simp <;> with_reducible rfl)
  try simp only [Act.put, List.setIfInBounds_toArray, List.set_cons_zero, List.set_cons_succ]
  refine wpAnyH_take (i := 7) (v := ?_) (by simp only [List.getElem?_toArray, List.getElem?_cons_succ, List.getElem?_cons_zero]; rfl) (by kernel_rfl) (by kernel_rfl) (by kernel_rfl) (by intro _ _ _ h; exact h) (Or.inl ⟨by rfl, ?_⟩) (by assumption) ?_
  rotate_left
  · (intro w hSw; (try dsimp only at hSw); go_simp <;> with_reducible rfl)
  try simp only [Act.put, List.setIfInBounds_toArray, List.set_cons_zero, List.set_cons_succ]
  refine wpAnyH_take (i := 8) (v := ?_) (by simp only [List.getElem?_toArray, List.getElem?_cons_succ, List.getElem?_cons_zero]; rfl) (by kernel_rfl) (by kernel_rfl) (by kernel_rfl) (by intro _ _ _ h; exact h) (Or.inl ⟨by rfl, ?_⟩) (by assumption) ?_
  rotate_left
  · (intro w hSw; (try dsimp only at hSw); go_simp <;> with_reducible rfl)
  try simp only [Act.put, List.setIfInBounds_toArray, List.set_cons_zero, List.set_cons_succ]
  refine wpAnyH_take (i := 9) (v := ?_) (by simp only [List.getElem?_toArray, List.getElem?_cons_succ, List.getElem?_cons_zero]; rfl) (by kernel_rfl) (by kernel_rfl) (by kernel_rfl) (by intro _ _ _ h; exact h) (Or.inl ⟨by rfl, ?_⟩) (by assumption) ?_
  rotate_left
  · (intro w hSw; (try dsimp only at hSw); go_simp <;> with_reducible rfl)
  try simp only [Act.put, List.setIfInBounds_toArray, List.set_cons_zero, List.set_cons_succ]
  refine wpAnyH_ready (rs := [10]) (by kernel_rfl) (by simp) ?_
  refine AllReadyH.cons (by simp only [List.getElem?_toArray, List.getElem?_cons_succ, List.getElem?_cons_zero]; rfl) (fun KK hK => ?_) AllReadyH.nil
  go_simp
  refine (HKp.out wd HU6.out).mono ?_
  rintro e w7 ⟨rfl, u7⟩
  have HX7 : Hid (Up W w7) := HU6.out.trans u7
  clear u7
  refine hK.out _ _ (HSw.out _ HX7.out) (fun hHeld => ?_)
  clear hK KK
  try simp only [Act.put, List.setIfInBounds_toArray, List.set_cons_zero, List.set_cons_succ]
  refine wpAnyH_take (i := 11) (v := ?_) (by simp only [List.getElem?_toArray, List.getElem?_cons_succ, List.getElem?_cons_zero]; rfl) (by kernel_rfl) (by kernel_rfl) (by kernel_rfl) (by intro _ _ _ h; exact h) (Or.inl ⟨by rfl, ?_⟩) (by assumption) ?_
  rotate_left
  · (intro w hSw; (try dsimp only at hSw); go_simp <;> with_reducible rfl)
  try simp only [Act.put, List.setIfInBounds_toArray, List.set_cons_zero, List.set_cons_succ]
  refine wpAnyH_take (i := 12) (v := ?_) (by simp only [List.getElem?_toArray, List.getElem?_cons_succ, List.getElem?_cons_zero]; rfl) (by kernel_rfl) (by kernel_rfl) (by kernel_rfl) (by intro _ _ _ h; exact h) (Or.inl ⟨by rfl, ?_⟩) (by assumption) ?_
  rotate_left
  · (intro w hSw; (try dsimp only at hSw); go_simp <;> with_reducible rfl)
  try simp only [Act.put, List.setIfInBounds_toArray, List.set_cons_zero, List.set_cons_succ]
  have kc := (HBy.out w7 HX7.out).cell pl HPl.out
  have kf := (HBy.out w7 HX7.out).fz pl
  refine wpAnyH_ready (rs := [13]) (by kernel_rfl) (by simp) ?_
  refine AllReadyH.cons (by simp only [List.getElem?_toArray, List.getElem?_cons_succ, List.getElem?_cons_zero]; rfl) (fun KK hK => ?_) AllReadyH.nil
  go_simp
  have HF : Hid (Fr rb w7 (w7.setCell ⟨rb, pl, none⟩ (.int .u8 (bits .and .u8 (x : Int) (kp : Int))))) := (Fr.refl rb w7).setCell
  have HZ : Hid (By (w7.setCell ⟨rb, pl, none⟩ (.int .u8 (bits .and .u8 (x : Int) (kp : Int)))) rb n (putF f pl 1 (fun _ => bits .and .u8 (x : Int) (kp : Int)))) := (HBy.out w7 HX7.out).set pl HPl.out _
  generalize World.setCell w7 _ _ = w8 at HF HZ ⊢
  refine hK.out _ _ ?_ (fun hHeld => ?_)
  · have h7 := HSw.out _ HX7.out
    exact ⟨(HF.out.cell (World.block_lt_of_cell? _ _ h7.1) hne).trans h7.1, (HF.out.cell (World.block_lt_of_cell? _ _ h7.1) hne).trans h7.2⟩
  clear hK KK
  refine wpAnyH_done (by kernel_rfl) ?_ _
  clear hHeld kc kf
  go_wp2_with fail
  go_end0
  exact ⟨rfl, HZ.out, (Fr.ofUp HX7.out).trans HF.out⟩
set_option maxRecDepth 100000 in
set_option maxHeartbeats 1000000 in
theorem writeRam_5 {cb rb rc n A pl x kp : Nat} {f : Nat → Int} (hA1 : 40960 ≤ A) (hA2 : A < 49152) (k7 : W.cell? ⟨cb, 7, none⟩ = some (.slice (some ⟨rb, 0, none⟩) n rc)) (k8 : W.cell? ⟨cb, 8, none⟩ = some (.iface 117 (.pointer (some ⟨b, 0, none⟩)))) (hB : By W rb n f) (hpl : pl < n) (hne : cb ≠ rb) (hx : x ≤ 255) (hkp : kp ≤ 255)
    (HRP : Hid (∀ w, Up W w → Calls Tryd.prog 41 #[.pointer (some ⟨cb, 0, none⟩), .int .i64 (A : Int)] w fun e w' => e = .returned (.tuple #[.int .i64 (pl : Int), .bool true]) ∧ Up w w'))
    (HKp : Hid (∀ w, Up W w → Calls Tryd.prog 108 #[.pointer (some ⟨b, 0, none⟩)] w fun e w' => e = .returned (.int .u8 (kp : Int)) ∧ Up w w')) : Calls Tryd.prog 18 #[.pointer (some ⟨cb, 0, none⟩), .int .i64 (A : Int), .int .u8 (x : Int)] W fun e w' => e = .returned (.tuple #[]) ∧ By w' rb n (putF f pl 1 (fun _ => bits .and .u8 (x : Int) (kp : Int))) ∧ Fr rb W w' := by
  have e1 : ¬ (A : Int) < 32768 := by omega
  have e0 : (0 : Int) ≤ (A : Int) := by omega
  have e4 : (pl : Int) < (n : Int) := by omega
  have HSw : Hid (∀ w, Up W w → w.cell? ⟨cb, 7, none⟩ = some (.slice (some ⟨rb, 0, none⟩) n rc) ∧ w.cell? ⟨cb, 8, none⟩ = some (.iface 117 (.pointer (some ⟨b, 0, none⟩)))) := fun w u => ⟨cell_up u k7, cell_up u k8⟩
  have HBy : Hid (∀ w, Up W w → By w rb n f) := fun w u => hB.up u
  have HPl : Hid (pl < n) := hpl
  clear k7 k8 hB
  go_enter Tryd.func18, Tryd.ntmps18
  go_wp2_with fail
  refine (HRP.out _ (by first | exact Up.refl _ | exact Up.drewN _ _ | exact (Up.refl _).drew)).mono ?_
  rintro e w5 ⟨rfl, u5⟩
  have HU5 : Hid (Up W w5) := by first | exact u5 | exact (Up.drewN _ _).trans u5 | exact ((Up.refl _).drew).trans u5
  clear u5
  obtain ⟨k7, k8⟩ := HSw.out w5 HU5.out
  go_wp2_with fail
  clear k7 k8
  refine wp_region_held_drew (S := fun w => w.cell? ⟨cb, 7, none⟩ = some (.slice (some ⟨rb, 0, none⟩) n rc) ∧ w.cell? ⟨cb, 8, none⟩ = some (.iface 117 (.pointer (some ⟨b, 0, none⟩)))) (by kernel_rfl) ?_ (fun hHeld => ?_)
  · exact HSw.out _ HU5.out.drew
  have HU6 : Hid (Up W w5.drew) := HU5.out.drew
  generalize World.drew w5 = wd at HU6 hHeld ⊢
  refine wpAnyH_take (i := 0) (v := ?_) (by simp only [List.getElem?_toArray, List.getElem?_cons_zero]; rfl) (by kernel_rfl) (by kernel_rfl) (by kernel_rfl) (by intro _ _ _ h; exact h) (Or.inl ⟨by rfl, ?_⟩) (by assumption) ?_
  rotate_left
  · (intro w hSw; (try dsimp only at hSw); go_simp <;> with_reducible rfl)
  try simp only [Act.put, List.setIfInBounds_toArray, List.set_cons_zero, List.set_cons_succ]
  refine wpAnyH_take (i := 1) (v := ?_) (by simp only [List.getElem?_toArray, List.getElem?_cons_succ, List.getElem?_cons_zero]; rfl) (by kernel_rfl) (by kernel_rfl) (by kernel_rfl) (by intro _ _ _ h; exact h) (Or.inl ⟨by rfl, ?_⟩) (by assumption) ?_
  rotate_left
  · (intro w hSw; (try dsimp only at hSw); go_simp <;> with_reducible rfl)
  try simp only [Act.put, List.setIfInBounds_toArray, List.set_cons_zero, List.set_cons_succ]
  refine wpAnyH_take (i := 2) (v := ?_) (by simp only [List.getElem?_toArray, List.getElem?_cons_succ, List.getElem?_cons_zero]; rfl) (by kernel_rfl) (by kernel_rfl) (by kernel_rfl) (by intro _ _ _ h; exact h) (Or.inl ⟨by rfl, ?_⟩) (by assumption) ?_
  rotate_left
  · (intro w hSw; (try dsimp only at hSw); go_simp <;> with_reducible rfl)
  try simp only [Act.put, List.setIfInBounds_toArray, List.set_cons_zero, List.set_cons_succ]
  refine wpAnyH_take (i := 3) (v := ?_) (by simp only [List.getElem?_toArray, List.getElem?_cons_succ, List.getElem?_cons_zero]; rfl) (by kernel_rfl) (by kernel_rfl) (by kernel_rfl) (by intro _ _ _ h; exact h) (Or.inl ⟨by rfl, ?_⟩) (by assumption) ?_
  rotate_left
  · (intro w hSw; (try dsimp only at hSw); go_simp <;> with_reducible rfl)
  try simp only [Act.put, List.setIfInBounds_toArray, List.set_cons_zero, List.set_cons_succ]
  refine wpAnyH_take (i := 4) (v := ?_) (by simp only [List.getElem?_toArray, List.getElem?_cons_succ, List.getElem?_cons_zero]; rfl) (by kernel_rfl) (by kernel_rfl) (by kernel_rfl) (by intro _ _ _ h; exact h) (Or.inl ⟨by rfl, ?_⟩) (by assumption) ?_
  rotate_left
  · (intro w hSw; (try dsimp only at hSw); go_simp <;> with_reducible rfl)
  try simp only [Act.put, List.setIfInBounds_toArray, List.set_cons_zero, List.set_cons_succ]
  refine wpAnyH_take (i := 5) (v := ?_) (by simp only [List.getElem?_toArray, List.getElem?_cons_succ, List.getElem?_cons_zero]; rfl) (by kernel_rfl) (by kernel_rfl) (by kernel_rfl) (by intro _ _ _ h; exact h) (Or.inl ⟨by rfl, ?_⟩) (by assumption) ?_
  rotate_left
  · (intro w hSw; (try dsimp only at hSw); go_simp <;> with_reducible rfl)
  try simp only [Act.put, List.setIfInBounds_toArray, List.set_cons_zero, List.set_cons_succ]
  refine wpAnyH_take (i := 6) (v := ?_) (by simp only [List.getElem?_toArray, List.getElem?_cons_succ, List.getElem?_cons_zero]; rfl) (by kernel_rfl) (by kernel_rfl) (by kernel_rfl) (by intro _ _ _ h; exact h) (Or.inl ⟨by rfl, ?_⟩) (by assumption) ?_
  rotate_left
  · (intro w hSw; (try dsimp only at hSw); go_simp <;> with_reducible rfl)
  try simp only [Act.put, List.setIfInBounds_toArray, List.set_cons_zero, List.set_cons_succ]
  refine wpAnyH_take (i := 7) (v := ?_) (by simp only [List.getElem?_toArray, List.getElem?_cons_succ, List.getElem?_cons_zero]; rfl) (by kernel_rfl) (by kernel_rfl) (by kernel_rfl) (by intro _ _ _ h; exact h) (Or.inl ⟨by rfl, ?_⟩) (by assumption) ?_
  rotate_left
  · (intro w hSw; (try dsimp only at hSw); go_simp <;> with_reducible rfl)
  try simp only [Act.put, List.setIfInBounds_toArray, List.set_cons_zero, List.set_cons_succ]
  refine wpAnyH_take (i := 8) (v := ?_) (by simp only [List.getElem?_toArray, List.getElem?_cons_succ, List.getElem?_cons_zero]; rfl) (by kernel_rfl) (by kernel_rfl) (by kernel_rfl) (by intro _ _ _ h; exact h) (Or.inl ⟨by rfl, ?_⟩) (by assumption) ?_
  rotate_left
  · (intro w hSw; (try dsimp only at hSw); go_simp <;> with_reducible rfl)
  try simp only [Act.put, List.setIfInBounds_toArray, List.set_cons_zero, List.set_cons_succ]
  refine wpAnyH_take (i := 9) (v := ?_) (by simp only [List.getElem?_toArray, List.getElem?_cons_succ, List.getElem?_cons_zero]; rfl) (by kernel_rfl) (by kernel_rfl) (by kernel_rfl) (by intro _ _ _ h; exact h) (Or.inl ⟨by rfl, ?_⟩) (by assumption) ?_
  rotate_left
  · (intro w hSw; (try dsimp only at hSw); go_simp <;> with_reducible rfl)
  try simp only [Act.put, List.setIfInBounds_toArray, List.set_cons_zero, List.set_cons_succ]
  refine wpAnyH_ready (rs := [10]) (by kernel_rfl) (by simp) ?_
  refine AllReadyH.cons (by simp only [List.getElem?_toArray, List.getElem?_cons_succ, List.getElem?_cons_zero]; rfl) (fun KK hK => ?_) AllReadyH.nil
  go_simp
  refine (HKp.out wd HU6.out).mono ?_
  rintro e w7 ⟨rfl, u7⟩
  have HX7 : Hid (Up W w7) := HU6.out.trans u7
  clear u7
  refine hK.out _ _ (HSw.out _ HX7.out) (fun hHeld => ?_)
  clear hK KK
  try simp only [Act.put, List.setIfInBounds_toArray, List.set_cons_zero, List.set_cons_succ]
  refine wpAnyH_take (i := 11) (v := ?_) (by simp only [List.getElem?_toArray, List.getElem?_cons_succ, List.getElem?_cons_zero]; rfl) (by kernel_rfl) (by kernel_rfl) (by kernel_rfl) (by intro _ _ _ h; exact h) (Or.inl ⟨by rfl, ?_⟩) (by assumption) ?_
  rotate_left
  · (intro w hSw; (try dsimp only at hSw); go_simp <;> with_reducible rfl)
  try simp only [Act.put, List.setIfInBounds_toArray, List.set_cons_zero, List.set_cons_succ]
  refine wpAnyH_take (i := 12) (v := ?_) (by simp only [List.getElem?_toArray, List.getElem?_cons_succ, List.getElem?_cons_zero]; rfl) (by kernel_rfl) (by kernel_rfl) (by kernel_rfl) (by intro _ _ _ h; exact h) (Or.inl ⟨by rfl, ?_⟩) (by assumption) ?_
  rotate_left
  · (intro w hSw; (try dsimp only at hSw); go_simp <;> with_reducible rfl)
  try simp only [Act.put, List.setIfInBounds_toArray, List.set_cons_zero, List.set_cons_succ]
  have kc := (HBy.out w7 HX7.out).cell pl HPl.out
  have kf := (HBy.out w7 HX7.out).fz pl
  refine wpAnyH_ready (rs := [13]) (by kernel_rfl) (by simp) ?_
  refine AllReadyH.cons (by simp only [List.getElem?_toArray, List.getElem?_cons_succ, List.getElem?_cons_zero]; rfl) (fun KK hK => ?_) AllReadyH.nil
  go_simp
  have HF : Hid (Fr rb w7 (w7.setCell ⟨rb, pl, none⟩ (.int .u8 (bits .and .u8 (x : Int) (kp : Int))))) := (Fr.refl rb w7).setCell
  have HZ : Hid (By (w7.setCell ⟨rb, pl, none⟩ (.int .u8 (bits .and .u8 (x : Int) (kp : Int)))) rb n (putF f pl 1 (fun _ => bits .and .u8 (x : Int) (kp : Int)))) := (HBy.out w7 HX7.out).set pl HPl.out _
  generalize World.setCell w7 _ _ = w8 at HF HZ ⊢
  refine hK.out _ _ ?_ (fun hHeld => ?_)
  · have h7 := HSw.out _ HX7.out
    exact ⟨(HF.out.cell (World.block_lt_of_cell? _ _ h7.1) hne).trans h7.1, (HF.out.cell (World.block_lt_of_cell? _ _ h7.1) hne).trans h7.2⟩
  clear hK KK
  refine wpAnyH_done (by kernel_rfl) ?_ _
  clear hHeld kc kf
  go_wp2_with fail
  go_end0
  exact ⟨rfl, HZ.out, (Fr.ofUp HX7.out).trans HF.out⟩
end Go.Proofs.YtojlappgmckokaaDoor
