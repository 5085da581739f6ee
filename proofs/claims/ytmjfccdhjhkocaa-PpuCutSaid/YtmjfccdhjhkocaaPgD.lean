/- Any line is drawn. -/
import Derived.Test.YtmjfccdhjhkocaaPgC
import Derived.Test.YtmjfccdhjhkocaaPsR
namespace Go.Proofs.Ytmjfccdhjhkocaa
open Go.RowKit
set_option linter.unusedVariables false
variable {b : Nat} {p : Pic}
def Pic.lineTG (p : Pic) (M : Nat) : Pic := p.setLine (160 * (p.rg 4).toNat) (p.sprAllA (p.groundF (fun _ => 0)) (p.sorted M) ⟨fun _ => false, fun k => colourI (p.rg 7) (p.groundF (fun _ => 0) k)⟩).D 160
def Pic.lineWS (p : Pic) (M : Nat) : Pic := (p.setRows (p.rows + 1)).setLine (160 * (p.rg 4).toNat) ((p.setRows (p.rows + 1)).sprAllA (p.windowG (p.groundF (fun _ => 0))) ((p.setRows (p.rows + 1)).sorted M) ⟨fun _ => false, fun k => colourI (p.rg 7) (p.windowG (p.groundF (fun _ => 0)) k)⟩).D 160
def Pic.lineWG (p : Pic) : Pic := (p.setRows (p.rows + 1)).setLine (160 * (p.rg 4).toNat) (fun k => colourI (p.rg 7) (p.windowG (p.groundF (fun _ => 0)) k)) 160
set_option maxRecDepth 100000 in
set_option maxHeartbeats 4000000 in
theorem drawLineTG_any (i : p.In) (hly : p.rg 4 < 144) (hw : p.win = false) (hs : p.has 2 = true) {M : Nat} (hM : M = 40) : Draws b p (p.lineTG M) := by
  intro W h
  have HWn : Hid (∀ W, PxAt W b p → Calls Try.prog 71 #[.pointer (some ⟨b, 0, none⟩)] W fun e w' => e = .returned (.bool false) ∧ w' = W) := fun W h => hw ▸ windowThere_any W h
  have HP : Hid (PxAt W b p) := h
  have HI : Hid p.In := i
  have l0 := (i.rg 4).1
  have hbl := h.lt
  clear h i hw
  unfold Pic.lineTG
  have HB : Hid (∀ k, 0 ≤ p.groundF (fun _ => 0) k ∧ p.groundF (fun _ => 0) k ≤ 3) := fun k => Pic.groundF_b HI.out k
  have HCo : Hid (∀ (k : Nat) (W : World), Calls Try.prog 73 #[.int .u8 (p.rg 7), .int .u8 (p.groundF (fun _ => 0) k)] W fun e w' => e = .returned (.int .u8 (colourI (p.rg 7) (p.groundF (fun _ => 0) k))) ∧ w' = W) := fun k W => colour_any _ _ (HB.out k).1 (HB.out k).2 (HI.out.rg 7).1 (HI.out.rg 7).2 W
  have HG : Hid _ := layGround_any HI.out W.heap.size (fun _ => 0) (by omega) (W.alloc (Obj.cells Try.zeroCells70 70)) (HP.out.up ((Up.refl W).alloc _)) (zeroRow W)
  generalize p.groundF (fun _ => 0) = G at *
  have HDS : Hid (∀ A D0 g w, A ≤ 22880 → g ≠ b → PxAt w b (p.setLine A D0 160) → NmAt w g 160 G → Calls Try.prog 74 #[.pointer (some ⟨b, 0, none⟩), .slice (some ⟨b, 8367 + A, none⟩) 160 (23040 - A), .pointer (some ⟨g, 0, none⟩)] w fun e w' => e = .returned (.tuple #[]) ∧ PxAt w' b (p.setLine A (p.sprAllA G (p.sorted M) ⟨fun _ => false, D0⟩).D 160) ∧ Fr b w w') := fun A D0 g w hA hg h1 h2 => drawSpritesG_any HI.out hM A hA D0 g hg G w h1 h2
  clear hM
  generalize p.sorted M = FL at *
  obtain ⟨N, hN⟩ : ∃ N, N = 160 * (p.rg 4).toNat := ⟨_, rfl⟩
  have hN2 : N ≤ 22880 := by omega
  have sl : ∀ w, (Instr.sliceAt 72 (.pointer (some ⟨b, 8367, none⟩)) (some (.int .i64 (p.rg 4 * 160))) (some (.int .i64 (p.rg 4 * 160 + 160))) none).run Try.prog w = .ok (.slice (some ⟨b, 8367 + N, none⟩) 160 (23040 - N)) w := fun w => sliced_line _ _ N (by omega) (by omega) hN2 w
  rw [← hN]
  clear hN
  have HQ : Hid (b < W.heap.size) := hbl
  clear hbl
  go_enter Try.func64, Try.ntmps64
  go_wp2_with fail
  refine Calls.mono HG.out ?_
  rintro e w2 ⟨rfl, h2, F2⟩
  have p2 : PxAt w2 b p := (HP.out.up ((Up.refl W).alloc _)).ofB (F2.block _ (HP.out.up ((Up.refl W).alloc _)).lt (by have := HQ.out; omega))
  have u2 : Up W w2 := Fr.up ((Up.refl W).alloc _) (Nat.le_refl _) F2
  have H2 : Hid (PxAt w2 b p ∧ NmAt w2 W.heap.size 160 G ∧ Up W w2) := ⟨p2, h2, u2⟩
  have k4 : w2.cell? ⟨b, 8356, none⟩ = some (.int .u8 (p.rg 4)) := p2.reg 4 (by decide)
  clear h2 p2 u2 F2 HG
  generalize W.heap.size = g at H2 HQ ⊢
  go_wp2_with fail
  refine (HWn.out _ H2.out.1).mono ?_
  rintro e w' ⟨rfl, hw'⟩
  obtain rfl := hw'.symm
  obtain ⟨D, hD⟩ : ∃ D, D = cellsOf G := ⟨_, rfl⟩
  have HR : Hid (w2.rangeAt g 0 D) := by show World.rangeAt _ _ _ _; rw [hD]; exact H2.out.2.1.range
  have HL : Hid ((Try.prog.info? 70).map (·.size) = some D.length) := by show _ = _; rw [hD, cellsOf_len]; kernel_rfl
  have HV : Hid (∀ k, k < 160 → D.toArray[k]? = some (.int .u8 (G k))) := fun k hk => by rw [hD]; exact cellsOf_at G k hk
  clear hD
  go_wp2_with (refine wpList_load_mid rfl 70 _ rfl g 0 rfl D _ HR.out Try.underlying70 rfl HL.out ?_)
  have H3 : Hid (PxAt w2 b (p.setLine N (fun k => colourI (p.rg 7) (G k)) 0) ∧ Fr b W w2 ∧ NmAt w2 g 160 G) := ⟨by rw [setLine0]; exact H2.out.1, Fr.ofUp H2.out.2.2, H2.out.2.1⟩
  have HA : Hid (∀ x W, PxAt W b (p.setLine N (fun k => colourI (p.rg 7) (G k)) x) → Calls Try.prog 48 #[.pointer (some ⟨b, 0, none⟩), .int .u8 2] W fun e w' => e = .returned (.bool true) ∧ w' = W) := fun x W h => hs ▸ has_any (p := p.setLine N (fun k => colourI (p.rg 7) (G k)) x) 2 W h
  clear H2 HP HI HR HL k4 sl HWn hs
  go_loopw [35] (fun X wr => ∃ x : Nat, x ≤ 160 ∧ X = .int .i64 x ∧ Hid (PxAt wr b (p.setLine N (fun k => colourI (p.rg 7) (G k)) x) ∧ Fr b W wr ∧ NmAt wr g 160 G)) (fun X _ => 160 - (intOf X).toNat)
  case atStart => exact ⟨0, by omega, rfl, H3⟩
  case round =>
    clear H3
    obtain ⟨x, hx, rfl, M0⟩ := hrel
    by_cases hlt : x < 160
    · have d1 : decide ((x : Int) < 160) = true := decide_eq_true (by omega)
      have e1 : (x : Int) < 160 := by omega
      have k7 : wr.cell? ⟨b, 8359, none⟩ = some (.int .u8 (p.rg 7)) := M0.out.1.reg 7 (by decide)
      have kn := M0.out.1.here (8367 + N + x) (by omega)
      have fn := M0.out.1.fz (8367 + N + x)
      obtain ⟨old, kn⟩ := Option.isSome_iff_exists.1 kn
      have HS : Hid _ := And.intro (M0.out.1.set (8367 + N + x) _ (fun j hj => Pic.cellLn p N (fun k => colourI (p.rg 7) (G k)) x (by omega) j hj)) (And.intro (M0.out.2.1.setCell (k := 8367 + N + x) (v := .int .u8 (colourI (p.rg 7) (G x)))) (M0.out.2.2.of_block (Below.heap_setCell wr ⟨b, 8367 + N + x, none⟩ (.int .u8 (colourI (p.rg 7) (G x))) g (show g ≠ b by have := HQ.out; omega))))
      have HC1 : Hid _ := HCo.out x
      have hv := HV.out x hlt
      go_wp2_with (refine wpList_index_cell rfl 70 _ _ rfl 5 160 D.toArray .i64 _ _ (.int .u8 (G x)) rfl rfl Try.underlying70 (by omega) (by omega) Try.underlying5 rfl (by kernel_rfl) hv ?_)
      refine (HC1.out _).mono ?_
      rintro e w' ⟨rfl, hw'⟩
      obtain rfl := hw'.symm
      go_wp2_with fail
      refine ⟨⟨x + 1, by omega, ?_, HS⟩, ?_⟩
      · first | rfl | (simp; done)
      · simp [intOf]
        omega
    · have d1 : decide ((x : Int) < 160) = false := decide_eq_false (by omega)
      obtain rfl : x = 160 := by omega
      go_wp2_with fail
      refine (HA.out _ _ M0.out.1).mono ?_
      rintro e w' ⟨rfl, hw'⟩
      obtain rfl := hw'.symm
      go_wp2_with fail
      refine (HDS.out N _ g _ hN2 (by have := HQ.out; omega) M0.out.1 M0.out.2.2).mono ?_
      rintro e w9 ⟨rfl, h9, F9⟩
      have H9 : Hid _ := And.intro h9 (M0.out.2.1.trans F9)
      clear h9 F9
      go_wp2_with fail
      go_end0
      exact ⟨rfl, H9.out⟩
set_option maxRecDepth 100000 in
set_option maxHeartbeats 4000000 in
theorem drawLineWG_any (i : p.In) (hly : p.rg 4 < 144) (hw : p.win = true) (r0 : 0 ≤ p.rows) (r1 : p.rows ≤ 1000) (hs : p.has 2 = false) : Draws b p p.lineWG := by
  intro W h
  have HWn : Hid (∀ W, PxAt W b p → Calls Try.prog 71 #[.pointer (some ⟨b, 0, none⟩)] W fun e w' => e = .returned (.bool true) ∧ w' = W) := fun W h => hw ▸ windowThere_any W h
  have hx : p.rg 11 ≤ 166 := by
    unfold Pic.win at hw
    cases h1 : p.has 32 <;> cases h2 : p.met <;> simp [h1, h2] at hw
    exact hw
  have HP : Hid (PxAt W b p) := h
  have HI : Hid p.In := i
  have l0 := (i.rg 4).1
  have hbl := h.lt
  clear h i hw
  unfold Pic.lineWG
  have HB : Hid (∀ k, 0 ≤ p.windowG (p.groundF (fun _ => 0)) k ∧ p.windowG (p.groundF (fun _ => 0)) k ≤ 3) := fun k => Pic.windowG_b HI.out k
  have HCo : Hid (∀ (k : Nat) (W : World), Calls Try.prog 73 #[.int .u8 (p.rg 7), .int .u8 (p.windowG (p.groundF (fun _ => 0)) k)] W fun e w' => e = .returned (.int .u8 (colourI (p.rg 7) (p.windowG (p.groundF (fun _ => 0)) k))) ∧ w' = W) := fun k W => colour_any _ _ (HB.out k).1 (HB.out k).2 (HI.out.rg 7).1 (HI.out.rg 7).2 W
  have HG : Hid _ := layGround_any HI.out W.heap.size (fun _ => 0) (by omega) (W.alloc (Obj.cells Try.zeroCells70 70)) (HP.out.up ((Up.refl W).alloc _)) (zeroRow W)
  have HLW : Hid (∀ w g f, g ≠ b → PxAt w b p → NmAt w g 160 f → Calls Try.prog 72 #[.pointer (some ⟨b, 0, none⟩), .pointer (some ⟨g, 0, none⟩)] w fun e w' => e = .returned (.tuple #[]) ∧ NmAt w' g 160 (p.windowG f) ∧ Fr g w w') := fun w g f hg h1 h2 => layWindowG_any HI.out hx g f hg w h1 h2
  generalize hG : p.windowG (p.groundF (fun _ => 0)) = G at *
  have HGG : Hid _ := hG
  clear hG hx
  generalize p.groundF (fun _ => 0) = G0 at *
  obtain ⟨N, hN⟩ : ∃ N, N = 160 * (p.rg 4).toNat := ⟨_, rfl⟩
  have hN2 : N ≤ 22880 := by omega
  have sl : ∀ w, (Instr.sliceAt 72 (.pointer (some ⟨b, 8367, none⟩)) (some (.int .i64 (p.rg 4 * 160))) (some (.int .i64 (p.rg 4 * 160 + 160))) none).run Try.prog w = .ok (.slice (some ⟨b, 8367 + N, none⟩) 160 (23040 - N)) w := fun w => sliced_line _ _ N (by omega) (by omega) hN2 w
  rw [← hN]
  clear hN
  have HQ : Hid (b < W.heap.size) := hbl
  have HGE : Hid (W.heap.size ≤ W.heap.size) := Nat.le_refl _
  clear hbl
  go_enter Try.func64, Try.ntmps64
  go_wp2_with fail
  refine Calls.mono HG.out ?_
  rintro e w2 ⟨rfl, h2, F2⟩
  have p2 : PxAt w2 b p := (HP.out.up ((Up.refl W).alloc _)).ofB (F2.block _ (HP.out.up ((Up.refl W).alloc _)).lt (by have := HQ.out; omega))
  have u2 : Up W w2 := Fr.up ((Up.refl W).alloc _) (Nat.le_refl _) F2
  have H2 : Hid (PxAt w2 b p ∧ NmAt w2 W.heap.size 160 G0 ∧ Up W w2) := ⟨p2, h2, u2⟩
  have k4 : w2.cell? ⟨b, 8356, none⟩ = some (.int .u8 (p.rg 4)) := p2.reg 4 (by decide)
  clear h2 p2 u2 F2 HG
  have HGE2 : Hid (∃ n, n = W.heap.size ∧ W.heap.size ≤ n) := ⟨_, rfl, Nat.le_refl _⟩
  obtain ⟨g, hg⟩ : ∃ g, g = W.heap.size := ⟨_, rfl⟩
  have HGE : Hid (W.heap.size ≤ g) := Nat.le_of_eq hg.symm
  rw [← hg] at H2 HQ
  rw [← hg]
  clear hg HGE2
  go_wp2_with fail
  refine (HWn.out _ H2.out.1).mono ?_
  rintro e w' ⟨rfl, hw'⟩
  obtain rfl := hw'.symm
  clear k4
  go_wp2_with fail
  refine (HLW.out _ _ _ (by have := HQ.out; omega) H2.out.1 H2.out.2.1).mono ?_
  rintro e w3 ⟨rfl, h3, F3⟩
  have p3 : PxAt w3 b p := H2.out.1.ofB (F3.block _ H2.out.1.lt (by have := HQ.out; omega))
  have kr := p3.rowsC
  have fr := p3.fz 8366
  have p4 : PxAt (w3.setCell ⟨b, 8366, none⟩ (.int .i64 (p.rows + 1))) b (p.setRows (p.rows + 1)) := p3.set 8366 _ (fun j _ => Pic.cellRows p _ j)
  have H4 : Hid (PxAt (w3.setCell ⟨b, 8366, none⟩ (.int .i64 (p.rows + 1))) b (p.setRows (p.rows + 1)) ∧ NmAt (w3.setCell ⟨b, 8366, none⟩ (.int .i64 (p.rows + 1))) g 160 G ∧ Fr b W (w3.setCell ⟨b, 8366, none⟩ (.int .i64 (p.rows + 1)))) := ⟨p4, (by rw [← HGG.out]; exact h3.of_block (Below.heap_setCell _ _ _ _ (show g ≠ b by have := HQ.out; omega))), ((Fr.ofUp (Fr.up H2.out.2.2 HGE.out F3)).setCell)⟩
  have k4 : (w3.setCell ⟨b, 8366, none⟩ (.int .i64 (p.rows + 1))).cell? ⟨b, 8356, none⟩ = some (.int .u8 (p.rg 4)) := p4.reg 4 (by decide)
  clear p3 p4 h3 F3 HLW HGG
  obtain ⟨D, hD⟩ : ∃ D, D = cellsOf G := ⟨_, rfl⟩
  have HR : Hid ((w3.setCell ⟨b, 8366, none⟩ (.int .i64 (p.rows + 1))).rangeAt g 0 D) := by show World.rangeAt _ _ _ _; rw [hD]; exact H4.out.2.1.range
  have HL : Hid ((Try.prog.info? 70).map (·.size) = some D.length) := by show _ = _; rw [hD, cellsOf_len]; kernel_rfl
  have HV : Hid (∀ k, k < 160 → D.toArray[k]? = some (.int .u8 (G k))) := fun k hk => by rw [hD]; exact cellsOf_at G k hk
  clear hD
  go_wp2_with (refine wpList_load_mid rfl 70 _ rfl g 0 rfl D _ HR.out Try.underlying70 rfl HL.out ?_)
  generalize World.setCell w3 _ _ = w5 at H4 ⊢
  have H3 : Hid (PxAt w5 b ((p.setRows (p.rows + 1)).setLine N (fun k => colourI (p.rg 7) (G k)) 0) ∧ Fr b W w5) := ⟨by rw [setLine0]; exact H4.out.1, H4.out.2.2⟩
  clear H4 kr fr
  have HA : Hid (∀ x W, PxAt W b ((p.setRows (p.rows + 1)).setLine N (fun k => colourI (p.rg 7) (G k)) x) → Calls Try.prog 48 #[.pointer (some ⟨b, 0, none⟩), .int .u8 2] W fun e w' => e = .returned (.bool false) ∧ w' = W) := fun x W h => hs ▸ has_any (p := (p.setRows (p.rows + 1)).setLine N (fun k => colourI (p.rg 7) (G k)) x) 2 W h
  clear H2 HP HI HR HL k4 sl HWn hs
  go_loopw [35] (fun X wr => ∃ x : Nat, x ≤ 160 ∧ X = .int .i64 x ∧ Hid (PxAt wr b ((p.setRows (p.rows + 1)).setLine N (fun k => colourI (p.rg 7) (G k)) x) ∧ Fr b W wr)) (fun X _ => 160 - (intOf X).toNat)
  case atStart => exact ⟨0, by omega, rfl, H3⟩
  case round =>
    clear H3
    obtain ⟨x, hx, rfl, M0⟩ := hrel
    by_cases hlt : x < 160
    · have d1 : decide ((x : Int) < 160) = true := decide_eq_true (by omega)
      have e1 : (x : Int) < 160 := by omega
      have k7 : wr.cell? ⟨b, 8359, none⟩ = some (.int .u8 (p.rg 7)) := M0.out.1.reg 7 (by decide)
      have kn := M0.out.1.here (8367 + N + x) (by omega)
      have fn := M0.out.1.fz (8367 + N + x)
      obtain ⟨old, kn⟩ := Option.isSome_iff_exists.1 kn
      have HS : Hid _ := And.intro (M0.out.1.set (8367 + N + x) _ (fun j hj => Pic.cellLn (p.setRows (p.rows + 1)) N (fun k => colourI (p.rg 7) (G k)) x (by omega) j hj)) (M0.out.2.setCell (k := 8367 + N + x) (v := .int .u8 (colourI (p.rg 7) (G x))))
      have HC1 : Hid _ := HCo.out x
      have hv := HV.out x hlt
      go_wp2_with (refine wpList_index_cell rfl 70 _ _ rfl 5 160 D.toArray .i64 _ _ (.int .u8 (G x)) rfl rfl Try.underlying70 (by omega) (by omega) Try.underlying5 rfl (by kernel_rfl) hv ?_)
      refine (HC1.out _).mono ?_
      rintro e w' ⟨rfl, hw'⟩
      obtain rfl := hw'.symm
      go_wp2_with fail
      refine ⟨⟨x + 1, by omega, ?_, HS⟩, ?_⟩
      · first | rfl | (simp; done)
      · simp [intOf]
        omega
    · have d1 : decide ((x : Int) < 160) = false := decide_eq_false (by omega)
      obtain rfl : x = 160 := by omega
      go_wp2_with fail
      refine (HA.out _ _ M0.out.1).mono ?_
      rintro e w' ⟨rfl, hw'⟩
      obtain rfl := hw'.symm
      go_wp2_with fail
      go_end0
      exact ⟨rfl, M0.out⟩
set_option maxRecDepth 100000 in
set_option maxHeartbeats 4000000 in
theorem drawLineWS_any (i : p.In) (hly : p.rg 4 < 144) (hw : p.win = true) (r0 : 0 ≤ p.rows) (r1 : p.rows ≤ 1000) (hs : p.has 2 = true) {M : Nat} (hM : M = 40) : Draws b p (p.lineWS M) := by
  intro W h
  have HWn : Hid (∀ W, PxAt W b p → Calls Try.prog 71 #[.pointer (some ⟨b, 0, none⟩)] W fun e w' => e = .returned (.bool true) ∧ w' = W) := fun W h => hw ▸ windowThere_any W h
  have hx : p.rg 11 ≤ 166 := by
    unfold Pic.win at hw
    cases h1 : p.has 32 <;> cases h2 : p.met <;> simp [h1, h2] at hw
    exact hw
  have HP : Hid (PxAt W b p) := h
  have HI : Hid p.In := i
  have l0 := (i.rg 4).1
  have hbl := h.lt
  clear h i hw
  unfold Pic.lineWS
  have HB : Hid (∀ k, 0 ≤ p.windowG (p.groundF (fun _ => 0)) k ∧ p.windowG (p.groundF (fun _ => 0)) k ≤ 3) := fun k => Pic.windowG_b HI.out k
  have HCo : Hid (∀ (k : Nat) (W : World), Calls Try.prog 73 #[.int .u8 (p.rg 7), .int .u8 (p.windowG (p.groundF (fun _ => 0)) k)] W fun e w' => e = .returned (.int .u8 (colourI (p.rg 7) (p.windowG (p.groundF (fun _ => 0)) k))) ∧ w' = W) := fun k W => colour_any _ _ (HB.out k).1 (HB.out k).2 (HI.out.rg 7).1 (HI.out.rg 7).2 W
  have HG : Hid _ := layGround_any HI.out W.heap.size (fun _ => 0) (by omega) (W.alloc (Obj.cells Try.zeroCells70 70)) (HP.out.up ((Up.refl W).alloc _)) (zeroRow W)
  have HLW : Hid (∀ w g f, g ≠ b → PxAt w b p → NmAt w g 160 f → Calls Try.prog 72 #[.pointer (some ⟨b, 0, none⟩), .pointer (some ⟨g, 0, none⟩)] w fun e w' => e = .returned (.tuple #[]) ∧ NmAt w' g 160 (p.windowG f) ∧ Fr g w w') := fun w g f hg h1 h2 => layWindowG_any HI.out hx g f hg w h1 h2
  generalize hG : p.windowG (p.groundF (fun _ => 0)) = G at *
  have HDS : Hid (∀ A D0 g w, A ≤ 22880 → g ≠ b → PxAt w b ((p.setRows (p.rows + 1)).setLine A D0 160) → NmAt w g 160 G → Calls Try.prog 74 #[.pointer (some ⟨b, 0, none⟩), .slice (some ⟨b, 8367 + A, none⟩) 160 (23040 - A), .pointer (some ⟨g, 0, none⟩)] w fun e w' => e = .returned (.tuple #[]) ∧ PxAt w' b ((p.setRows (p.rows + 1)).setLine A ((p.setRows (p.rows + 1)).sprAllA G ((p.setRows (p.rows + 1)).sorted M) ⟨fun _ => false, D0⟩).D 160) ∧ Fr b w w') := fun A D0 g w hA hg h1 h2 => drawSpritesG_any (p := p.setRows (p.rows + 1)) ⟨HI.out.vr, HI.out.oa, HI.out.rg⟩ hM A hA D0 g hg G w h1 h2
  clear hM
  generalize (p.setRows (p.rows + 1)).sorted M = FL at *
  have HGG : Hid _ := hG
  clear hG hx
  generalize p.groundF (fun _ => 0) = G0 at *
  obtain ⟨N, hN⟩ : ∃ N, N = 160 * (p.rg 4).toNat := ⟨_, rfl⟩
  have hN2 : N ≤ 22880 := by omega
  have sl : ∀ w, (Instr.sliceAt 72 (.pointer (some ⟨b, 8367, none⟩)) (some (.int .i64 (p.rg 4 * 160))) (some (.int .i64 (p.rg 4 * 160 + 160))) none).run Try.prog w = .ok (.slice (some ⟨b, 8367 + N, none⟩) 160 (23040 - N)) w := fun w => sliced_line _ _ N (by omega) (by omega) hN2 w
  rw [← hN]
  clear hN
  have HQ : Hid (b < W.heap.size) := hbl
  have HGE : Hid (W.heap.size ≤ W.heap.size) := Nat.le_refl _
  clear hbl
  go_enter Try.func64, Try.ntmps64
  go_wp2_with fail
  refine Calls.mono HG.out ?_
  rintro e w2 ⟨rfl, h2, F2⟩
  have p2 : PxAt w2 b p := (HP.out.up ((Up.refl W).alloc _)).ofB (F2.block _ (HP.out.up ((Up.refl W).alloc _)).lt (by have := HQ.out; omega))
  have u2 : Up W w2 := Fr.up ((Up.refl W).alloc _) (Nat.le_refl _) F2
  have H2 : Hid (PxAt w2 b p ∧ NmAt w2 W.heap.size 160 G0 ∧ Up W w2) := ⟨p2, h2, u2⟩
  have k4 : w2.cell? ⟨b, 8356, none⟩ = some (.int .u8 (p.rg 4)) := p2.reg 4 (by decide)
  clear h2 p2 u2 F2 HG
  have HGE2 : Hid (∃ n, n = W.heap.size ∧ W.heap.size ≤ n) := ⟨_, rfl, Nat.le_refl _⟩
  obtain ⟨g, hg⟩ : ∃ g, g = W.heap.size := ⟨_, rfl⟩
  have HGE : Hid (W.heap.size ≤ g) := Nat.le_of_eq hg.symm
  rw [← hg] at H2 HQ
  rw [← hg]
  clear hg HGE2
  go_wp2_with fail
  refine (HWn.out _ H2.out.1).mono ?_
  rintro e w' ⟨rfl, hw'⟩
  obtain rfl := hw'.symm
  clear k4
  go_wp2_with fail
  refine (HLW.out _ _ _ (by have := HQ.out; omega) H2.out.1 H2.out.2.1).mono ?_
  rintro e w3 ⟨rfl, h3, F3⟩
  have p3 : PxAt w3 b p := H2.out.1.ofB (F3.block _ H2.out.1.lt (by have := HQ.out; omega))
  have kr := p3.rowsC
  have fr := p3.fz 8366
  have p4 : PxAt (w3.setCell ⟨b, 8366, none⟩ (.int .i64 (p.rows + 1))) b (p.setRows (p.rows + 1)) := p3.set 8366 _ (fun j _ => Pic.cellRows p _ j)
  have H4 : Hid (PxAt (w3.setCell ⟨b, 8366, none⟩ (.int .i64 (p.rows + 1))) b (p.setRows (p.rows + 1)) ∧ NmAt (w3.setCell ⟨b, 8366, none⟩ (.int .i64 (p.rows + 1))) g 160 G ∧ Fr b W (w3.setCell ⟨b, 8366, none⟩ (.int .i64 (p.rows + 1)))) := ⟨p4, (by rw [← HGG.out]; exact h3.of_block (Below.heap_setCell _ _ _ _ (show g ≠ b by have := HQ.out; omega))), ((Fr.ofUp (Fr.up H2.out.2.2 HGE.out F3)).setCell)⟩
  have k4 : (w3.setCell ⟨b, 8366, none⟩ (.int .i64 (p.rows + 1))).cell? ⟨b, 8356, none⟩ = some (.int .u8 (p.rg 4)) := p4.reg 4 (by decide)
  clear p3 p4 h3 F3 HLW HGG
  obtain ⟨D, hD⟩ : ∃ D, D = cellsOf G := ⟨_, rfl⟩
  have HR : Hid ((w3.setCell ⟨b, 8366, none⟩ (.int .i64 (p.rows + 1))).rangeAt g 0 D) := by show World.rangeAt _ _ _ _; rw [hD]; exact H4.out.2.1.range
  have HL : Hid ((Try.prog.info? 70).map (·.size) = some D.length) := by show _ = _; rw [hD, cellsOf_len]; kernel_rfl
  have HV : Hid (∀ k, k < 160 → D.toArray[k]? = some (.int .u8 (G k))) := fun k hk => by rw [hD]; exact cellsOf_at G k hk
  clear hD
  go_wp2_with (refine wpList_load_mid rfl 70 _ rfl g 0 rfl D _ HR.out Try.underlying70 rfl HL.out ?_)
  generalize World.setCell w3 _ _ = w5 at H4 ⊢
  have H3 : Hid (PxAt w5 b ((p.setRows (p.rows + 1)).setLine N (fun k => colourI (p.rg 7) (G k)) 0) ∧ Fr b W w5 ∧ NmAt w5 g 160 G) := ⟨by rw [setLine0]; exact H4.out.1, H4.out.2.2, H4.out.2.1⟩
  clear H4 kr fr
  have HA : Hid (∀ x W, PxAt W b ((p.setRows (p.rows + 1)).setLine N (fun k => colourI (p.rg 7) (G k)) x) → Calls Try.prog 48 #[.pointer (some ⟨b, 0, none⟩), .int .u8 2] W fun e w' => e = .returned (.bool true) ∧ w' = W) := fun x W h => hs ▸ has_any (p := (p.setRows (p.rows + 1)).setLine N (fun k => colourI (p.rg 7) (G k)) x) 2 W h
  clear H2 HP HI HR HL k4 sl HWn hs
  go_loopw [35] (fun X wr => ∃ x : Nat, x ≤ 160 ∧ X = .int .i64 x ∧ Hid (PxAt wr b ((p.setRows (p.rows + 1)).setLine N (fun k => colourI (p.rg 7) (G k)) x) ∧ Fr b W wr ∧ NmAt wr g 160 G)) (fun X _ => 160 - (intOf X).toNat)
  case atStart => exact ⟨0, by omega, rfl, H3⟩
  case round =>
    clear H3
    obtain ⟨x, hx, rfl, M0⟩ := hrel
    by_cases hlt : x < 160
    · have d1 : decide ((x : Int) < 160) = true := decide_eq_true (by omega)
      have e1 : (x : Int) < 160 := by omega
      have k7 : wr.cell? ⟨b, 8359, none⟩ = some (.int .u8 (p.rg 7)) := M0.out.1.reg 7 (by decide)
      have kn := M0.out.1.here (8367 + N + x) (by omega)
      have fn := M0.out.1.fz (8367 + N + x)
      obtain ⟨old, kn⟩ := Option.isSome_iff_exists.1 kn
      have HS : Hid _ := And.intro (M0.out.1.set (8367 + N + x) _ (fun j hj => Pic.cellLn (p.setRows (p.rows + 1)) N (fun k => colourI (p.rg 7) (G k)) x (by omega) j hj)) (And.intro (M0.out.2.1.setCell (k := 8367 + N + x) (v := .int .u8 (colourI (p.rg 7) (G x)))) (M0.out.2.2.of_block (Below.heap_setCell wr ⟨b, 8367 + N + x, none⟩ (.int .u8 (colourI (p.rg 7) (G x))) g (show g ≠ b by have := HQ.out; omega))))
      have HC1 : Hid _ := HCo.out x
      have hv := HV.out x hlt
      go_wp2_with (refine wpList_index_cell rfl 70 _ _ rfl 5 160 D.toArray .i64 _ _ (.int .u8 (G x)) rfl rfl Try.underlying70 (by omega) (by omega) Try.underlying5 rfl (by kernel_rfl) hv ?_)
      refine (HC1.out _).mono ?_
      rintro e w' ⟨rfl, hw'⟩
      obtain rfl := hw'.symm
      go_wp2_with fail
      refine ⟨⟨x + 1, by omega, ?_, HS⟩, ?_⟩
      · first | rfl | (simp; done)
      · simp [intOf]
        omega
    · have d1 : decide ((x : Int) < 160) = false := decide_eq_false (by omega)
      obtain rfl : x = 160 := by omega
      go_wp2_with fail
      refine (HA.out _ _ M0.out.1).mono ?_
      rintro e w' ⟨rfl, hw'⟩
      obtain rfl := hw'.symm
      go_wp2_with fail
      refine (HDS.out N _ g _ hN2 (by have := HQ.out; omega) M0.out.1 M0.out.2.2).mono ?_
      rintro e w9 ⟨rfl, h9, F9⟩
      have H9 : Hid _ := And.intro h9 (M0.out.2.1.trans F9)
      clear h9 F9
      go_wp2_with fail
      go_end0
      exact ⟨rfl, H9.out⟩
/-- a line, whatever is there -/
def Pic.lineA (M : Nat) (p : Pic) : Pic := if p.win = true then (if p.has 2 = true then p.lineWS M else p.lineWG) else (if p.has 2 = true then p.lineTG M else p.lineP)
theorem drawLineA_any (i : p.In) (hly : p.rg 4 < 144) (r0 : 0 ≤ p.rows) (r1 : p.rows ≤ 1000) {M : Nat} (hM : M = 40) : Draws b p (p.lineA M) := by
  unfold Pic.lineA
  by_cases hw : p.win = true
  · rw [if_pos hw]
    by_cases hs : p.has 2 = true
    · rw [if_pos hs]
      exact drawLineWS_any i hly hw r0 r1 hs hM
    · rw [if_neg hs]
      exact drawLineWG_any i hly hw r0 r1 (by simpa using hs)
  · rw [if_neg hw]
    by_cases hs : p.has 2 = true
    · rw [if_pos hs]
      exact drawLineTG_any i hly (by simpa using hw) hs hM
    · rw [if_neg hs]
      exact drawLine_any i hly (by simpa using hw) (by simpa using hs)
end Go.Proofs.Ytmjfccdhjhkocaa
