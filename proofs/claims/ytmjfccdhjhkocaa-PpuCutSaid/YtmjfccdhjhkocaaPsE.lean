/- A line with at most one sprite, without window. -/
import Derived.Test.YtmjfccdhjhkocaaPsD
namespace Go.Proofs.Ytmjfccdhjhkocaa
open Go.RowKit
set_option linter.unusedVariables false
variable {b : Nat} {p : Pic}
def Pic.lineS (p : Pic) (M : Nat) : Pic := p.setLine (160 * (p.rg 4).toNat) (p.sprAll (p.groundF (fun _ => 0)) (p.found M) ⟨fun _ => false, fun k => colourI (p.rg 7) (p.groundF (fun _ => 0) k)⟩).D 160
set_option maxRecDepth 100000 in
set_option maxHeartbeats 4000000 in
theorem drawLineS_any (i : p.In) (hly : p.rg 4 < 144) (hw : p.win = false) (hs : p.has 2 = true) (h4 : p.has 4 = false) {M : Nat} (hM : M = 40) (hf : (p.found M).length ≤ 1) : Draws b p (p.lineS M) := by
  intro W h
  have HWn : Hid (∀ W, PxAt W b p → Calls Try.prog 71 #[.pointer (some ⟨b, 0, none⟩)] W fun e w' => e = .returned (.bool false) ∧ w' = W) := fun W h => hw ▸ windowThere_any W h
  have HP : Hid (PxAt W b p) := h
  have HI : Hid p.In := i
  have l0 := (i.rg 4).1
  have hbl := h.lt
  clear h i hw
  unfold Pic.lineS
  have HB : Hid (∀ k, 0 ≤ p.groundF (fun _ => 0) k ∧ p.groundF (fun _ => 0) k ≤ 3) := fun k => Pic.groundF_b HI.out k
  have HCo : Hid (∀ (k : Nat) (W : World), Calls Try.prog 73 #[.int .u8 (p.rg 7), .int .u8 (p.groundF (fun _ => 0) k)] W fun e w' => e = .returned (.int .u8 (colourI (p.rg 7) (p.groundF (fun _ => 0) k))) ∧ w' = W) := fun k W => colour_any _ _ (HB.out k).1 (HB.out k).2 (HI.out.rg 7).1 (HI.out.rg 7).2 W
  have HG : Hid _ := layGround_any HI.out W.heap.size (fun _ => 0) (by omega) (W.alloc (Obj.cells Try.zeroCells70 70)) (HP.out.up ((Up.refl W).alloc _)) (zeroRow W)
  generalize p.groundF (fun _ => 0) = G at *
  have HDS : Hid (∀ A D0 g w, A ≤ 22880 → g ≠ b → PxAt w b (p.setLine A D0 160) → NmAt w g 160 G → Calls Try.prog 74 #[.pointer (some ⟨b, 0, none⟩), .slice (some ⟨b, 8367 + A, none⟩) 160 (23040 - A), .pointer (some ⟨g, 0, none⟩)] w fun e w' => e = .returned (.tuple #[]) ∧ PxAt w' b (p.setLine A (p.sprAll G (p.found M) ⟨fun _ => false, D0⟩).D 160) ∧ Fr b w w') := fun A D0 g w hA hg h1 h2 => drawSprites_any HI.out h4 hM hf A hA D0 g hg G w h1 h2
  clear hf hM h4
  generalize p.found M = FL at *
  obtain ⟨N, hN⟩ : ∃ N, N = 160 * (p.rg 4).toNat := ⟨_, rfl⟩
  have hN2 : N ≤ 22880 := by omega
  have sl : ∀ w, (Instr.sliceAt 72 (.pointer (some ⟨b, 8367, none⟩)) (some (.int .i64 (p.rg 4 * 160))) (some (.int .i64 (p.rg 4 * 160 + 160))) none).run Try.prog w = .ok (.slice (some ⟨b, 8367 + N, none⟩) 160 (23040 - N)) w := fun w => sliced_line _ _ N (by omega) (by omega) hN2 w
  rw [← hN]
  clear hN
  have HQ : Hid (b < W.heap.size) := hbl
  clear hbl
  go_enter Try.func64, Try.ntmps64
  go_wp2_with fail
  refine Calls.mono HG.out ?_
  rintro e w2 ⟨rfl, h2, F2⟩
  have p2 : PxAt w2 b p := (HP.out.up ((Up.refl W).alloc _)).ofB (F2.block _ (HP.out.up ((Up.refl W).alloc _)).lt (by have := HQ.out; omega))
  have u2 : Up W w2 := Fr.up ((Up.refl W).alloc _) (Nat.le_refl _) F2
  have H2 : Hid (PxAt w2 b p ∧ NmAt w2 W.heap.size 160 G ∧ Up W w2) := ⟨p2, h2, u2⟩
  have k4 : w2.cell? ⟨b, 8356, none⟩ = some (.int .u8 (p.rg 4)) := p2.reg 4 (by decide)
  clear h2 p2 u2 F2 HG
  generalize W.heap.size = g at H2 HQ ⊢
  go_wp2_with fail
  refine (HWn.out _ H2.out.1).mono ?_
  rintro e w' ⟨rfl, hw'⟩
  obtain rfl := hw'.symm
  obtain ⟨D, hD⟩ : ∃ D, D = cellsOf G := ⟨_, rfl⟩
  have HR : Hid (w2.rangeAt g 0 D) := by show World.rangeAt _ _ _ _; rw [hD]; exact H2.out.2.1.range
  have HL : Hid ((Try.prog.info? 70).map (·.size) = some D.length) := by show _ = _; rw [hD, cellsOf_len]; kernel_rfl
  have HV : Hid (∀ k, k < 160 → D.toArray[k]? = some (.int .u8 (G k))) := fun k hk => by rw [hD]; exact cellsOf_at G k hk
  clear hD
  go_wp2_with (refine wpList_load_mid rfl 70 _ rfl g 0 rfl D _ HR.out Try.underlying70 rfl HL.out ?_)
  have H3 : Hid (PxAt w2 b (p.setLine N (fun k => colourI (p.rg 7) (G k)) 0) ∧ Fr b W w2 ∧ NmAt w2 g 160 G) := ⟨by rw [setLine0]; exact H2.out.1, Fr.ofUp H2.out.2.2, H2.out.2.1⟩
  have HA : Hid (∀ x W, PxAt W b (p.setLine N (fun k => colourI (p.rg 7) (G k)) x) → Calls Try.prog 48 #[.pointer (some ⟨b, 0, none⟩), .int .u8 2] W fun e w' => e = .returned (.bool true) ∧ w' = W) := fun x W h => hs ▸ has_any (p := p.setLine N (fun k => colourI (p.rg 7) (G k)) x) 2 W h
  clear H2 HP HI HR HL k4 sl HWn hs
  go_loopw [35] (fun X wr => ∃ x : Nat, x ≤ 160 ∧ X = .int .i64 x ∧ Hid (PxAt wr b (p.setLine N (fun k => colourI (p.rg 7) (G k)) x) ∧ Fr b W wr ∧ NmAt wr g 160 G)) (fun X _ => 160 - (intOf X).toNat)
  case atStart => exact ⟨0, by omega, rfl, H3⟩
  case round =>
    clear H3
    obtain ⟨x, hx, rfl, M0⟩ := hrel
    by_cases hlt : x < 160
    · have d1 : decide ((x : Int) < 160) = true := decide_eq_true (by omega)
      have e1 : (x : Int) < 160 := by omega
      have k7 : wr.cell? ⟨b, 8359, none⟩ = some (.int .u8 (p.rg 7)) := M0.out.1.reg 7 (by decide)
      have kn := M0.out.1.here (8367 + N + x) (by omega)
      have fn := M0.out.1.fz (8367 + N + x)
      obtain ⟨old, kn⟩ := Option.isSome_iff_exists.1 kn
      have HS : Hid _ := And.intro (M0.out.1.set (8367 + N + x) _ (fun j hj => Pic.cellLn p N (fun k => colourI (p.rg 7) (G k)) x (by omega) j hj)) (And.intro (M0.out.2.1.setCell (k := 8367 + N + x) (v := .int .u8 (colourI (p.rg 7) (G x)))) (M0.out.2.2.of_block (Below.heap_setCell wr ⟨b, 8367 + N + x, none⟩ (.int .u8 (colourI (p.rg 7) (G x))) g (show g ≠ b by have := HQ.out; omega))))
      have HC1 : Hid _ := HCo.out x
      have hv := HV.out x hlt
      go_wp2_with (refine wpList_index_cell rfl 70 _ _ rfl 5 160 D.toArray .i64 _ _ (.int .u8 (G x)) rfl rfl Try.underlying70 (by omega) (by omega) Try.underlying5 rfl (by kernel_rfl) hv ?_)
      refine (HC1.out _).mono ?_
      rintro e w' ⟨rfl, hw'⟩
      obtain rfl := hw'.symm
      go_wp2_with fail
      refine ⟨⟨x + 1, by omega, ?_, HS⟩, ?_⟩
      · first | rfl | (simp; done)
      · simp [intOf]
        omega
    · have d1 : decide ((x : Int) < 160) = false := decide_eq_false (by omega)
      obtain rfl : x = 160 := by omega
      go_wp2_with fail
      refine (HA.out _ _ M0.out.1).mono ?_
      rintro e w' ⟨rfl, hw'⟩
      obtain rfl := hw'.symm
      go_wp2_with fail
      refine (HDS.out N _ g _ hN2 (by have := HQ.out; omega) M0.out.1 M0.out.2.2).mono ?_
      rintro e w9 ⟨rfl, h9, F9⟩
      have H9 : Hid _ := And.intro h9 (M0.out.2.1.trans F9)
      clear h9 F9
      go_wp2_with fail
      go_end0
      exact ⟨rfl, H9.out⟩
end Go.Proofs.Ytmjfccdhjhkocaa
