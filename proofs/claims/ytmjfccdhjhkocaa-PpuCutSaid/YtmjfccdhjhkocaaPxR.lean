/- A line without window and sprites. -/
import Derived.Test.YtmjfccdhjhkocaaPxQ
namespace Go.Proofs.Ytmjfccdhjhkocaa
open Go.RowKit
set_option linter.unusedVariables false
variable {b : Nat} {p : Pic}
def Pic.setLine (p : Pic) (a : Nat) (F : Nat → Int) (x : Nat) : Pic := { p with dr := fun k => if a ≤ k ∧ k < a + x then F (k - a) else p.dr k }
theorem setLine0 (p : Pic) (a : Nat) (F : Nat → Int) : p.setLine a F 0 = p := by
  unfold Pic.setLine
  congr 1
  funext k
  rw [if_neg (by omega)]
theorem Pic.cellLn (p : Pic) (a : Nat) (F : Nat → Int) (x : Nat) (hx : a + x < 23040) (j : Nat) (hj : j < 54447) : (if j = 8367 + a + x then .int .u8 (F x) else (p.setLine a F x).cell j) = (p.setLine a F (x + 1)).cell j := by
  by_cases e : j = 8367 + a + x
  · rw [if_pos e, Pic.cell_dr _ (by omega) (by omega)]
    show _ = Value.int .u8 (if a ≤ j - 8367 ∧ j - 8367 < a + (x + 1) then F (j - 8367 - a) else p.dr (j - 8367))
    rw [if_pos (by omega)]
    congr 2
    omega
  · rw [if_neg e]
    by_cases d : 8367 ≤ j ∧ j < 31407
    · rw [Pic.cell_dr _ d.1 d.2, Pic.cell_dr _ d.1 d.2]
      show Value.int .u8 (if a ≤ j - 8367 ∧ j - 8367 < a + x then F (j - 8367 - a) else p.dr (j - 8367)) = Value.int .u8 (if a ≤ j - 8367 ∧ j - 8367 < a + (x + 1) then F (j - 8367 - a) else p.dr (j - 8367))
      by_cases d2 : a ≤ j - 8367 ∧ j - 8367 < a + x
      · rw [if_pos d2, if_pos (by omega)]
      · rw [if_neg d2, if_neg (by omega)]
    · unfold Pic.cell
      by_cases g1 : j < 8367
      · repeat' split
        all_goals first | rfl | omega
      · repeat' split
        all_goals first | rfl | omega
theorem sliced_line (l h : Int) (A : Nat) (e : l = (A : Int)) (e2 : h = (A : Int) + 160) (hA : A ≤ 22880) (w : World) : (Instr.sliceAt 72 (.pointer (some ⟨b, 8367, none⟩)) (some (.int .i64 l)) (some (.int .i64 h)) none).run Try.prog w = .ok (.slice (some ⟨b, 8367 + A, none⟩) 160 (23040 - A)) w := by
  subst e e2
  have e1 : Try.prog.arrayLen 72 = 23040 := by kernel_rfl
  have e2 : (sizeOf (Try.prog.elem 72)).run Try.prog w = .ok 1 w := by kernel_rfl
  rw [run_sliceAt_array_lh w _ _ (by kernel_rfl) _ _ _ _ (by omega) (by omega) (by rw [e1]; omega), e2, e1]
  have t1 : ((A : Int) + 160).toNat = A + 160 := by omega
  simp only [Result.andThen, slicedAt, Int.toNat_natCast, t1]
  rw [if_neg (by omega), Nat.mul_one]
  have t2 : A + 160 - A = 160 := by omega
  rw [t2]
  simp [Addr.add]
  try omega
theorem numberI_b (l h k : Int) (l0 : 0 ≤ l) (l1 : l ≤ 255) (h0 : 0 ≤ h) (h1 : h ≤ 255) : 0 ≤ numberI l h k ∧ numberI l h k ≤ 3 := by
  have q : ∀ x : Int, 0 ≤ x → x ≤ 255 → 0 ≤ x / 2 ^ k.toNat ∧ x / 2 ^ k.toNat ≤ 255 := fun x x0 x1 => by
    have p1 : (0 : Int) < 2 ^ k.toNat := Int.pow_pos (by decide)
    have d0 := Int.ediv_nonneg x0 (Int.le_of_lt p1)
    have d1 := Int.ediv_le_self (2 ^ k.toNat) x0
    omega
  have a := and1_b _ (q l l0 l1).1 (q l l0 l1).2
  have c := and1_b _ (q h h0 h1).1 (q h h0 h1).2
  unfold numberI
  generalize bits .and .u8 (l / 2 ^ k.toNat) 1 = X at *
  generalize bits .and .u8 (h / 2 ^ k.toNat) 1 = Y at *
  have hX : X = 0 ∨ X = 1 := by omega
  have hY : Y = 0 ∨ Y = 1 := by omega
  rcases hX with rfl | rfl <;> rcases hY with rfl | rfl <;> decide
theorem Pic.num_b (i : p.In) (m r c : Nat) : 0 ≤ p.num m r c ∧ p.num m r c ≤ 3 := numberI_b _ _ _ (i.vr _).1 (i.vr _).2 (i.vr _).1 (i.vr _).2
theorem Pic.groundF_b (i : p.In) (k : Nat) : 0 ≤ p.groundF (fun _ => 0) k ∧ p.groundF (fun _ => 0) k ≤ 3 := by
  unfold Pic.groundF
  split
  · exact Pic.num_b i _ _ _
  · exact show (0 : Int) ≤ 0 ∧ (0 : Int) ≤ 3 by decide
def zeroes (n : Nat) : List Value := List.replicate n (.int .u8 0)
theorem zeroRow (W : World) : NmAt (W.alloc (Obj.cells Try.zeroCells70 70)) W.heap.size 160 (fun _ => 0) := by
  have e : Try.zeroCells70 = (zeroes 160).toArray := by kernel_rfl
  refine ⟨_, _, heap_alloc_new W _, by rw [e]; simp [zeroes], fun k hk => ?_⟩
  rw [e]
  show (List.replicate 160 (Value.int .u8 0)).toArray[k]? = _
  rw [List.getElem?_toArray, List.getElem?_replicate, if_pos hk]
/-- the cells of a row -/
def cellsOf (f : Nat → Int) : List Value := (List.range' 0 160).map fun k => .int .u8 (f k)
theorem cellsOf_len (f : Nat → Int) : (cellsOf f).length = 160 := by unfold cellsOf; rw [List.length_map, List.length_range']
theorem cellsOf_at (f : Nat → Int) (k : Nat) (hk : k < 160) : (cellsOf f).toArray[k]? = some (.int .u8 (f k)) := by
  unfold cellsOf
  simp [hk]
theorem NmAt.range {W : World} {g : Nat} {f : Nat → Int} (h : NmAt W g 160 f) : W.rangeAt g 0 (cellsOf f) := by
  intro k v hv
  have hk : k < 160 := by
    have := (List.getElem?_eq_some_iff.1 hv).1
    rw [cellsOf_len] at this
    exact this
  have e := cellsOf_at f k hk
  rw [List.getElem?_toArray, hv] at e
  rw [Nat.zero_add, h.cell k hk, e]
def Pic.lineP (p : Pic) : Pic := p.setLine (160 * (p.rg 4).toNat) (fun k => colourI (p.rg 7) (p.groundF (fun _ => 0) k)) 160
set_option maxRecDepth 100000 in
set_option maxHeartbeats 4000000 in
theorem drawLine_any (i : p.In) (hly : p.rg 4 < 144) (hw : p.win = false) (hs : p.has 2 = false) : Draws b p p.lineP := by
  intro W h
  have HWn : Hid (∀ W, PxAt W b p → Calls Try.prog 71 #[.pointer (some ⟨b, 0, none⟩)] W fun e w' => e = .returned (.bool false) ∧ w' = W) := fun W h => hw ▸ windowThere_any W h
  have HP : Hid (PxAt W b p) := h
  have HI : Hid p.In := i
  have l0 := (i.rg 4).1
  have hbl := h.lt
  clear h i hw
  unfold Pic.lineP
  have HB : Hid (∀ k, 0 ≤ p.groundF (fun _ => 0) k ∧ p.groundF (fun _ => 0) k ≤ 3) := fun k => Pic.groundF_b HI.out k
  have HCo : Hid (∀ (k : Nat) (W : World), Calls Try.prog 73 #[.int .u8 (p.rg 7), .int .u8 (p.groundF (fun _ => 0) k)] W fun e w' => e = .returned (.int .u8 (colourI (p.rg 7) (p.groundF (fun _ => 0) k))) ∧ w' = W) := fun k W => colour_any _ _ (HB.out k).1 (HB.out k).2 (HI.out.rg 7).1 (HI.out.rg 7).2 W
  have HG : Hid _ := layGround_any HI.out W.heap.size (fun _ => 0) (by omega) (W.alloc (Obj.cells Try.zeroCells70 70)) (HP.out.up ((Up.refl W).alloc _)) (zeroRow W)
  generalize p.groundF (fun _ => 0) = G at *
  obtain ⟨N, hN⟩ : ∃ N, N = 160 * (p.rg 4).toNat := ⟨_, rfl⟩
  have hN2 : N ≤ 22880 := by omega
  have sl : ∀ w, (Instr.sliceAt 72 (.pointer (some ⟨b, 8367, none⟩)) (some (.int .i64 (p.rg 4 * 160))) (some (.int .i64 (p.rg 4 * 160 + 160))) none).run Try.prog w = .ok (.slice (some ⟨b, 8367 + N, none⟩) 160 (23040 - N)) w := fun w => sliced_line _ _ N (by omega) (by omega) hN2 w
  rw [← hN]
  clear hN
  have HQ : Hid (b < W.heap.size) := hbl
  clear hbl
  go_enter Try.func64, Try.ntmps64
  go_wp2_with fail
  refine Calls.mono HG.out ?_
  rintro e w2 ⟨rfl, h2, F2⟩
  have p2 : PxAt w2 b p := (HP.out.up ((Up.refl W).alloc _)).ofB (F2.block _ (HP.out.up ((Up.refl W).alloc _)).lt (by have := HQ.out; omega))
  have u2 : Up W w2 := Fr.up ((Up.refl W).alloc _) (Nat.le_refl _) F2
  have H2 : Hid (PxAt w2 b p ∧ NmAt w2 W.heap.size 160 G ∧ Up W w2) := ⟨p2, h2, u2⟩
  have k4 : w2.cell? ⟨b, 8356, none⟩ = some (.int .u8 (p.rg 4)) := p2.reg 4 (by decide)
  clear h2 p2 u2 F2 HG
  generalize W.heap.size = g at H2 HQ ⊢
  go_wp2_with fail
  refine (HWn.out _ H2.out.1).mono ?_
  rintro e w' ⟨rfl, hw'⟩
  obtain rfl := hw'.symm
  obtain ⟨D, hD⟩ : ∃ D, D = cellsOf G := ⟨_, rfl⟩
  have HR : Hid (w2.rangeAt g 0 D) := by show World.rangeAt _ _ _ _; rw [hD]; exact H2.out.2.1.range
  have HL : Hid ((Try.prog.info? 70).map (·.size) = some D.length) := by show _ = _; rw [hD, cellsOf_len]; kernel_rfl
  have HV : Hid (∀ k, k < 160 → D.toArray[k]? = some (.int .u8 (G k))) := fun k hk => by rw [hD]; exact cellsOf_at G k hk
  clear hD
  go_wp2_with (refine wpList_load_mid rfl 70 _ rfl g 0 rfl D _ HR.out Try.underlying70 rfl HL.out ?_)
  have H3 : Hid (PxAt w2 b (p.setLine N (fun k => colourI (p.rg 7) (G k)) 0) ∧ Fr b W w2) := ⟨by rw [setLine0]; exact H2.out.1, Fr.ofUp H2.out.2.2⟩
  have HA : Hid (∀ x W, PxAt W b (p.setLine N (fun k => colourI (p.rg 7) (G k)) x) → Calls Try.prog 48 #[.pointer (some ⟨b, 0, none⟩), .int .u8 2] W fun e w' => e = .returned (.bool false) ∧ w' = W) := fun x W h => hs ▸ has_any (p := p.setLine N (fun k => colourI (p.rg 7) (G k)) x) 2 W h
  clear H2 HP HI HR HL k4 sl HWn hs
  go_loopw [35] (fun X wr => ∃ x : Nat, x ≤ 160 ∧ X = .int .i64 x ∧ Hid (PxAt wr b (p.setLine N (fun k => colourI (p.rg 7) (G k)) x) ∧ Fr b W wr)) (fun X _ => 160 - (intOf X).toNat)
  case atStart => exact ⟨0, by omega, rfl, H3⟩
  case round =>
    clear H3
    obtain ⟨x, hx, rfl, M0⟩ := hrel
    by_cases hlt : x < 160
    · have d1 : decide ((x : Int) < 160) = true := decide_eq_true (by omega)
      have e1 : (x : Int) < 160 := by omega
      have k7 : wr.cell? ⟨b, 8359, none⟩ = some (.int .u8 (p.rg 7)) := M0.out.1.reg 7 (by decide)
      have kn := M0.out.1.here (8367 + N + x) (by omega)
      have fn := M0.out.1.fz (8367 + N + x)
      obtain ⟨old, kn⟩ := Option.isSome_iff_exists.1 kn
      have HS : Hid _ := And.intro (M0.out.1.set (8367 + N + x) _ (fun j hj => Pic.cellLn p N (fun k => colourI (p.rg 7) (G k)) x (by omega) j hj)) (M0.out.2.setCell (k := 8367 + N + x) (v := .int .u8 (colourI (p.rg 7) (G x))))
      have HC1 : Hid _ := HCo.out x
      have hv := HV.out x hlt
      go_wp2_with (refine wpList_index_cell rfl 70 _ _ rfl 5 160 D.toArray .i64 _ _ (.int .u8 (G x)) rfl rfl Try.underlying70 (by omega) (by omega) Try.underlying5 rfl (by kernel_rfl) hv ?_)
      refine (HC1.out _).mono ?_
      rintro e w' ⟨rfl, hw'⟩
      obtain rfl := hw'.symm
      go_wp2_with fail
      refine ⟨⟨x + 1, by omega, ?_, HS⟩, ?_⟩
      · first | rfl | (simp; done)
      · simp [intOf]
        omega
    · have d1 : decide ((x : Int) < 160) = false := decide_eq_false (by omega)
      obtain rfl : x = 160 := by omega
      go_wp2_with fail
      refine (HA.out _ _ M0.out.1).mono ?_
      rintro e w' ⟨rfl, hw'⟩
      obtain rfl := hw'.symm
      go_wp2_with fail
      go_end0
      exact ⟨rfl, M0.out⟩
end Go.Proofs.Ytmjfccdhjhkocaa
