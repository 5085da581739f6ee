import Derived.Test.YtmjfccdhjhkocaaMgA
import Derived.Stop.BytesEq
/- Whether some calls lead to a picture: its lines. -/
namespace Go.Proofs.Ytmjfccdhjhkocaa
open Go.RowKit
set_option linter.unusedVariables false
variable {b : Nat} {p : Pic}
def Pic.looked (p : Pic) : Bool := decide (p.rg 4 < 144) && (decide (0 < p.rg 4) || decide (80 ≤ p.clk))
set_option maxRecDepth 100000 in
theorem hasLooked_any (W : World) (h : PxAt W b p) : Calls Try.prog 75 #[.pointer (some ⟨b, 0, none⟩)] W fun e w' => e = .returned (.bool p.looked) ∧ w' = W := by
  have k4 : W.cell? ⟨b, 8356, none⟩ = some (.int .u8 (p.rg 4)) := h.reg 4 (by decide)
  have kc := h.clk
  unfold Pic.looked
  clear h
  by_cases d1 : p.rg 4 < 144
  · have e1 : decide (p.rg 4 < 144) = true := decide_eq_true d1
    by_cases d2 : 0 < p.rg 4
    · have e2 : decide (0 < p.rg 4) = true := decide_eq_true d2
      rw [e1, e2]
      go_enter Try.func75, Try.ntmps75
      go_wp2_with fail
      go_ret
      exact ⟨rfl, rfl⟩
    · have e2 : decide (0 < p.rg 4) = false := decide_eq_false d2
      rw [e1, e2]
      go_enter Try.func75, Try.ntmps75
      go_wp2_with fail
      go_ret
      exact ⟨by first | rfl | (simp; done), rfl⟩
  · have e1 : decide (p.rg 4 < 144) = false := decide_eq_false d1
    rw [e1]
    go_enter Try.func75, Try.ntmps75
    go_wp2_with fail
    go_ret
    exact ⟨rfl, rfl⟩
set_option maxRecDepth 100000 in
theorem linesDrawn_any (i : p.In) (W : World) (h : PxAt W b p) : Calls Try.prog 76 #[.pointer (some ⟨b, 0, none⟩)] W fun e w' => e = .returned (.int .i64 (p.lines : Int)) ∧ w' = W := by
  have k4 : W.cell? ⟨b, 8356, none⟩ = some (.int .u8 (p.rg 4)) := h.reg 4 (by decide)
  have kc := h.clk
  obtain ⟨l0, l1⟩ := i.rg 4
  clear h i
  by_cases d1 : 144 ≤ p.rg 4
  · have e1 : decide (144 ≤ p.rg 4) = true := decide_eq_true d1
    have el : (p.lines : Int) = 0 := by unfold Pic.lines; rw [if_pos d1]; rfl
    rw [el]
    clear el
    go_enter Try.func76, Try.ntmps76
    go_wp2_with fail
    go_ret
    exact ⟨rfl, rfl⟩
  · have e1 : decide (144 ≤ p.rg 4) = false := decide_eq_false d1
    by_cases d2 : 252 ≤ p.clk
    · have e2 : decide (252 ≤ p.clk) = true := decide_eq_true d2
      have el : (p.lines : Int) = p.rg 4 + 1 := by unfold Pic.lines; rw [if_neg d1, if_pos d2]; omega
      rw [el]
      clear el
      go_enter Try.func76, Try.ntmps76
      go_wp2_with fail
      go_ret
      exact ⟨rfl, rfl⟩
    · have e2 : decide (252 ≤ p.clk) = false := decide_eq_false d2
      have el : (p.lines : Int) = p.rg 4 := by unfold Pic.lines; rw [if_neg d1, if_neg d2]; omega
      rw [el]
      clear el
      go_enter Try.func76, Try.ntmps76
      go_wp2_with fail
      go_ret
      exact ⟨rfl, rfl⟩
/-- may a frame be drawn so? -/
structure FOk (p : Pic) : Prop where
  ml : p.met = true → p.looked = true
  rm : 0 < p.rows → p.met = true
  rl : p.rows ≤ (p.lines : Int)
  dz : ∀ k, k < 23040 → 160 * p.lines ≤ k → p.dr k = 0
theorem PxAt.drawnC {W : World} (h : PxAt W b p) (k : Nat) (hk : k < 23040) : W.cell? ⟨b, 8367 + k, none⟩ = some (.int .u8 (p.dr k)) := by
  rw [h.cell (8367 + k) (by omega), Pic.cell_dr _ (by omega) (by omega), show 8367 + k - 8367 = k by omega]
theorem PxAt.shownC {W : World} (h : PxAt W b p) (k : Nat) (hk : k < 23040) : W.cell? ⟨b, 31407 + k, none⟩ = some (.int .u8 (p.sh k)) := by
  rw [h.cell (31407 + k) (by omega), Pic.cell_sh _ (by omega), show 31407 + k - 31407 = k by omega]
theorem lines_le (i : p.In) : p.lines ≤ 144 := by
  have := (i.rg 4).1
  unfold Pic.lines
  split
  · omega
  · split <;> omega
theorem sliced_pts (A : Nat) (l : Int) (N : Nat) (e : l = (N : Int)) (hN : N < 23040) (w : World) : (Instr.sliceAt 72 (.pointer (some ⟨b, A, none⟩)) (some (.int .i64 l)) none none).run Try.prog w = .ok (.slice (some ⟨b, A + N, none⟩) (23040 - N) (23040 - N)) w := by
  subst e
  have e1 : Try.prog.arrayLen 72 = 23040 := by kernel_rfl
  have e2 : (sizeOf (Try.prog.elem 72)).run Try.prog w = .ok 1 w := by kernel_rfl
  rw [run_sliceAt_array_l w _ _ (by kernel_rfl) _ _ (by omega) (by rw [e1]; omega), e2, e1]
  simp only [Result.andThen, slicedAt, Int.toNat_natCast]
  rw [if_neg (by omega), Nat.mul_one]
  simp [Addr.add]
  try omega
theorem sliced_end (A : Nat) (w : World) : ∃ v, (Instr.sliceAt 72 (.pointer (some ⟨b, A, none⟩)) (some (.int .i64 23040)) none none).run Try.prog w = .ok (.slice v 0 0) w := by
  have e1 : Try.prog.arrayLen 72 = 23040 := by kernel_rfl
  have e2 : (sizeOf (Try.prog.elem 72)).run Try.prog w = .ok 1 w := by kernel_rfl
  rw [run_sliceAt_array_l w _ _ (by kernel_rfl) _ _ (by omega) (by rw [e1]; omega), e2, e1]
  simp only [Result.andThen, slicedAt]
  exact ⟨_, rfl⟩
set_option maxRecDepth 100000 in
set_option maxHeartbeats 1000000 in
theorem frameMayBe_any (i : p.In) (W : World) (h : PxAt W b p) : Calls Try.prog 65 #[.pointer (some ⟨b, 0, none⟩)] W fun e w' => ∃ t, e = .returned (.bool t) ∧ (t = true ↔ FOk p) ∧ w' = W := by
  have HH : Hid (∀ W, PxAt W b p → Calls Try.prog 75 #[.pointer (some ⟨b, 0, none⟩)] W fun e w' => e = .returned (.bool p.looked) ∧ w' = W) := fun W h => hasLooked_any W h
  have HL : Hid (∀ W, PxAt W b p → Calls Try.prog 76 #[.pointer (some ⟨b, 0, none⟩)] W fun e w' => e = .returned (.int .i64 (p.lines : Int)) ∧ w' = W) := fun W h => linesDrawn_any i W h
  have km := h.metC
  have kr := h.rowsC
  have hl := lines_le i
  have HP : Hid (PxAt W b p) := h
  have HD : Hid (∀ k, k < 23040 → W.cell? ⟨b, 8367 + k, none⟩ = some (.int .u8 (p.dr k))) := fun k hk => h.drawnC k hk
  clear h i
  by_cases c1 : p.met = true ∧ p.looked = false
  · rw [c1.2] at HH
    rw [c1.1] at km
    have HN : Hid (¬ FOk p) := fun f => by have := f.ml c1.1; rw [c1.2] at this; cases this
    clear c1
    go_enter Try.func65, Try.ntmps65
    go_wp2_with fail
    refine (HH.out _ HP.out).mono ?_
    rintro e w' ⟨rfl, hw'⟩
    obtain rfl := hw'.symm
    go_wp2_with fail
    go_ret
    exact ⟨false, rfl, ⟨fun h => absurd h (by decide), fun f => (HN.out f).elim⟩, rfl⟩
  · have HC1 : Hid (¬ (p.met = true ∧ p.looked = false)) := c1
    clear c1
    by_cases c2 : 0 < p.rows ∧ p.met = false
    · have HN : Hid (¬ FOk p) := fun f => by have := f.rm c2.1; rw [c2.2] at this; cases this
      rw [c2.2] at km
      have e2 : decide (0 < p.rows) = true := decide_eq_true c2.1
      clear c2 HC1
      go_enter Try.func65, Try.ntmps65
      go_wp2_with fail
      go_ret
      exact ⟨false, rfl, ⟨fun h => absurd h (by decide), fun f => (HN.out f).elim⟩, rfl⟩
    · have HC2 : Hid (¬ (0 < p.rows ∧ p.met = false)) := c2
      clear c2
      -- what follows is the same for both values of met
      have HQ : Hid (∀ W, PxAt W b p → True) := fun _ _ => trivial
      cases hm : p.met
      · have nr : ¬ 0 < p.rows := fun a => HC2.out ⟨a, hm⟩
        have e2 : decide (0 < p.rows) = false := decide_eq_false nr
        have HA : Hid ((p.met = true → p.looked = true) ∧ (0 < p.rows → p.met = true)) := ⟨fun a => (by rw [hm] at a; cases a), fun a => absurd a nr⟩
        rw [hm] at km
        clear hm nr HC1 HC2 HH
        go_enter Try.func65, Try.ntmps65
        go_wp2_with fail
        refine (HL.out _ HP.out).mono ?_
        rintro e w' ⟨rfl, hw'⟩
        obtain rfl := hw'.symm
        clear HL
        generalize hLn : p.lines = Ln at *
        have HLn : Hid (p.lines = Ln) := hLn
        clear hLn km
        by_cases c3 : (Ln : Int) < p.rows
        · have e3 : decide ((Ln : Int) < p.rows) = true := decide_eq_true c3
          have HN : Hid (¬ FOk p) := fun f => by have := f.rl; rw [HLn.out] at this; omega
          clear c3
          go_wp2_with fail
          go_ret
          exact ⟨false, rfl, ⟨fun h => absurd h (by decide), fun f => (HN.out f).elim⟩, rfl⟩
        · have e3 : decide ((Ln : Int) < p.rows) = false := decide_eq_false c3
          have HR : Hid (p.rows ≤ (Ln : Int)) := by show _ ≤ _; omega
          clear c3 e2
          by_cases c4 : Ln = 144
          · subst c4
            clear e3
            have e3 : decide ((144 : Int) < p.rows) = false := decide_eq_false (by have := HR.out; omega)
            obtain ⟨v, sl⟩ := sliced_end (b := b) 8367 W
            have HOk : Hid (FOk p) := ⟨HA.out.1, HA.out.2, by rw [HLn.out]; exact HR.out, fun k hk hl => by rw [HLn.out] at hl; omega⟩
            clear HD HR HLn HA
            go_wp2_with fail
            go_loopw [44] (fun I wr => I = .int .i64 0 ∧ wr = W) (fun _ _ => 0)
            case atStart => exact ⟨rfl, rfl⟩
            case round =>
              obtain ⟨rfl, rfl⟩ := hrel
              go_wp2_with fail
              go_ret
              exact ⟨true, rfl, ⟨fun _ => HOk.out, fun _ => rfl⟩, rfl⟩
          · obtain ⟨N, hN⟩ : ∃ N, N = 160 * Ln := ⟨_, rfl⟩
            have hN2 : N < 23040 := by omega
            have sl : ∀ w, (Instr.sliceAt 72 (.pointer (some ⟨b, 8367, none⟩)) (some (.int .i64 ((Ln : Int) * 160))) none none).run Try.prog w = .ok (.slice (some ⟨b, 8367 + N, none⟩) (23040 - N) (23040 - N)) w := fun w => sliced_pts 8367 _ N (by omega) hN2 w
            have HN1 : Hid (N = 160 * Ln) := hN
            clear hN c4
            go_wp2_with fail
            have en : ((23040 - N : Nat) : Int) = 23040 - (N : Int) := by omega
            go_loopw [5, 44] (fun _ I wr => ∃ i : Nat, i ≤ 23040 - N ∧ I = .int .i64 i ∧ Hid (∀ k, k < i → p.dr (N + k) = 0) ∧ wr = W) (fun _ I _ => 23040 - (intOf I).toNat)
            case atStart => exact ⟨0, by omega, rfl, fun k hk => absurd hk (by omega), rfl⟩
            case round =>
              obtain ⟨i, hi, rfl, M0, rfl⟩ := hrel
              by_cases hlt : i < 23040 - N
              · have d1 : decide ((i : Int) < ((23040 - N : Nat) : Int)) = true := decide_eq_true (by omega)
                have e1 : (i : Int) < ((23040 - N : Nat) : Int) := by omega
                have kc := HD.out (N + i) (by omega)
                rw [← Nat.add_assoc] at kc
                by_cases z : p.dr (N + i) = 0
                · rw [z] at kc
                  go_wp2_with fail
                  have M1 : Hid (∀ k, k < i + 1 → p.dr (N + k) = 0) := fun k hk => by
                    by_cases ek : k = i
                    · rw [ek]; exact z
                    · exact M0.out k (by omega)
                  refine ⟨⟨i + 1, by omega, ?_, M1, trivial⟩, ?_⟩
                  · first | rfl | (simp; done)
                  · simp [intOf]
                    omega
                · have z2 : (p.dr (N + i) != 0) = true := bne_iff_ne.2 z
                  go_wp2_with fail
                  go_ret
                  exact ⟨false, rfl, ⟨fun h => absurd h (by decide), fun f => absurd (f.dz (N + i) (by omega) (by rw [HLn.out]; have := HN1.out; omega)) z⟩, rfl⟩
              · have d1 : decide ((i : Int) < ((23040 - N : Nat) : Int)) = false := decide_eq_false (by omega)
                have HOk : Hid (FOk p) := ⟨HA.out.1, HA.out.2, by rw [HLn.out]; exact HR.out, fun k hk hl => by
                  have hNN := HN1.out
                  rw [HLn.out] at hl
                  have := M0.out (k - N) (by omega)
                  rw [show N + (k - N) = k by omega] at this
                  exact this⟩
                go_wp2_with fail
                go_ret
                exact ⟨true, rfl, ⟨fun _ => HOk.out, fun _ => rfl⟩, rfl⟩
      · have hk : p.looked = true := by
          cases hk : p.looked
          · exact absurd ⟨hm, hk⟩ HC1.out
          · rfl
        have HA : Hid ((p.met = true → p.looked = true) ∧ (0 < p.rows → p.met = true)) := ⟨fun _ => hk, fun _ => hm⟩
        rw [hm] at km
        rw [hk] at HH
        clear hm hk HC1 HC2
        by_cases nr : 0 < p.rows
        · have e2 : decide (0 < p.rows) = true := decide_eq_true nr
          clear nr
          go_enter Try.func65, Try.ntmps65
          go_wp2_with fail
          refine (HH.out _ HP.out).mono ?_
          rintro e w' ⟨rfl, hw'⟩
          obtain rfl := hw'.symm
          clear HH
          go_wp2_with fail
          refine (HL.out _ HP.out).mono ?_
          rintro e w' ⟨rfl, hw'⟩
          obtain rfl := hw'.symm
          clear HL
          generalize hLn : p.lines = Ln at *
          have HLn : Hid (p.lines = Ln) := hLn
          clear hLn km
          by_cases c3 : (Ln : Int) < p.rows
          · have e3 : decide ((Ln : Int) < p.rows) = true := decide_eq_true c3
            have HN : Hid (¬ FOk p) := fun f => by have := f.rl; rw [HLn.out] at this; omega
            clear c3
            go_wp2_with fail
            go_ret
            exact ⟨false, rfl, ⟨fun h => absurd h (by decide), fun f => (HN.out f).elim⟩, rfl⟩
          · have e3 : decide ((Ln : Int) < p.rows) = false := decide_eq_false c3
            have HR : Hid (p.rows ≤ (Ln : Int)) := by show _ ≤ _; omega
            clear c3 e2
            by_cases c4 : Ln = 144
            · subst c4
              clear e3
              have e3 : decide ((144 : Int) < p.rows) = false := decide_eq_false (by have := HR.out; omega)
              obtain ⟨v, sl⟩ := sliced_end (b := b) 8367 W
              have HOk : Hid (FOk p) := ⟨HA.out.1, HA.out.2, by rw [HLn.out]; exact HR.out, fun k hk hl => by rw [HLn.out] at hl; omega⟩
              clear HD HR HLn HA
              go_wp2_with fail
              go_loopw [44] (fun I wr => I = .int .i64 0 ∧ wr = W) (fun _ _ => 0)
              case atStart => exact ⟨rfl, rfl⟩
              case round =>
                obtain ⟨rfl, rfl⟩ := hrel
                go_wp2_with fail
                go_ret
                exact ⟨true, rfl, ⟨fun _ => HOk.out, fun _ => rfl⟩, rfl⟩
            · obtain ⟨N, hN⟩ : ∃ N, N = 160 * Ln := ⟨_, rfl⟩
              have hN2 : N < 23040 := by omega
              have sl : ∀ w, (Instr.sliceAt 72 (.pointer (some ⟨b, 8367, none⟩)) (some (.int .i64 ((Ln : Int) * 160))) none none).run Try.prog w = .ok (.slice (some ⟨b, 8367 + N, none⟩) (23040 - N) (23040 - N)) w := fun w => sliced_pts 8367 _ N (by omega) hN2 w
              have HN1 : Hid (N = 160 * Ln) := hN
              clear hN c4
              go_wp2_with fail
              have en : ((23040 - N : Nat) : Int) = 23040 - (N : Int) := by omega
              go_loopw [5, 44] (fun _ I wr => ∃ i : Nat, i ≤ 23040 - N ∧ I = .int .i64 i ∧ Hid (∀ k, k < i → p.dr (N + k) = 0) ∧ wr = W) (fun _ I _ => 23040 - (intOf I).toNat)
              case atStart => exact ⟨0, by omega, rfl, fun k hk => absurd hk (by omega), rfl⟩
              case round =>
                obtain ⟨i, hi, rfl, M0, rfl⟩ := hrel
                by_cases hlt : i < 23040 - N
                · have d1 : decide ((i : Int) < ((23040 - N : Nat) : Int)) = true := decide_eq_true (by omega)
                  have e1 : (i : Int) < ((23040 - N : Nat) : Int) := by omega
                  have kc := HD.out (N + i) (by omega)
                  rw [← Nat.add_assoc] at kc
                  by_cases z : p.dr (N + i) = 0
                  · rw [z] at kc
                    go_wp2_with fail
                    have M1 : Hid (∀ k, k < i + 1 → p.dr (N + k) = 0) := fun k hk => by
                      by_cases ek : k = i
                      · rw [ek]; exact z
                      · exact M0.out k (by omega)
                    refine ⟨⟨i + 1, by omega, ?_, M1, trivial⟩, ?_⟩
                    · first | rfl | (simp; done)
                    · simp [intOf]
                      omega
                  · have z2 : (p.dr (N + i) != 0) = true := bne_iff_ne.2 z
                    go_wp2_with fail
                    go_ret
                    exact ⟨false, rfl, ⟨fun h => absurd h (by decide), fun f => absurd (f.dz (N + i) (by omega) (by rw [HLn.out]; have := HN1.out; omega)) z⟩, rfl⟩
                · have d1 : decide ((i : Int) < ((23040 - N : Nat) : Int)) = false := decide_eq_false (by omega)
                  have HOk : Hid (FOk p) := ⟨HA.out.1, HA.out.2, by rw [HLn.out]; exact HR.out, fun k hk hl => by
                    have hNN := HN1.out
                    rw [HLn.out] at hl
                    have := M0.out (k - N) (by omega)
                    rw [show N + (k - N) = k by omega] at this
                    exact this⟩
                  go_wp2_with fail
                  go_ret
                  exact ⟨true, rfl, ⟨fun _ => HOk.out, fun _ => rfl⟩, rfl⟩
        · have e2 : decide (0 < p.rows) = false := decide_eq_false nr
          clear nr
          go_enter Try.func65, Try.ntmps65
          go_wp2_with fail
          refine (HH.out _ HP.out).mono ?_
          rintro e w' ⟨rfl, hw'⟩
          obtain rfl := hw'.symm
          clear HH
          go_wp2_with fail
          refine (HL.out _ HP.out).mono ?_
          rintro e w' ⟨rfl, hw'⟩
          obtain rfl := hw'.symm
          clear HL
          generalize hLn : p.lines = Ln at *
          have HLn : Hid (p.lines = Ln) := hLn
          clear hLn km
          by_cases c3 : (Ln : Int) < p.rows
          · have e3 : decide ((Ln : Int) < p.rows) = true := decide_eq_true c3
            have HN : Hid (¬ FOk p) := fun f => by have := f.rl; rw [HLn.out] at this; omega
            clear c3
            go_wp2_with fail
            go_ret
            exact ⟨false, rfl, ⟨fun h => absurd h (by decide), fun f => (HN.out f).elim⟩, rfl⟩
          · have e3 : decide ((Ln : Int) < p.rows) = false := decide_eq_false c3
            have HR : Hid (p.rows ≤ (Ln : Int)) := by show _ ≤ _; omega
            clear c3 e2
            by_cases c4 : Ln = 144
            · subst c4
              clear e3
              have e3 : decide ((144 : Int) < p.rows) = false := decide_eq_false (by have := HR.out; omega)
              obtain ⟨v, sl⟩ := sliced_end (b := b) 8367 W
              have HOk : Hid (FOk p) := ⟨HA.out.1, HA.out.2, by rw [HLn.out]; exact HR.out, fun k hk hl => by rw [HLn.out] at hl; omega⟩
              clear HD HR HLn HA
              go_wp2_with fail
              go_loopw [44] (fun I wr => I = .int .i64 0 ∧ wr = W) (fun _ _ => 0)
              case atStart => exact ⟨rfl, rfl⟩
              case round =>
                obtain ⟨rfl, rfl⟩ := hrel
                go_wp2_with fail
                go_ret
                exact ⟨true, rfl, ⟨fun _ => HOk.out, fun _ => rfl⟩, rfl⟩
            · obtain ⟨N, hN⟩ : ∃ N, N = 160 * Ln := ⟨_, rfl⟩
              have hN2 : N < 23040 := by omega
              have sl : ∀ w, (Instr.sliceAt 72 (.pointer (some ⟨b, 8367, none⟩)) (some (.int .i64 ((Ln : Int) * 160))) none none).run Try.prog w = .ok (.slice (some ⟨b, 8367 + N, none⟩) (23040 - N) (23040 - N)) w := fun w => sliced_pts 8367 _ N (by omega) hN2 w
              have HN1 : Hid (N = 160 * Ln) := hN
              clear hN c4
              go_wp2_with fail
              have en : ((23040 - N : Nat) : Int) = 23040 - (N : Int) := by omega
              go_loopw [5, 44] (fun _ I wr => ∃ i : Nat, i ≤ 23040 - N ∧ I = .int .i64 i ∧ Hid (∀ k, k < i → p.dr (N + k) = 0) ∧ wr = W) (fun _ I _ => 23040 - (intOf I).toNat)
              case atStart => exact ⟨0, by omega, rfl, fun k hk => absurd hk (by omega), rfl⟩
              case round =>
                obtain ⟨i, hi, rfl, M0, rfl⟩ := hrel
                by_cases hlt : i < 23040 - N
                · have d1 : decide ((i : Int) < ((23040 - N : Nat) : Int)) = true := decide_eq_true (by omega)
                  have e1 : (i : Int) < ((23040 - N : Nat) : Int) := by omega
                  have kc := HD.out (N + i) (by omega)
                  rw [← Nat.add_assoc] at kc
                  by_cases z : p.dr (N + i) = 0
                  · rw [z] at kc
                    go_wp2_with fail
                    have M1 : Hid (∀ k, k < i + 1 → p.dr (N + k) = 0) := fun k hk => by
                      by_cases ek : k = i
                      · rw [ek]; exact z
                      · exact M0.out k (by omega)
                    refine ⟨⟨i + 1, by omega, ?_, M1, trivial⟩, ?_⟩
                    · first | rfl | (simp; done)
                    · simp [intOf]
                      omega
                  · have z2 : (p.dr (N + i) != 0) = true := bne_iff_ne.2 z
                    go_wp2_with fail
                    go_ret
                    exact ⟨false, rfl, ⟨fun h => absurd h (by decide), fun f => absurd (f.dz (N + i) (by omega) (by rw [HLn.out]; have := HN1.out; omega)) z⟩, rfl⟩
                · have d1 : decide ((i : Int) < ((23040 - N : Nat) : Int)) = false := decide_eq_false (by omega)
                  have HOk : Hid (FOk p) := ⟨HA.out.1, HA.out.2, by rw [HLn.out]; exact HR.out, fun k hk hl => by
                    have hNN := HN1.out
                    rw [HLn.out] at hl
                    have := M0.out (k - N) (by omega)
                    rw [show N + (k - N) = k by omega] at this
                    exact this⟩
                  go_wp2_with fail
                  go_ret
                  exact ⟨true, rfl, ⟨fun _ => HOk.out, fun _ => rfl⟩, rfl⟩
end Go.Proofs.Ytmjfccdhjhkocaa
/- Whether some calls lead to a picture. -/
namespace Go.Proofs.Ytmjfccdhjhkocaa
open Go.RowKit
set_option linter.unusedVariables false
variable {b : Nat} {p : Pic}
/-- may a picture be so? -/
structure POk (p : Pic) : Prop where
  st : bits .andNot .u8 (p.rg 1) 120 = 0
  dm : p.rg 6 = 0
  ly : p.rg 4 ≤ 153
  c9 : p.clk < 456
  off : p.has 128 = false → p.rg 4 = 0 ∧ p.clk = 0 ∧ ∀ k, k < 23040 → p.sh k = 0
  fr : FOk p
def cellsF (f : Nat → Int) (n : Nat) : List Value := (List.range' 0 n).map fun k => .int .u8 (f k)
theorem cellsF_len (f : Nat → Int) (n : Nat) : (cellsF f n).length = n := by unfold cellsF; rw [List.length_map, List.length_range']
theorem cellsF_at (f : Nat → Int) (n k : Nat) (h : k < n) : (cellsF f n)[k]? = some (.int .u8 (f k)) := by
  unfold cellsF
  rw [List.getElem?_map, List.getElem?_range' h]
  simp
theorem run_equalF (d : Nat) (t e : TypeId) (n : Nat) (ht : Try.prog.underlying t = some (.array n e)) (he : Try.prog.underlying e = some (.int .u8)) (hsz : ∀ w, (sizeOf e).run Try.prog w = .ok 1 w)
    (f g : Nat → Int) (w : World) : (Op.equalIn (d + 2) t (.agg (cellsF f n).toArray) (.agg (cellsF g n).toArray)).run Try.prog w = .ok ((List.range n).all fun i => f i == g i) w := by
  rw [List.range_eq_range', Op.equalIn]
  simp only [Sem.run_bind, run_underlying ht, Result.andThen_ok, hsz, Std.Legacy.Range.forIn_eq_forIn_range', Std.Legacy.Range.size, Nat.sub_zero, Nat.add_sub_cancel, Nat.div_one]
  have hl : ∀ i ∈ List.range' 0 n 1, i < n := fun i hi => by simpa using (List.mem_range'_1.1 hi).2
  generalize List.range' 0 n 1 = l at hl ⊢
  induction l with
  | nil => simp
  | cons i l ih =>
    have hi : i < n := hl i (by simp)
    have px : ∀ f : Nat → Int, (part e (cellsF f n).toArray (i * 1)).run Try.prog w = .ok (.int .u8 (f i)) w := fun f => by
      have := cellsF_at f n i hi
      simp [part, isAgg, run_underlying he, this]
    have pe : (Op.equalIn (d + 1) e (.int .u8 (f i)) (.int .u8 (g i))).run Try.prog w = .ok (f i == g i) w := run_equalIn_int w d e .u8 .u8 _ _ he
    simp only [List.forIn_cons, Sem.run_bind, px, pe, Result.andThen_ok, List.all_cons]
    cases hb : (f i == g i)
    · simp
    · simp only [Bool.not_true, Bool.false_eq_true, if_false, Sem.run_pure, Result.andThen_ok, Bool.true_and]
      exact ih fun j hj => hl j (by simp [hj])
section
variable {P : Program} {w : World} {ops : Array Oper} {rest : List Oper} {o : Oper} {a : Act} {Q : Exit → Act → World → Prop}
theorem wpList_on (hw : Region.wanted o (yielded ops a.tmps) = true) (h : o.wp P a w (wpList P ops Q rest) Q) : wpList P ops Q (o :: rest) a w := by
  unfold wpList
  rw [if_pos hw]
  exact Or.inl h
end
theorem zeroF (n : Nat) : cellsF (fun _ => 0) n = List.replicate n (.int .u8 0) := by
  unfold cellsF
  rw [List.map_const', List.length_range']
theorem z72_all : (Try.zeroCells72.toList.all isZ) = true := by kernel_rfl
theorem zs_eq {A : Array Value} {n : Nat} (hs : A.size = n) (ha : A.toList.all isZ = true) : A = (cellsF (fun _ => 0) n).toArray := by
  apply Array.ext
  · rw [hs, List.size_toArray, cellsF_len]
  · intro k h1 h2
    have hk : k < n := by rw [hs] at h1; exact h1
    have e1 := isZ_eq (List.all_eq_true.1 ha A[k] (by simp))
    have e2 := cellsF_at (fun _ => 0) n k hk
    rw [List.getElem?_eq_getElem (by rw [cellsF_len]; exact hk)] at e2
    rw [e1, List.getElem_toArray]
    exact (Option.some.inj e2).symm
theorem z72_eq : Try.zeroCells72 = (cellsF (fun _ => 0) 23040).toArray := zs_eq z60_size z72_all
theorem PxAt.shownR {W : World} (h : PxAt W b p) : W.rangeAt b 31407 (cellsF p.sh 23040) := by
  intro k v hv
  have hk : k < 23040 := by
    have := (List.getElem?_eq_some_iff.1 hv).1
    rw [cellsF_len] at this
    exact this
  rw [cellsF_at p.sh 23040 k hk] at hv
  rw [← hv]
  exact h.shownC k hk
theorem allZ (f : Nat → Int) (n : Nat) : ((List.range n).all fun i => f i == (fun _ => 0) i) = true ↔ ∀ k, k < n → f k = 0 := by
  rw [List.all_eq_true]
  constructor
  · intro h k hk
    have := h k (List.mem_range.2 hk)
    simpa using this
  · intro h k hk
    have := h k (List.mem_range.1 hk)
    simpa using this
set_option maxRecDepth 100000 in
set_option maxHeartbeats 1000000 in
theorem mayBe_off (i : p.In) (o : p.has 128 = false) (s1 : bits .andNot .u8 (p.rg 1) 120 = 0) (s6 : p.rg 6 = 0) (h4 : p.rg 4 = 0) (hc : p.clk = 0) (W : World) (h : PxAt W b p) : Calls Try.prog 56 #[.pointer (some ⟨b, 0, none⟩)] W fun e w' => ∃ t, e = .returned (.bool t) ∧ (t = true ↔ POk p) ∧ w' = W := by
  have k1 : W.cell? ⟨b, 8353, none⟩ = some (.int .u8 (p.rg 1)) := h.reg 1 (by decide)
  have k4 : W.cell? ⟨b, 8356, none⟩ = some (.int .u8 0) := h4 ▸ h.reg 4 (by decide)
  have k6 : W.cell? ⟨b, 8358, none⟩ = some (.int .u8 0) := s6 ▸ h.reg 6 (by decide)
  have kc : W.cell? ⟨b, 8364, none⟩ = some (.int .i64 0) := hc ▸ h.clk
  have HA : Hid (∀ W, PxAt W b p → Calls Try.prog 48 #[.pointer (some ⟨b, 0, none⟩), .int .u8 128] W fun e w' => e = .returned (.bool false) ∧ w' = W) := fun W h => o ▸ has_any 128 W h
  have HF : Hid _ := frameMayBe_any i W h
  have HP : Hid (PxAt W b p) := h
  have e1 : (bits .andNot .u8 (p.rg 1) 120 != 0) = false := by rw [s1]; rfl
  have HK : Hid (∀ f : Prop, (∀ k, k < 23040 → p.sh k = 0) → (POk p ↔ FOk p)) := fun _ hz => ⟨fun q => q.fr, fun q => ⟨s1, s6, by omega, by omega, fun _ => ⟨h4, hc, hz⟩, q⟩⟩
  have HN : Hid ((¬ ∀ k, k < 23040 → p.sh k = 0) → ¬ POk p) := fun hz q => hz (q.off o).2.2
  have HR : Hid (W.rangeAt b 31407 (cellsF p.sh 23040)) := h.shownR
  have HL : Hid ((Try.prog.info? 72).map (·.size) = some (cellsF p.sh 23040).length) := by show _ = _; rw [cellsF_len]; kernel_rfl
  have he : (Op.equalIn 10000 72 (.agg (cellsF p.sh 23040).toArray) (.agg Try.zeroCells72)).run Try.prog W = .ok ((List.range 23040).all fun i => p.sh i == (fun _ => 0) i) W := by
    rw [z72_eq]
    exact run_equalF 9998 72 5 23040 Try.underlying72 Try.underlying5 (fun w => by kernel_rfl) p.sh (fun _ => 0) W
  have HZ := allZ p.sh 23040
  clear h i h4 hc s6 s1 o
  generalize ((List.range 23040).all fun i => p.sh i == (fun _ => 0) i) = T at he HZ
  have HZ2 : Hid (T = true ↔ ∀ k, k < 23040 → p.sh k = 0) := HZ
  clear HZ
  generalize hD : cellsF p.sh 23040 = D at *
  clear hD
  cases T
  · have HN2 : Hid (¬ POk p) := HN.out (fun hz => by have := HZ2.out.2 hz; cases this)
    clear HN HK HZ2 HF
    go_enter Try.func56, Try.ntmps56
    go_wp2_with fail
    refine (HA.out _ HP.out).mono ?_
    rintro e w' ⟨rfl, hw'⟩
    obtain rfl := hw'.symm
    go_wp2_with (refine wpList_on rfl (wp_load_mid 72 _ rfl b 31407 rfl D _ HR.out Try.underlying72 rfl HL.out ?_))
    go_ret
    exact ⟨false, rfl, ⟨fun h => absurd h (by decide), fun f => (HN2.out f).elim⟩, rfl⟩
  · have HK2 : Hid (POk p ↔ FOk p) := HK.out True (HZ2.out.1 rfl)
    clear HN HK HZ2
    go_enter Try.func56, Try.ntmps56
    go_wp2_with fail
    refine (HA.out _ HP.out).mono ?_
    rintro e w' ⟨rfl, hw'⟩
    obtain rfl := hw'.symm
    go_wp2_with (refine wpList_on rfl (wp_load_mid 72 _ rfl b 31407 rfl D _ HR.out Try.underlying72 rfl HL.out ?_))
    refine Calls.mono HF.out ?_
    rintro e w' ⟨t, rfl, ht, hw'⟩
    obtain rfl := hw'.symm
    have HT : Hid _ := ht
    clear ht HF
    go_wp2_with fail
    go_ret
    exact ⟨t, rfl, HT.out.trans HK2.out.symm, rfl⟩
set_option maxRecDepth 100000 in
set_option maxHeartbeats 1000000 in
theorem mayBe_any (i : p.In) (W : World) (h : PxAt W b p) : Calls Try.prog 56 #[.pointer (some ⟨b, 0, none⟩)] W fun e w' => ∃ t, e = .returned (.bool t) ∧ (t = true ↔ POk p) ∧ w' = W := by
  have k1 : W.cell? ⟨b, 8353, none⟩ = some (.int .u8 (p.rg 1)) := h.reg 1 (by decide)
  have k4 : W.cell? ⟨b, 8356, none⟩ = some (.int .u8 (p.rg 4)) := h.reg 4 (by decide)
  have k6 : W.cell? ⟨b, 8358, none⟩ = some (.int .u8 (p.rg 6)) := h.reg 6 (by decide)
  have kc := h.clk
  have HP : Hid (PxAt W b p) := h
  have HI : Hid p.In := i
  by_cases s1 : bits .andNot .u8 (p.rg 1) 120 = 0
  · have e1 : (bits .andNot .u8 (p.rg 1) 120 != 0) = false := by rw [s1]; rfl
    by_cases s6 : p.rg 6 = 0
    · have e6 : (p.rg 6 != 0) = false := by rw [s6]; rfl
      by_cases s4 : p.rg 4 ≤ 153
      · have e4 : decide (153 < p.rg 4) = false := decide_eq_false (by omega)
        by_cases sc : p.clk < 456
        · have ec : decide (456 ≤ p.clk) = false := decide_eq_false (by omega)
          have HA : Hid (∀ W, PxAt W b p → Calls Try.prog 48 #[.pointer (some ⟨b, 0, none⟩), .int .u8 128] W fun e w' => e = .returned (.bool (p.has 128)) ∧ w' = W) := fun W h => has_any 128 W h
          cases o : p.has 128
          · by_cases z4 : p.rg 4 = 0
            · by_cases zc : p.clk = 0
              · exact mayBe_off i o s1 s6 z4 zc W h
              · have f4 : (p.rg 4 != 0) = false := by rw [z4]; rfl
                have fc : (p.clk != 0) = true := bne_iff_ne.2 zc
                have HN : Hid (¬ POk p) := fun q => zc (q.off o).2.1
                rw [o] at HA
                clear h i s1 s6 s4 sc z4 zc HI o
                go_enter Try.func56, Try.ntmps56
                go_wp2_with fail
                refine (HA.out _ HP.out).mono ?_
                rintro e w' ⟨rfl, hw'⟩
                obtain rfl := hw'.symm
                go_wp2_with fail
                go_ret
                exact ⟨false, rfl, ⟨fun h => absurd h (by decide), fun f => (HN.out f).elim⟩, rfl⟩
            · have f4 : (p.rg 4 != 0) = true := bne_iff_ne.2 z4
              have HN : Hid (¬ POk p) := fun q => z4 (q.off o).1
              rw [o] at HA
              clear h i s1 s6 s4 sc z4 HI o
              go_enter Try.func56, Try.ntmps56
              go_wp2_with fail
              refine (HA.out _ HP.out).mono ?_
              rintro e w' ⟨rfl, hw'⟩
              obtain rfl := hw'.symm
              go_wp2_with fail
              go_ret
              exact ⟨false, rfl, ⟨fun h => absurd h (by decide), fun f => (HN.out f).elim⟩, rfl⟩
          · have HF : Hid _ := frameMayBe_any i W h
            have HK : Hid (POk p ↔ FOk p) := ⟨fun q => q.fr, fun q => ⟨s1, s6, s4, sc, fun a => (by rw [o] at a; cases a), q⟩⟩
            rw [o] at HA
            clear h i s1 s6 s4 sc HI o
            go_enter Try.func56, Try.ntmps56
            go_wp2_with fail
            refine (HA.out _ HP.out).mono ?_
            rintro e w' ⟨rfl, hw'⟩
            obtain rfl := hw'.symm
            go_wp2_with fail
            refine Calls.mono HF.out ?_
            rintro e w' ⟨t, rfl, ht, hw'⟩
            obtain rfl := hw'.symm
            have HT : Hid _ := ht
            clear ht HF
            go_wp2_with fail
            go_ret
            exact ⟨t, rfl, HT.out.trans HK.out.symm, rfl⟩
        · have ec : decide (456 ≤ p.clk) = true := decide_eq_true (by omega)
          have HN : Hid (¬ POk p) := fun q => sc q.c9
          clear h i s1 s6 s4 sc HI
          go_enter Try.func56, Try.ntmps56
          go_wp2_with fail
          go_ret
          exact ⟨false, rfl, ⟨fun h => absurd h (by decide), fun f => (HN.out f).elim⟩, rfl⟩
      · have e4 : decide (153 < p.rg 4) = true := decide_eq_true (by omega)
        have HN : Hid (¬ POk p) := fun q => s4 q.ly
        clear h i s1 s6 s4 HI
        go_enter Try.func56, Try.ntmps56
        go_wp2_with fail
        go_ret
        exact ⟨false, rfl, ⟨fun h => absurd h (by decide), fun f => (HN.out f).elim⟩, rfl⟩
    · have e6 : (p.rg 6 != 0) = true := bne_iff_ne.2 s6
      have HN : Hid (¬ POk p) := fun q => s6 q.dm
      clear h i s1 s6 HI
      go_enter Try.func56, Try.ntmps56
      go_wp2_with fail
      go_ret
      exact ⟨false, rfl, ⟨fun h => absurd h (by decide), fun f => (HN.out f).elim⟩, rfl⟩
  · have e1 : (bits .andNot .u8 (p.rg 1) 120 != 0) = true := bne_iff_ne.2 s1
    have HN : Hid (¬ POk p) := fun q => s1 q.st
    clear h i s1 HI
    go_enter Try.func56, Try.ntmps56
    go_wp2_with fail
    go_ret
    exact ⟨false, rfl, ⟨fun h => absurd h (by decide), fun f => (HN.out f).elim⟩, rfl⟩
/-- what is sane may be, and what may be is sane, but for bounds -/
theorem Sane.ok (h : Sane p) : POk p := ⟨h.st, h.dm, h.ly, by have := h.c9; omega, h.off, fun m => by
    have := h.ml m
    unfold Pic.looked
    rw [decide_eq_true this.1, Bool.true_and, Bool.or_eq_true]
    rcases this.2 with a | a
    · exact Or.inl (decide_eq_true a)
    · exact Or.inr (decide_eq_true a), h.rm, h.rl, h.dz⟩
theorem POk.sane (h : POk p) (i : p.In) (c0 : 0 ≤ p.clk) (c4 : p.clk % 4 = 0) (r0 : 0 ≤ p.rows) (d3 : ∀ k, k < 23040 → 0 ≤ p.dr k ∧ p.dr k ≤ 3) (s3 : ∀ k, k < 23040 → 0 ≤ p.sh k ∧ p.sh k ≤ 3) : Sane p :=
  ⟨i, c0, by have := h.c9; omega, c4, h.ly, h.st, h.dm, h.off, r0, h.fr.rl, h.fr.rm, fun m => by
    have := h.fr.ml m
    unfold Pic.looked at this
    simp at this
    exact this, h.fr.dz, d3, s3⟩
end Go.Proofs.Ytmjfccdhjhkocaa
/- Points, four a byte. -/
namespace Go.Proofs.Ytmjfccdhjhkocaa
open Go.RowKit
set_option linter.unusedVariables false
variable {b : Nat} {p : Pic}
def pk4 (x y z t : Int) : Int := bits .or .u8 (bits .or .u8 (bits .or .u8 x (y * 4)) (z * 16)) (t * 64)
theorem of4 {x : Int} (h0 : 0 ≤ x) (h3 : x ≤ 3) : x = 0 ∨ x = 1 ∨ x = 2 ∨ x = 3 := by omega
theorem pk4_back {x y z t : Int} (x0 : 0 ≤ x) (x3 : x ≤ 3) (y0 : 0 ≤ y) (y3 : y ≤ 3) (z0 : 0 ≤ z) (z3 : z ≤ 3) (t0 : 0 ≤ t) (t3 : t ≤ 3) :
    (0 ≤ pk4 x y z t ∧ pk4 x y z t ≤ 255) ∧ bits .and .u8 (pk4 x y z t) 3 = x ∧ bits .and .u8 (pk4 x y z t / 4) 3 = y ∧ bits .and .u8 (pk4 x y z t / 16) 3 = z ∧ pk4 x y z t / 64 = t := by
  rcases of4 x0 x3 with rfl | rfl | rfl | rfl <;> rcases of4 y0 y3 with rfl | rfl | rfl | rfl <;> rcases of4 z0 z3 with rfl | rfl | rfl | rfl <;> rcases of4 t0 t3 with rfl | rfl | rfl | rfl <;> decide
def pk (d : Nat → Int) (i : Nat) : Int := pk4 (d (4 * i)) (d (4 * i + 1)) (d (4 * i + 2)) (d (4 * i + 3))
def packTo (f d : Nat → Int) (o i : Nat) (k : Nat) : Int := if o ≤ k ∧ k < o + i then pk d (k - o) else f k
theorem packTo_set (f d : Nat → Int) (o i : Nat) (k : Nat) : (if k = o + i then pk d i else packTo f d o i k) = packTo f d o (i + 1) k := by
  unfold packTo
  by_cases e : k = o + i
  · rw [if_pos e, if_pos (by omega), show k - o = i by omega]
  · rw [if_neg e]
    by_cases e2 : o ≤ k ∧ k < o + i
    · rw [if_pos e2, if_pos (by omega)]
    · rw [if_neg e2, if_neg (by omega)]
set_option maxRecDepth 100000 in
set_option maxHeartbeats 1000000 in
theorem pack_any (g o n A cap : Nat) (f d : Nat → Int) (hd : ∀ k, k < 23040 → 0 ≤ d k ∧ d k ≤ 3) (hn : o + 5760 ≤ n) (hcap : 5760 ≤ cap) (hcm : cap ≤ 9223372036854775807) (W : World) (hN : NmAt W g n f) (hC : ∀ w', Fr g W w' → ∀ k, k < 23040 → w'.cell? ⟨b, A + k, none⟩ = some (.int .u8 (d k))) :
    Calls Try.prog 54 #[.slice (some ⟨g, o, none⟩) 5760 cap, .pointer (some ⟨b, A, none⟩)] W fun e w' => e = .returned (.tuple #[]) ∧ NmAt w' g n (packTo f d o 5760) ∧ Fr g W w' := by
  have HC : Hid _ := hC
  have HD : Hid _ := hd
  have H0 : Hid (NmAt W g n (packTo f d o 0) ∧ Fr g W W) := ⟨hN.congr (fun k _ => by unfold packTo; rw [if_neg (by omega)]), Fr.refl g W⟩
  clear hC hd hN
  go_enter Try.func54, Try.ntmps54
  go_wp2_with fail
  go_loopw [4, 5, 8] (fun _ _ I wr => ∃ i : Nat, i ≤ 5760 ∧ I = .int .i64 i ∧ Hid (NmAt wr g n (packTo f d o i) ∧ Fr g W wr)) (fun _ _ I _ => 5760 - (intOf I).toNat)
  case atStart => exact ⟨0, by omega, rfl, H0⟩
  case round =>
    clear H0
    obtain ⟨i, hi, rfl, M0⟩ := hrel
    by_cases hlt : i < 5760
    · have d1 : decide ((i : Int) < 5760) = true := decide_eq_true (by omega)
      have e1 : (i : Int) < 5760 := by omega
      have sl : ∀ w, (Instr.sliceAt 72 (.pointer (some ⟨b, A, none⟩)) (some (.int .i64 ((i : Int) * 4))) none none).run Try.prog w = .ok (.slice (some ⟨b, A + 4 * i, none⟩) (23040 - 4 * i) (23040 - 4 * i)) w := fun w => sliced_pts A _ (4 * i) (by omega) (by omega) w
      have e2 : 4 ≤ 23040 - 4 * i := by omega
      have e3 : (4 : Int) ≤ ((23040 - 4 * i : Nat) : Int) := by omega
      go_wp2_with fail
      refine wp_still2 21 (by kernel_rfl) (by decide +kernel) ?_
      intro w1 hw1
      have F1 : Fr g W w1 := by rw [hw1]; exact M0.out.2.trans (Fr.ofUp ((Up.refl _).drew))
      have n1 : NmAt w1 g n (packTo f d o i) := by rw [hw1]; exact M0.out.1.of_block rfl
      have c0 := HC.out w1 F1 (4 * i) (by omega)
      have c1 := HC.out w1 F1 (4 * i + 1) (by omega)
      have c2 := HC.out w1 F1 (4 * i + 2) (by omega)
      have c3 := HC.out w1 F1 (4 * i + 3) (by omega)
      rw [← Nat.add_assoc] at c1 c2 c3
      obtain ⟨x0, x1⟩ := HD.out (4 * i) (by omega)
      obtain ⟨y0, y1⟩ := HD.out (4 * i + 1) (by omega)
      obtain ⟨z0, z1⟩ := HD.out (4 * i + 2) (by omega)
      obtain ⟨t0, t1⟩ := HD.out (4 * i + 3) (by omega)
      have HPk : Hid (pk d i = pk4 (d (4 * i)) (d (4 * i + 1)) (d (4 * i + 2)) (d (4 * i + 3))) := rfl
      have kg := n1.cell (o + i) (by omega)
      have fg := n1.fz (o + i)
      have HS : Hid (NmAt (w1.setCell ⟨g, o + i, none⟩ (.int .u8 (pk d i))) g n (packTo f d o (i + 1)) ∧ Fr g W (w1.setCell ⟨g, o + i, none⟩ (.int .u8 (pk d i)))) := ⟨(n1.set (o + i) (by omega) _).congr (fun k _ => packTo_set f d o i k), F1.setCell⟩
      generalize d (4 * i) = X at *
      generalize d (4 * i + 1) = Y at *
      generalize d (4 * i + 2) = V at *
      generalize d (4 * i + 3) = T at *
      clear hw1 n1 F1 sl M0
      simp only [List.take_succ_cons, List.take_zero, List.drop_succ_cons, List.drop_zero]
      repeat (go_big_quiet_step (fail))
      refine wpQuiet_nil ?_
      rw [HPk.out] at HS
      unfold pk4 at HS
      clear HPk c0 c1 c2 c3
      generalize bits .or .u8 (bits .or .u8 (bits .or .u8 X (Y * 4)) (V * 16)) (T * 64) = PV at *
      go_wp2_with fail
      refine ⟨⟨i + 1, by omega, ?_, HS⟩, ?_⟩
      · first | rfl | (simp; done)
      · simp [intOf]
        omega
    · have d1 : decide ((i : Int) < 5760) = false := decide_eq_false (by omega)
      obtain rfl : i = 5760 := by omega
      go_wp2_with fail
      go_end0
      exact ⟨rfl, M0.out⟩
def unpk (c : Nat → Int) (k : Nat) : Int := if k % 4 = 0 then bits .and .u8 (c (k / 4)) 3 else if k % 4 = 1 then bits .and .u8 (c (k / 4) / 4) 3 else if k % 4 = 2 then bits .and .u8 (c (k / 4) / 16) 3 else c (k / 4) / 64
theorem unpk_b {c : Nat → Int} (hc : ∀ k, 0 ≤ c k ∧ c k ≤ 255) (k : Nat) : 0 ≤ unpk c k ∧ unpk c k ≤ 3 := by
  unfold unpk
  have h := hc (k / 4)
  have h4 : 0 ≤ c (k / 4) / 4 ∧ c (k / 4) / 4 ≤ 255 := by omega
  have h16 : 0 ≤ c (k / 4) / 16 ∧ c (k / 4) / 16 ≤ 255 := by omega
  split
  · exact and3_b _ h.1 h.2
  · split
    · exact and3_b _ h4.1 h4.2
    · split
      · exact and3_b _ h16.1 h16.2
      · omega
def Pic.upD (p : Pic) (c : Nat → Int) (m : Nat) : Pic := { p with dr := fun k => if k < m then unpk c k else p.dr k }
theorem Pic.cellupD (p : Pic) (c : Nat → Int) (m : Nat) (hm : m < 23040) (j : Nat) (hj : j < 54447) : (if j = 8367 + m then .int .u8 (unpk c m) else (p.upD c m).cell j) = (p.upD c (m + 1)).cell j := by
  by_cases h : j < 8367
  · rw [if_neg (by omega)]
    unfold Pic.cell Pic.upD
    dsimp only
    repeat' split
    all_goals first | omega | rfl
  · by_cases h1 : j < 31407
    · rw [Pic.cell_dr _ (show 8367 ≤ j by omega) h1, Pic.cell_dr _ (show 8367 ≤ j by omega) h1]
      unfold Pic.upD
      dsimp only
      by_cases e : j = 8367 + m
      · rw [if_pos e, if_pos (show j - 8367 < m + 1 by omega), show j - 8367 = m by omega]
      · rw [if_neg e]
        by_cases h2 : j - 8367 < m
        · rw [if_pos h2, if_pos (show j - 8367 < m + 1 by omega)]
        · rw [if_neg h2, if_neg (show ¬ j - 8367 < m + 1 by omega)]
    · rw [if_neg (by omega), Pic.cell_sh _ (show 31407 ≤ j by omega), Pic.cell_sh _ (show 31407 ≤ j by omega)]
      rfl
theorem Pic.upD0 (p : Pic) (c : Nat → Int) : p.upD c 0 = p := by
  unfold Pic.upD
  congr 1
set_option maxRecDepth 100000 in
set_option maxHeartbeats 1000000 in
theorem unpack_upD (g o cap : Nat) (c : Nat → Int) (hc : ∀ k, 0 ≤ c k ∧ c k ≤ 255) (hcap : 5760 ≤ cap) (hcm : cap ≤ 9223372036854775807) (W : World) (h : PxAt W b p) (hC : ∀ w', Fr b W w' → ∀ k, k < 5760 → w'.cell? ⟨g, o + k, none⟩ = some (.int .u8 (c k))) :
    Calls Try.prog 55 #[.pointer (some ⟨b, 8367, none⟩), .slice (some ⟨g, o, none⟩) 5760 cap] W fun e w' => e = .returned (.tuple #[]) ∧ PxAt w' b (p.upD c 23040) ∧ Fr b W w' := by
  have HC : Hid _ := hC
  have HD : Hid _ := hc
  have H0 : Hid (PxAt W b (p.upD c (4 * 0)) ∧ Fr b W W) := ⟨by rw [Nat.mul_zero, Pic.upD0]; exact h, Fr.refl b W⟩
  clear hC hc h
  go_enter Try.func55, Try.ntmps55
  go_wp2_with fail
  go_loopw [4, 5, 6, 9] (fun _ _ _ I wr => ∃ i : Nat, i ≤ 5760 ∧ I = .int .i64 i ∧ Hid (PxAt wr b (p.upD c (4 * i)) ∧ Fr b W wr)) (fun _ _ _ I _ => 5760 - (intOf I).toNat)
  case atStart => exact ⟨0, by omega, rfl, H0⟩
  case round =>
    clear H0
    obtain ⟨i, hi, rfl, M0⟩ := hrel
    by_cases hlt : i < 5760
    · have d1 : decide ((i : Int) < 5760) = true := decide_eq_true (by omega)
      have e1 : (i : Int) < 5760 := by omega
      have sl : ∀ w, (Instr.sliceAt 72 (.pointer (some ⟨b, 8367, none⟩)) (some (.int .i64 ((i : Int) * 4))) none none).run Try.prog w = .ok (.slice (some ⟨b, 8367 + 4 * i, none⟩) (23040 - 4 * i) (23040 - 4 * i)) w := fun w => sliced_pts 8367 _ (4 * i) (by omega) (by omega) w
      have e2 : 4 ≤ 23040 - 4 * i := by omega
      have e3 : (4 : Int) ≤ ((23040 - 4 * i : Nat) : Int) := by omega
      have kc := HC.out wr M0.out.2 i hlt
      obtain ⟨x0, x1⟩ := HD.out i
      have u0 : unpk c (4 * i) = bits .and .u8 (c i) 3 := by unfold unpk; rw [if_pos (by omega), show 4 * i / 4 = i by omega]
      have u1 : unpk c (4 * i + 1) = bits .and .u8 (c i / 4) 3 := by unfold unpk; rw [if_neg (by omega), if_pos (by omega), show (4 * i + 1) / 4 = i by omega]
      have u2 : unpk c (4 * i + 2) = bits .and .u8 (c i / 16) 3 := by unfold unpk; rw [if_neg (by omega), if_neg (by omega), if_pos (by omega), show (4 * i + 2) / 4 = i by omega]
      have u3 : unpk c (4 * i + 3) = c i / 64 := by unfold unpk; rw [if_neg (by omega), if_neg (by omega), if_neg (by omega), show (4 * i + 3) / 4 = i by omega]
      have p0 := M0.out.1
      have p1 := p0.set (8367 + 4 * i) (.int .u8 (bits .and .u8 (c i) 3)) (fun j hj => by have := Pic.cellupD p c (4 * i) (by omega) j hj; rw [u0] at this; exact this)
      have p2 := p1.set (8367 + 4 * i + 1) (.int .u8 (bits .and .u8 (c i / 4) 3)) (fun j hj => by have := Pic.cellupD p c (4 * i + 1) (by omega) j hj; rw [u1] at this; exact this)
      have p3 := p2.set (8367 + 4 * i + 2) (.int .u8 (bits .and .u8 (c i / 16) 3)) (fun j hj => by have := Pic.cellupD p c (4 * i + 2) (by omega) j hj; rw [u2] at this; exact this)
      have p4 := p3.set (8367 + 4 * i + 3) (.int .u8 (c i / 64)) (fun j hj => by have := Pic.cellupD p c (4 * i + 3) (by omega) j hj; rw [u3] at this; exact this)
      have HS : Hid _ := And.intro p4 ((((M0.out.2.setCell (k := 8367 + 4 * i) (v := .int .u8 (bits .and .u8 (c i) 3))).setCell (k := 8367 + 4 * i + 1) (v := .int .u8 (bits .and .u8 (c i / 4) 3))).setCell (k := 8367 + 4 * i + 2) (v := .int .u8 (bits .and .u8 (c i / 16) 3))).setCell (k := 8367 + 4 * i + 3) (v := .int .u8 (c i / 64)))
      obtain ⟨o0, k0⟩ := Option.isSome_iff_exists.1 (p0.here (8367 + 4 * i) (by omega))
      obtain ⟨o1, k1⟩ := Option.isSome_iff_exists.1 (p0.here (8367 + 4 * i + 1) (by omega))
      obtain ⟨o2, k2⟩ := Option.isSome_iff_exists.1 (p0.here (8367 + 4 * i + 2) (by omega))
      obtain ⟨o3, k3⟩ := Option.isSome_iff_exists.1 (p0.here (8367 + 4 * i + 3) (by omega))
      have f0 := p0.fz (8367 + 4 * i)
      have f1 := p0.fz (8367 + 4 * i + 1)
      have f2 := p0.fz (8367 + 4 * i + 2)
      have f3 := p0.fz (8367 + 4 * i + 3)
      clear p0 p1 p2 p3 p4 u0 u1 u2 u3 M0
      generalize c i = B at *
      go_wp2_with fail
      refine ⟨⟨i + 1, by omega, ?_, HS⟩, ?_⟩
      · first | rfl | (simp; done)
      · simp [intOf]
        omega
    · have d1 : decide ((i : Int) < 5760) = false := decide_eq_false (by omega)
      obtain rfl : i = 5760 := by omega
      go_wp2_with fail
      go_end0
      exact ⟨rfl, M0.out⟩
def Pic.upS (p : Pic) (c : Nat → Int) (m : Nat) : Pic := { p with sh := fun k => if k < m then unpk c k else p.sh k }
theorem Pic.cellupS (p : Pic) (c : Nat → Int) (m : Nat) (hm : m < 23040) (j : Nat) (hj : j < 54447) : (if j = 31407 + m then .int .u8 (unpk c m) else (p.upS c m).cell j) = (p.upS c (m + 1)).cell j := by
  by_cases h : j < 31407
  · rw [if_neg (by omega)]
    unfold Pic.cell Pic.upS
    dsimp only
    repeat' split
    all_goals first | omega | rfl
  · rw [Pic.cell_sh _ (show 31407 ≤ j by omega), Pic.cell_sh _ (show 31407 ≤ j by omega)]
    unfold Pic.upS
    dsimp only
    by_cases e : j = 31407 + m
    · rw [if_pos e, if_pos (show j - 31407 < m + 1 by omega), show j - 31407 = m by omega]
    · rw [if_neg e]
      by_cases h2 : j - 31407 < m
      · rw [if_pos h2, if_pos (show j - 31407 < m + 1 by omega)]
      · rw [if_neg h2, if_neg (show ¬ j - 31407 < m + 1 by omega)]
theorem Pic.upS0 (p : Pic) (c : Nat → Int) : p.upS c 0 = p := by
  unfold Pic.upS
  congr 1
set_option maxRecDepth 100000 in
set_option maxHeartbeats 1000000 in
theorem unpack_upS (g o cap : Nat) (c : Nat → Int) (hc : ∀ k, 0 ≤ c k ∧ c k ≤ 255) (hcap : 5760 ≤ cap) (hcm : cap ≤ 9223372036854775807) (W : World) (h : PxAt W b p) (hC : ∀ w', Fr b W w' → ∀ k, k < 5760 → w'.cell? ⟨g, o + k, none⟩ = some (.int .u8 (c k))) :
    Calls Try.prog 55 #[.pointer (some ⟨b, 31407, none⟩), .slice (some ⟨g, o, none⟩) 5760 cap] W fun e w' => e = .returned (.tuple #[]) ∧ PxAt w' b (p.upS c 23040) ∧ Fr b W w' := by
  have HC : Hid _ := hC
  have HD : Hid _ := hc
  have H0 : Hid (PxAt W b (p.upS c (4 * 0)) ∧ Fr b W W) := ⟨by rw [Nat.mul_zero, Pic.upS0]; exact h, Fr.refl b W⟩
  clear hC hc h
  go_enter Try.func55, Try.ntmps55
  go_wp2_with fail
  go_loopw [4, 5, 6, 9] (fun _ _ _ I wr => ∃ i : Nat, i ≤ 5760 ∧ I = .int .i64 i ∧ Hid (PxAt wr b (p.upS c (4 * i)) ∧ Fr b W wr)) (fun _ _ _ I _ => 5760 - (intOf I).toNat)
  case atStart => exact ⟨0, by omega, rfl, H0⟩
  case round =>
    clear H0
    obtain ⟨i, hi, rfl, M0⟩ := hrel
    by_cases hlt : i < 5760
    · have d1 : decide ((i : Int) < 5760) = true := decide_eq_true (by omega)
      have e1 : (i : Int) < 5760 := by omega
      have sl : ∀ w, (Instr.sliceAt 72 (.pointer (some ⟨b, 31407, none⟩)) (some (.int .i64 ((i : Int) * 4))) none none).run Try.prog w = .ok (.slice (some ⟨b, 31407 + 4 * i, none⟩) (23040 - 4 * i) (23040 - 4 * i)) w := fun w => sliced_pts 31407 _ (4 * i) (by omega) (by omega) w
      have e2 : 4 ≤ 23040 - 4 * i := by omega
      have e3 : (4 : Int) ≤ ((23040 - 4 * i : Nat) : Int) := by omega
      have kc := HC.out wr M0.out.2 i hlt
      obtain ⟨x0, x1⟩ := HD.out i
      have u0 : unpk c (4 * i) = bits .and .u8 (c i) 3 := by unfold unpk; rw [if_pos (by omega), show 4 * i / 4 = i by omega]
      have u1 : unpk c (4 * i + 1) = bits .and .u8 (c i / 4) 3 := by unfold unpk; rw [if_neg (by omega), if_pos (by omega), show (4 * i + 1) / 4 = i by omega]
      have u2 : unpk c (4 * i + 2) = bits .and .u8 (c i / 16) 3 := by unfold unpk; rw [if_neg (by omega), if_neg (by omega), if_pos (by omega), show (4 * i + 2) / 4 = i by omega]
      have u3 : unpk c (4 * i + 3) = c i / 64 := by unfold unpk; rw [if_neg (by omega), if_neg (by omega), if_neg (by omega), show (4 * i + 3) / 4 = i by omega]
      have p0 := M0.out.1
      have p1 := p0.set (31407 + 4 * i) (.int .u8 (bits .and .u8 (c i) 3)) (fun j hj => by have := Pic.cellupS p c (4 * i) (by omega) j hj; rw [u0] at this; exact this)
      have p2 := p1.set (31407 + 4 * i + 1) (.int .u8 (bits .and .u8 (c i / 4) 3)) (fun j hj => by have := Pic.cellupS p c (4 * i + 1) (by omega) j hj; rw [u1] at this; exact this)
      have p3 := p2.set (31407 + 4 * i + 2) (.int .u8 (bits .and .u8 (c i / 16) 3)) (fun j hj => by have := Pic.cellupS p c (4 * i + 2) (by omega) j hj; rw [u2] at this; exact this)
      have p4 := p3.set (31407 + 4 * i + 3) (.int .u8 (c i / 64)) (fun j hj => by have := Pic.cellupS p c (4 * i + 3) (by omega) j hj; rw [u3] at this; exact this)
      have HS : Hid _ := And.intro p4 ((((M0.out.2.setCell (k := 31407 + 4 * i) (v := .int .u8 (bits .and .u8 (c i) 3))).setCell (k := 31407 + 4 * i + 1) (v := .int .u8 (bits .and .u8 (c i / 4) 3))).setCell (k := 31407 + 4 * i + 2) (v := .int .u8 (bits .and .u8 (c i / 16) 3))).setCell (k := 31407 + 4 * i + 3) (v := .int .u8 (c i / 64)))
      obtain ⟨o0, k0⟩ := Option.isSome_iff_exists.1 (p0.here (31407 + 4 * i) (by omega))
      obtain ⟨o1, k1⟩ := Option.isSome_iff_exists.1 (p0.here (31407 + 4 * i + 1) (by omega))
      obtain ⟨o2, k2⟩ := Option.isSome_iff_exists.1 (p0.here (31407 + 4 * i + 2) (by omega))
      obtain ⟨o3, k3⟩ := Option.isSome_iff_exists.1 (p0.here (31407 + 4 * i + 3) (by omega))
      have f0 := p0.fz (31407 + 4 * i)
      have f1 := p0.fz (31407 + 4 * i + 1)
      have f2 := p0.fz (31407 + 4 * i + 2)
      have f3 := p0.fz (31407 + 4 * i + 3)
      clear p0 p1 p2 p3 p4 u0 u1 u2 u3 M0
      generalize c i = B at *
      go_wp2_with fail
      refine ⟨⟨i + 1, by omega, ?_, HS⟩, ?_⟩
      · first | rfl | (simp; done)
      · simp [intOf]
        omega
    · have d1 : decide ((i : Int) < 5760) = false := decide_eq_false (by omega)
      obtain rfl : i = 5760 := by omega
      go_wp2_with fail
      go_end0
      exact ⟨rfl, M0.out⟩
end Go.Proofs.Ytmjfccdhjhkocaa
