/- Off and on again; what is known of a new picture. -/
import Derived.Test.YtnbhifbenfgeeaaPgJ
namespace Go.Proofs.Ytnbhifbenfgeeaa
open Go.RowKit
set_option linter.unusedVariables false
variable {b : Nat} {p : Pic}
theorem and127 : ∀ x : Int, 0 ≤ x → x ≤ 255 → (0 ≤ bits .and .i64 x 127 ∧ bits .and .i64 x 127 ≤ 127) ∧ (bits .and .u8 (bits .and .i64 x 127) 128 != 0) = false := byteAll (by decide +kernel)
theorem wr_reg (p : Pic) (n : Nat) (hn : n < 12) (x : Int) : p.wr (65344 + (n : Int)) x = p.wrR n (cutB x) := by
  have hl : p.locked (65344 + (n : Int)) = false := by
    unfold Pic.locked
    rw [isO_no (by omega), isV_no (by omega)]
    split
    · rfl
    · split <;> rfl
  unfold Pic.wr
  rw [hl, if_neg (by decide), isV_no (by omega), if_neg (by decide), isO_no (by omega), if_neg (by decide), isR_yes (by omega) (by omega), if_pos rfl, show (65344 + (n : Int) - 65344).toNat = n by omega]
/-- one that a scene made, switched off -/
structure Offd (s : Sce) (q : Pic) : Prop where
  sane : Sane q
  vr : q.vr = s.V
  oa : q.oa = s.O
  rg : ∀ j, q.rg j = if j = 0 then bits .and .i64 (s.R 0) 127 else if j = 1 then 120 else s.R j
theorem Sce.R_b (s : Sce) (j : Nat) : 0 ≤ s.R j ∧ s.R j ≤ 255 := by
  unfold Sce.R regsB
  split
  · exact regN_b _ _
  · exact (show (0 : Int) ≤ 0 ∧ (0 : Int) ≤ 255 by decide)
theorem Sce.R_z (s : Sce) (j : Nat) (h : j = 1 ∨ j = 4 ∨ j = 5 ∨ j = 6 ∨ 12 ≤ j) : s.R j = 0 := by
  unfold Sce.R regsB
  rw [if_neg (by omega)]
theorem offd_of {s : Sce} {q0 q1 : Pic} (h0 : Scn s q0) (k : Kp q0 q1) (h1 : Sane q1) : Offd s ((q1.wr 65345 120).wr 65344 (bits .and .i64 (s.R 0) 127)) := by
  have hs := (h1.wr 65345 120).wr 65344 (bits .and .i64 (s.R 0) 127)
  have a := and127 (s.R 0) (s.R_b 0).1 (s.R_b 0).2
  have e1 : q1.wr 65345 120 = q1.setR 1 120 := by
    have := wr_reg q1 1 (by decide) 120
    have e : cutB 120 = 120 := by decide
    rw [e] at this
    refine Eq.trans this ?_
    unfold Pic.wrR
    rw [if_neg (by decide), if_pos rfl]
    rfl
  have r0 : q1.rg 0 = s.R 0 := (k.rg 0 (by decide)).trans (by rw [h0.rg])
  have on : (q1.setR 1 120).has 128 = true := by
    unfold Pic.has
    show (bits .and .u8 (q1.rg 0) 128 != 0) = true
    rw [r0]
    exact s.R_on
  have of : ((q1.setR 1 120).setR 0 (bits .and .i64 (s.R 0) 127)).has 128 = false := by
    unfold Pic.has
    exact a.2
  have e2 : (q1.wr 65345 120).wr 65344 (bits .and .i64 (s.R 0) 127) = (q1.setR 1 120).off (bits .and .i64 (s.R 0) 127) := by
    rw [e1]
    have := wr_reg (q1.setR 1 120) 0 (by decide) (bits .and .i64 (s.R 0) 127)
    rw [cutB_id a.1.1 (by omega)] at this
    refine Eq.trans this ?_
    unfold Pic.wrR
    rw [if_pos rfl]
    unfold Pic.wrL
    rw [if_pos ⟨on, of⟩]
  rw [e2] at hs ⊢
  refine ⟨hs, k.vr.trans h0.vr, k.oa.trans h0.oa, fun j => ?_⟩
  show (if j = 4 then 0 else if j = 0 then _ else if j = 1 then 120 else q1.rg j) = _
  by_cases e4 : j = 4
  · subst e4
    rw [if_pos rfl, if_neg (by decide), if_neg (by decide), s.R_4]
  · rw [if_neg e4]
    by_cases e0 : j = 0
    · rw [if_pos e0, if_pos e0]
    · rw [if_neg e0, if_neg e0]
      by_cases e1 : j = 1
      · rw [if_pos e1, if_pos e1]
      · rw [if_neg e1, if_neg e1, k.rg j e4, h0.rg]
theorem Offd.off {s : Sce} {q : Pic} (h : Offd s q) : q.has 128 = false := by
  unfold Pic.has
  rw [h.rg 0, if_pos rfl]
  exact (and127 (s.R 0) (s.R_b 0).1 (s.R_b 0).2).2
theorem Offd.stat {s : Sce} {q : Pic} (h : Offd s q) : q.statB = 252 := by
  have o := h.off
  have e1 : q.rg 1 = 120 := by rw [h.rg 1]; rfl
  have e4 : q.rg 4 = 0 := (h.sane.off o).1
  have e5 : q.rg 5 = 0 := by rw [h.rg 5, if_neg (by decide), if_neg (by decide)]; exact s.R_z 5 (by omega)
  have em : q.mode = 0 := by unfold Pic.mode; rw [if_pos o]
  have ea : q.matches = true := by unfold Pic.matches; rw [e4, e5]; rfl
  unfold Pic.statB
  rw [if_pos ea, e1, em]
  decide
theorem Offd.tick {s : Sce} {q : Pic} {M : Nat} (hM : M = 40) (h : Offd s q) (W : World) (hp : PxAt W b q) :
    Calls Try.prog 22 #[.pointer (some ⟨b, 0, none⟩)] W fun e w' => e = .returned (.int .i64 0) ∧ PxAt w' b q ∧ Fr b W w' := by
  have := h.sane.tickC hM W hp
  have e1 : q.tickA (Pic.lineA M) = 0 := by unfold Pic.tickA; rw [if_pos h.off]
  have e2 : q.tickP (Pic.lineA M) = q := by unfold Pic.tickP; rw [if_pos h.off]
  rw [e1, e2] at this
  exact this
theorem Offd.again {s : Sce} {q : Pic} (h : Offd s q) : Scn s ((q.wr 65345 0).wr 65344 (s.R 0)) := by
  have hs := (h.sane.wr 65345 0).wr 65344 (s.R 0)
  have a := s.R_b 0
  have e1 : q.wr 65345 0 = q.setR 1 0 := by
    have := wr_reg q 1 (by decide) 0
    have e : cutB 0 = 0 := by decide
    rw [e] at this
    refine Eq.trans this ?_
    unfold Pic.wrR
    rw [if_neg (by decide), if_pos rfl]
    rfl
  have of : (q.setR 1 0).has 128 = false := h.off
  have e2 : (q.wr 65345 0).wr 65344 (s.R 0) = (q.setR 1 0).setR 0 (s.R 0) := by
    rw [e1]
    have := wr_reg (q.setR 1 0) 0 (by decide) (s.R 0)
    rw [cutB_id a.1 a.2] at this
    refine Eq.trans this ?_
    unfold Pic.wrR
    rw [if_pos rfl]
    unfold Pic.wrL
    rw [if_neg (by rw [of]; simp)]
  rw [e2] at hs ⊢
  refine ⟨hs, h.vr, h.oa, ?_, (h.sane.off h.off).2.1⟩
  funext j
  show (if j = 0 then s.R 0 else if j = 1 then 0 else q.rg j) = s.R j
  by_cases e0 : j = 0
  · subst e0
    rw [if_pos rfl]
  · rw [if_neg e0]
    by_cases e1 : j = 1
    · rw [if_pos e1]
      exact (s.R_z j (by omega)).symm
    · rw [if_neg e1, h.rg j, if_neg e0, if_neg e1]
set_option maxRecDepth 100000 in
set_option maxHeartbeats 1000000 in
theorem known_any (W : World) : Calls Try.prog 32 #[] W fun e w' => e = .returned (.bool true) ∧ Up W w' := by
  obtain ⟨M, hM⟩ : ∃ M, M = 40 := ⟨_, rfl⟩
  have HM : Hid (M = 40) := hM
  clear hM
  have HT : Hid (∀ n, Tk newPic n (tickN M newPic n)) := Tk.ticks (by decide) (by decide) (by decide) M
  go_enter Try.func32, Try.ntmps32
  go_wp2_with fail
  have HN : Hid _ := newP_any W
  generalize hb : W.heap.size = b at HN
  have HQ : Hid (W.heap.size ≤ b) := Nat.le_of_eq hb
  clear hb
  refine Calls.mono HN.out ?_
  rintro e w2 ⟨rfl, h2, u2⟩
  have H2 : Hid (Ts M w2 b newPic 0 w2 ∧ Up W w2) := ⟨⟨h2, Fr.refl b w2⟩, u2⟩
  clear h2 u2 HN
  go_wp2_with fail
  go_loopw [2] (fun I wr => ∃ i : Nat, i ≤ 130 ∧ I = .int .i64 i ∧ Hid (Ts M w2 b newPic i wr)) (fun I _ => 130 - (intOf I).toNat)
  case atStart => exact ⟨0, by omega, rfl, H2.out.1⟩
  case round =>
    obtain ⟨i, hi, rfl, M0⟩ := hrel
    by_cases hlt : i < 130
    · have d1 : decide ((i : Int) < 130) = true := decide_eq_true (by omega)
      have e1 : (i : Int) < 130 := by omega
      have HT1 : Hid _ := M0.out.tick HM.out newPic_sane
      go_wp2_with fail
      refine Calls.mono HT1.out ?_
      rintro e w4 ⟨rfl, h4⟩
      have H4 : Hid _ := h4
      clear h4 HT1 M0
      go_wp2_with fail
      refine ⟨⟨i + 1, by omega, ?_, H4⟩, ?_⟩
      · first | rfl | (simp; done)
      · simp [intOf]
        omega
    · have d1 : decide ((i : Int) < 130) = false := decide_eq_false (by omega)
      have hi2 : i = 130 := by omega
      have t := HT.out i
      have sa := newPic_sane.ticks M i
      have px := M0.out.px
      have F0 := M0.out.fr
      clear M0
      generalize tickN M newPic i = q at t sa px
      have e4 : q.rg 4 = 1 := by rw [t.ly, hi2]; decide
      have ec : q.clk = 64 := by rw [t.clk, hi2]; decide
      have es : q.statB = 130 := by
        have o : q.has 128 = true := (t.has 128).trans (by decide)
        have e1 : q.rg 1 = 0 := (t.rg 1 (by decide)).trans (by decide)
        have e5 : q.rg 5 = 0 := (t.rg 5 (by decide)).trans (by decide)
        have em : q.mode = 2 := by unfold Pic.mode; rw [o, e4, ec]; decide
        have ea : q.matches = false := by unfold Pic.matches; rw [e4, e5]; rfl
        unfold Pic.statB
        rw [ea, e1, em]
        decide
      have HL : Hid _ := line_any sa.inn wr px
      have HX : Hid (∀ w', Up wr w' → PxAt w' b q) := fun w' u => px.up u
      rw [e4, ec] at HL
      have HU : Hid (∀ w', Up wr w' → Up W w') := fun w' u => (Fr.up H2.out.2 HQ.out F0).trans u
      have HF : Hid (∀ w, PxAt w b q → Calls Try.prog 33 #[.pointer (some ⟨b, 0, none⟩)] w fun e w' => (∃ g, e = .returned (.slice (some ⟨g, 0, none⟩) 23040 23040)) ∧ Up w w') := fun w h => (frame_any w h).mono fun e w' ⟨a1, _, a3⟩ => ⟨⟨_, a1⟩, a3⟩
      have HR4 : Hid (∀ w, PxAt w b q → Calls Try.prog 20 #[.pointer (some ⟨b, 0, none⟩), .int .i64 65348] w fun e w' => e = .returned (.int .i64 1) ∧ w' = w) := fun w h => by
        have := readR_any 4 (by decide) 65348 (q.rg 4) (by decide) (by rw [e4]; decide) (by rw [e4]; decide) w h (fun W h => rreg4_any W h)
        rw [e4] at this
        exact this
      have HR1 : Hid (∀ w, PxAt w b q → Calls Try.prog 20 #[.pointer (some ⟨b, 0, none⟩), .int .i64 65345] w fun e w' => e = .returned (.int .i64 130) ∧ ∃ n, w' = w.drewN n) := fun w h => by
        have := readStatR_any sa.inn w h
        rw [es] at this
        exact this
      clear t sa px F0 e4 ec es H2 HT HM hi hlt hi2
      go_wp2_with fail
      refine Calls.mono HL.out ?_
      rintro e w3 ⟨rfl, m3, rfl⟩
      have u3 := Up.drewN wr m3
      generalize wr.drewN m3 = w3 at u3 ⊢
      have H3 : Hid (Up wr w3) := u3
      clear u3 HL
      go_wp2_with fail
      refine (HF.out _ (HX.out _ H3.out)).mono ?_
      rintro e w4 ⟨⟨g, rfl⟩, u4⟩
      have H4 : Hid (Up wr w4) := H3.out.trans u4
      clear u4 H3 HF
      go_wp2_with fail
      refine (HR4.out _ (HX.out _ H4.out)).mono ?_
      rintro e w' ⟨rfl, hw'⟩
      obtain rfl := hw'.symm
      go_wp2_with fail
      refine (HR1.out _ (HX.out _ H4.out)).mono ?_
      rintro e w' ⟨rfl, m4, rfl⟩
      go_wp2_with fail
      go_ret
      exact ⟨by first | rfl | decide | (simp; done), HU.out _ (H4.out.trans (Up.drewN _ m4))⟩
end Go.Proofs.Ytnbhifbenfgeeaa
