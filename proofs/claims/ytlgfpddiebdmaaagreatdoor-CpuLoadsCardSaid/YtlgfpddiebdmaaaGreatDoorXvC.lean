import Derived.Test.YtlgfpddiebdmaaaGreatDoorXuB
import Derived.Lib.Bytes
import Derived.Test.YtlgfpddiebdmaaaGreatDoorXuA
import Derived.Deep.Onto
import Derived.Maps.AppendAt
import Derived.Test.YtlgfpddiebdmaaaGreatDoorLq
import Derived.Lib.SliceRun
/- What went on is done again, over the translation. No condition. -/
namespace Go.Proofs.YtlgfpddiebdmaaaGreatDoor
open Go.RowKit
set_option linter.unusedVariables false
theorem u8_and31 : ∀ x : Int, 0 ≤ x → x ≤ 255 → bits .and .u8 x 31 = x % 32 := byteAll (by decide +kernel)
def fol0 (x : Nat → Int) (c : St) : St := if x 15 = 1 then c.act (x 16) 0 else c
def doneAt (w : World) (b : Nat) : Nat := match w.cell? ⟨b, 16, none⟩ with
  | some (.int _ n) => n.toNat
  | _ => 0
theorem Cp.doneAt {w : World} {b : Nat} {s : St} (h : Cp w b s) : doneAt w b = s.done.toNat := by
  unfold Go.Proofs.YtlgfpddiebdmaaaGreatDoor.doneAt
  rw [show w.cell? ⟨b, 16, none⟩ = some (.int .u8 s.done) from h.cell 16]
/-- what it may be while it is done again -/
structure Mid (c : St) : Prop where
  ok : c.Ok
  md : c.many ≤ c.done
  ask : oneBit c.asked
  run : c.state = 0
  go : c.phase ≠ 0
theorem Mid.inv {c : St} (h : Mid c) (ho : c.over c.row = false) : c.Inv := by
  refine ⟨h.ok, h.md, h.ask, Or.inr fun hz => ?_⟩
  unfold St.over at ho
  rw [show c.row.act c.done = 0 from hz] at ho
  cases ho
theorem Mid.act {c : St} (h : Mid c) (ho : c.over c.row = false) (d l : Int) (hd : 0 ≤ d ∧ d ≤ 255) : Mid (c.act d l) ∧ (c.act d l).done = c.done + 1 := by
  have v := h.inv ho
  obtain ⟨a1, a2, a3, a4, a5⟩ := act_ok d l c v h.run hd
  exact ⟨⟨a1, a2, a3, a5, a4⟩, act_done v h.run h.go d l⟩
/-- the cycles of a state, done again -/
structure FolAt (x : Nat → Int) (c c' : St) : Prop where
  mid : Mid c'
  eq : fol x (6 - c'.done.toNat) c' = fol x 6 c
theorem FolAt.step {x : Nat → Int} {c c' : St} (h : FolAt x c c') (hx : ∀ k, 0 ≤ x k ∧ x k ≤ 255) (h1 : c'.done < x 17) (h2 : c'.over c'.row = false) : FolAt x c (c'.act (x (18 + c'.many.toNat)) (x 21 % 32)) := by
  obtain ⟨m, d⟩ := h.mid.act h2 (x (18 + c'.many.toNat)) (x 21 % 32) (hx _)
  refine ⟨m, ?_⟩
  have e := h.eq
  have d0 := h.mid.ok.done
  rw [show 6 - c'.done.toNat = (6 - (c'.done + 1).toNat) + 1 by omega] at e
  rw [d, ← e]
  show _ = (if c'.done < x 17 ∧ c'.over c'.row = false then _ else _)
  rw [if_pos ⟨h1, h2⟩]
theorem FolAt.stop {x : Nat → Int} {c c' : St} (h : FolAt x c c') (h1 : ¬ (c'.done < x 17 ∧ c'.over c'.row = false)) : fol x 6 c = c' := by
  have e := h.eq
  have d0 := h.mid.ok.done
  rw [show 6 - c'.done.toNat = (5 - c'.done.toNat) + 1 by omega] at e
  rw [← e]
  show (if c'.done < x 17 ∧ c'.over c'.row = false then _ else _) = _
  rw [if_neg h1]
set_option maxRecDepth 100000 in
set_option maxHeartbeats 1000000 in
theorem followL_any (aa : Option Addr) (ab ao cap : Nat) (x : Nat → Int) (b : Nat) (c : St) (w : World) (h : Cp w b c) (D : Byts w aa ab ao 22 cap x) (hne : ab ≠ b) (h15 : (x 15 == 1) = false) (m : Mid c) (hd : c.done = 0) :
    Calls Tryz.prog 37 #[.pointer (some ⟨b, 0, none⟩), .slice aa 22 cap] w fun e w' => e = .returned (.bool (!(fol x 6 c).over (fol x 6 c).row)) ∧ Cp w' b (fol x 6 c) ∧ Fr b w w' := by
  obtain rfl := D.ad (by omega)
  have l1 := D.lc
  have l2 : cap ≤ 9223372036854775807 := by have := D.cm; unfold maxLen at this; omega
  have HX : Hid (∀ k, 0 ≤ x k ∧ x k ≤ 255) := D.u8
  have HD : Hid (∀ w', Fr b w w' → ∀ k, k < 22 → w'.cell? ⟨ab, ao + k, none⟩ = some (.int .u8 (x k))) := fun w' f k hk => (f.cell (World.block_lt_of_cell? _ _ (D.cell k hk)) hne).trans (D.cell k hk)
  have H0 : Hid (Cp w b c ∧ Fr b w w ∧ FolAt x c c) := ⟨h, Fr.refl b w, m, by rw [hd]; rfl⟩
  have k15 := HD.out w (Fr.refl b w) 15 (by omega)
  have p14 : w.cell? ⟨b, 14, none⟩ = some (.int .u8 c.phase) := h.cell 14
  have hp0 : (c.phase == 0) = false := beq_eq_false_iff_ne.2 m.go
  obtain ⟨cf, hcf⟩ : ∃ cf, cf = fol x 6 c := ⟨_, rfl⟩
  have HF : Hid (fol x 6 c = cf) := hcf.symm
  rw [← hcf]
  clear h D m hd hcf
  go_enter Tryz.func37, Tryz.ntmps37
  go_wp2_with fail
  clear k15 p14
  go_loopw [] (fun wr => ∃ c', Hid (Cp wr b c' ∧ Fr b w wr ∧ FolAt x c c')) (fun wr => 6 - doneAt wr b)
  case atStart => exact ⟨c, H0⟩
  case round =>
    obtain ⟨c', M⟩ := hrel
    have q16 : wr.cell? ⟨b, 16, none⟩ = some (.int .u8 c'.done) := M.out.1.cell 16
    have q17 := HD.out wr M.out.2.1 17 (by omega)
    clear H0
    have HRo : Hid (∀ W, Cp W b c' → Calls Tryz.prog 30 #[.pointer (some ⟨b, 0, none⟩)] W fun e w' => e = .returned (.agg c'.row.cells) ∧ Up W w') := fun W hW => row_any b c' W hW M.out.2.2.mid.ok
    have HOv : Hid (∀ W, Cp W b c' → Calls Tryz.prog 31 #[.pointer (some ⟨b, 0, none⟩), .agg c'.row.cells] W fun e w' => e = .returned (.bool (c'.over c'.row)) ∧ Up W w') := fun W hW => over_any c'.row b c' W hW M.out.2.2.mid.ok (row_sure c')
    obtain ⟨R, hR⟩ : ∃ R, R = c'.row := ⟨_, rfl⟩
    obtain ⟨ov, hov⟩ : ∃ ov, ov = c'.over c'.row := ⟨_, rfl⟩
    rw [← hov, ← hR] at HOv
    rw [← hR] at HRo
    have HV : Hid (c'.over c'.row = ov) := hov.symm
    clear hov hR
    unfold Row.cells at HRo HOv
    by_cases hlt : c'.done < x 17
    · have d1 : decide (c'.done < x 17) = true := decide_eq_true hlt
      have HL : Hid (c'.done < x 17) := hlt
      clear hlt
      have HSS : Hid (∀ w', Up wr w' → w'.cell? ⟨b, 16, none⟩ = some (.int .u8 c'.done) ∧ w'.cell? ⟨ab, ao + 17, none⟩ = some (.int .u8 (x 17))) := fun w' u => by
        rw [u.cell M.out.1.lt, u.cell (World.block_lt_of_cell? _ _ q17)]
        exact ⟨q16, q17⟩
      go_wp2_with fail
      refine wp_region_held_drew (S := fun w' => w'.cell? ⟨b, 16, none⟩ = some (.int .u8 c'.done) ∧ w'.cell? ⟨ab, ao + 17, none⟩ = some (.int .u8 (x 17))) (by kernel_rfl) (HSS.out _ (Up.refl wr).drew) (fun hHeld => ?_)
      have HU1 : Hid (Up wr wr.drew) := (Up.refl wr).drew
      generalize World.drew wr = w1 at HU1 hHeld ⊢
      clear q16 q17
      refine wpAnyH_take (i := 0) (v := ?_) (by simp only [List.getElem?_toArray, List.getElem?_cons_zero]; rfl) (by kernel_rfl) (by kernel_rfl) (by kernel_rfl) (by intro _ _ _ h; exact h) (Or.inl ⟨by rfl, ?_⟩) (by assumption) ?_
      rotate_left
      · (intro w hSw; (try dsimp only at hSw); obtain ⟨hS0, hS1⟩ := hSw; go_simp <;> with_reducible rfl)
      try simp only [Act.put, List.setIfInBounds_toArray, List.set_cons_zero, List.set_cons_succ]
      refine wpAnyH_take (i := 1) (v := ?_) (by simp only [List.getElem?_toArray, List.getElem?_cons_succ, List.getElem?_cons_zero]; rfl) (by kernel_rfl) (by kernel_rfl) (by kernel_rfl) (by intro _ _ _ h; exact h) (Or.inl ⟨by rfl, ?_⟩) (by assumption) ?_
      rotate_left
      · (intro w hSw; (try dsimp only at hSw); obtain ⟨hS0, hS1⟩ := hSw; go_simp <;> with_reducible rfl)
      try simp only [Act.put, List.setIfInBounds_toArray, List.set_cons_zero, List.set_cons_succ]
      refine wpAnyH_take (i := 2) (v := ?_) (by simp only [List.getElem?_toArray, List.getElem?_cons_succ, List.getElem?_cons_zero]; rfl) (by kernel_rfl) (by kernel_rfl) (by kernel_rfl) (by intro _ _ _ h; exact h) (Or.inl ⟨by rfl, ?_⟩) (by assumption) ?_
      rotate_left
      · (intro w hSw; (try dsimp only at hSw); obtain ⟨hS0, hS1⟩ := hSw; go_simp <;> with_reducible rfl)
      try simp only [Act.put, List.setIfInBounds_toArray, List.set_cons_zero, List.set_cons_succ]
      refine wpAnyH_take (i := 3) (v := ?_) (by simp only [List.getElem?_toArray, List.getElem?_cons_succ, List.getElem?_cons_zero]; rfl) (by kernel_rfl) (by kernel_rfl) (by kernel_rfl) (by intro _ _ _ h; exact h) (Or.inl ⟨by rfl, ?_⟩) (by assumption) ?_
      rotate_left
      · (intro w hSw; (try dsimp only at hSw); obtain ⟨hS0, hS1⟩ := hSw; go_simp <;> with_reducible rfl)
      try simp only [Act.put, List.setIfInBounds_toArray, List.set_cons_zero, List.set_cons_succ]
      refine wpAnyH_take (i := 4) (v := ?_) (by simp only [List.getElem?_toArray, List.getElem?_cons_succ, List.getElem?_cons_zero]; rfl) (by kernel_rfl) (by kernel_rfl) (by kernel_rfl) (by intro _ _ _ h; exact h) (Or.inl ⟨by rfl, ?_⟩) (by assumption) ?_
      rotate_left
      · (intro w hSw; (try dsimp only at hSw); obtain ⟨hS0, hS1⟩ := hSw; go_simp <;> with_reducible rfl)
      try simp only [Act.put, List.setIfInBounds_toArray, List.set_cons_zero, List.set_cons_succ]
      refine wpAnyH_take (i := 5) (v := ?_) (by simp only [List.getElem?_toArray, List.getElem?_cons_succ, List.getElem?_cons_zero]; rfl) (by kernel_rfl) (by kernel_rfl) (by kernel_rfl) (by intro _ _ _ h; exact h) (Or.inl ⟨by rfl, ?_⟩) (by assumption) ?_
      rotate_left
      · (intro w hSw; (try dsimp only at hSw); obtain ⟨hS0, hS1⟩ := hSw; go_simp <;> with_reducible rfl)
      try simp only [Act.put, List.setIfInBounds_toArray, List.set_cons_zero, List.set_cons_succ]
      refine wpAnyH_take (i := 6) (v := ?_) (by simp only [List.getElem?_toArray, List.getElem?_cons_succ, List.getElem?_cons_zero]; rfl) (by kernel_rfl) (by kernel_rfl) (by kernel_rfl) (by intro _ _ _ h; exact h) (Or.inl ⟨by rfl, ?_⟩) (by assumption) ?_
      rotate_left
      · (intro w hSw; (try dsimp only at hSw); obtain ⟨hS0, hS1⟩ := hSw; go_simp <;> with_reducible rfl)
      try simp only [Act.put, List.setIfInBounds_toArray, List.set_cons_zero, List.set_cons_succ]
      refine wpAnyH_take (i := 7) (v := ?_) (by simp only [List.getElem?_toArray, List.getElem?_cons_succ, List.getElem?_cons_zero]; rfl) (by kernel_rfl) (by kernel_rfl) (by kernel_rfl) (by intro _ _ _ h; exact h) (Or.inl ⟨by rfl, ?_⟩) (by assumption) ?_
      rotate_left
      · (intro w hSw; (try dsimp only at hSw); obtain ⟨hS0, hS1⟩ := hSw; go_simp <;> with_reducible rfl)
      try simp only [Act.put, List.setIfInBounds_toArray, List.set_cons_zero, List.set_cons_succ]
      refine wpAnyH_take (i := 8) (v := ?_) (by simp only [List.getElem?_toArray, List.getElem?_cons_succ, List.getElem?_cons_zero]; rfl) (by kernel_rfl) (by kernel_rfl) (by kernel_rfl) (by intro _ _ _ h; exact h) (Or.inl ⟨by rfl, ?_⟩) (by assumption) ?_
      rotate_left
      · (intro w hSw; (try dsimp only at hSw); obtain ⟨hS0, hS1⟩ := hSw; go_simp <;> with_reducible rfl)
      try simp only [Act.put, List.setIfInBounds_toArray, List.set_cons_zero, List.set_cons_succ]
      refine wpAnyH_take (i := 9) (v := ?_) (by simp only [List.getElem?_toArray, List.getElem?_cons_succ, List.getElem?_cons_zero]; rfl) (by kernel_rfl) (by kernel_rfl) (by kernel_rfl) (by intro _ _ _ h; exact h) (Or.inl ⟨by rfl, ?_⟩) (by assumption) ?_
      rotate_left
      · (intro w hSw; (try dsimp only at hSw); obtain ⟨hS0, hS1⟩ := hSw; go_simp <;> with_reducible rfl)
      try simp only [Act.put, List.setIfInBounds_toArray, List.set_cons_zero, List.set_cons_succ]
      refine wpAnyH_take (i := 10) (v := ?_) (by simp only [List.getElem?_toArray, List.getElem?_cons_succ, List.getElem?_cons_zero]; rfl) (by kernel_rfl) (by kernel_rfl) (by kernel_rfl) (by intro _ _ _ h; exact h) (Or.inl ⟨by rfl, ?_⟩) (by assumption) ?_
      rotate_left
      · (intro w hSw; (try dsimp only at hSw); obtain ⟨hS0, hS1⟩ := hSw; go_simp <;> with_reducible rfl)
      try simp only [Act.put, List.setIfInBounds_toArray, List.set_cons_zero, List.set_cons_succ]
      refine wpAnyH_take (i := 11) (v := ?_) (by simp only [List.getElem?_toArray, List.getElem?_cons_succ, List.getElem?_cons_zero]; rfl) (by kernel_rfl) (by kernel_rfl) (by kernel_rfl) (by intro _ _ _ h; exact h) (Or.inl ⟨by rfl, ?_⟩) (by assumption) ?_
      rotate_left
      · (intro w hSw; (try dsimp only at hSw); obtain ⟨hS0, hS1⟩ := hSw; go_simp <;> with_reducible rfl)
      try simp only [Act.put, List.setIfInBounds_toArray, List.set_cons_zero, List.set_cons_succ]
      refine wpAnyH_ready (rs := [12]) (by kernel_rfl) (by simp) ?_
      refine AllReadyH.cons (by simp only [List.getElem?_toArray, List.getElem?_cons_succ, List.getElem?_cons_zero]; rfl) (fun KK hK => ?_) AllReadyH.nil
      go_simp
      refine Calls.mono (HRo.out w1 (M.out.1.up HU1.out)) ?_
      rintro e w2 ⟨rfl, u2⟩
      have HU2 : Hid (Up wr w2) := HU1.out.trans u2
      clear u2 HU1
      refine hK.out _ _ (HSS.out _ HU2.out) (fun hHeld => ?_)
      clear hK KK
      try simp only [Act.put, List.setIfInBounds_toArray, List.set_cons_zero, List.set_cons_succ]
      refine wpAnyH_ready (rs := [13]) (by kernel_rfl) (by simp) ?_
      refine AllReadyH.cons (by simp only [List.getElem?_toArray, List.getElem?_cons_succ, List.getElem?_cons_zero]; rfl) (fun KK hK => ?_) AllReadyH.nil
      go_simp
      refine Calls.mono (HOv.out w2 (M.out.1.up HU2.out)) ?_
      rintro e w3 ⟨rfl, u3⟩
      have HU3 : Hid (Up wr w3) := HU2.out.trans u3
      clear u3 HU2
      refine hK.out _ _ (HSS.out _ HU3.out) (fun hHeld => ?_)
      clear hK KK
      try simp only [Act.put, List.setIfInBounds_toArray, List.set_cons_zero, List.set_cons_succ]
      refine wpAnyH_take (i := 14) (v := ?_) (by simp only [List.getElem?_toArray, List.getElem?_cons_succ, List.getElem?_cons_zero]; rfl) (by kernel_rfl) (by kernel_rfl) (by kernel_rfl) (by intro _ _ _ h; exact h) (Or.inl ⟨by rfl, ?_⟩) (by assumption) ?_
      rotate_left
      · (intro w hSw; (try dsimp only at hSw); obtain ⟨hS0, hS1⟩ := hSw; go_simp <;> with_reducible rfl)
      try simp only [Act.put, List.setIfInBounds_toArray, List.set_cons_zero, List.set_cons_succ]
      refine wpAnyH_take (i := 15) (v := ?_) (by simp only [List.getElem?_toArray, List.getElem?_cons_succ, List.getElem?_cons_zero]; rfl) (by kernel_rfl) (by kernel_rfl) (by kernel_rfl) (by intro _ _ _ h; exact h) (Or.inl ⟨by rfl, ?_⟩) (by assumption) ?_
      rotate_left
      · (intro w hSw; (try dsimp only at hSw); obtain ⟨hS0, hS1⟩ := hSw; go_simp <;> with_reducible rfl)
      try simp only [Act.put, List.setIfInBounds_toArray, List.set_cons_zero, List.set_cons_succ]
      refine wpAnyH_done (by kernel_rfl) ?_ _
      have H3 : Hid (Cp w3 b c' ∧ Fr b w w3) := ⟨M.out.1.up HU3.out, M.out.2.1.trans (Fr.ofUp HU3.out)⟩
      clear hHeld HU3 HSS
      cases ov
      · obtain ⟨k, hk⟩ : ∃ k : Nat, c'.many = (k : Int) := ⟨c'.many.toNat, by have := M.out.2.2.mid.ok.many; omega⟩
        have hk3 : k ≤ 3 := by have := M.out.2.2.mid.ok.many; omega
        have HK : Hid (c'.many = (k : Int)) := hk
        have q20 : w3.cell? ⟨b, 20, none⟩ = some (.int .u8 (k : Int)) := by rw [← hk]; exact H3.out.1.cell 20
        have HQ : Hid (∀ w', Up w3 w' → w'.cell? ⟨b, 20, none⟩ = some (.int .u8 (k : Int)) ∧ w'.cell? ⟨ab, ao + (18 + k), none⟩ = some (.int .u8 (x (18 + k))) ∧ w'.cell? ⟨ab, ao + 21, none⟩ = some (.int .u8 (x 21)) ∧ Cp w' b c' ∧ Fr b w w') := fun w' u => ⟨by rw [u.cell H3.out.1.lt]; exact q20, HD.out w' (H3.out.2.trans (Fr.ofUp u)) (18 + k) (by omega), HD.out w' (H3.out.2.trans (Fr.ofUp u)) 21 (by omega), H3.out.1.up u, H3.out.2.trans (Fr.ofUp u)⟩
        clear hk q20 H3
        have wk : IntKind.u8.wrap (18 + (k : Int)) = ((18 + k : Nat) : Int) := by rw [IntKind.wrap_u8]; omega
        have wl : (18 + (k : Int)) % 256 = ((18 + k : Nat) : Int) := by omega
        have hl : 18 + k < 22 := by omega
        have hl' : ((18 + k : Nat) : Int) < 22 := by omega
        have x21 := HX.out 21
        have a31 := u8_and31 (x 21) x21.1 x21.2
        go_wp2_with fail
        refine wp_still2 14 (by kernel_rfl) (by decide +kernel) ?_
        intro w4 hw4
        have HU4 : Hid (Up w3 w4) := by rw [hw4]; exact (Up.refl w3).drew
        clear hw4
        obtain ⟨q20, q18, q21, qc, qf⟩ := HQ.out w4 HU4.out
        have HC4 : Hid (Cp w4 b c' ∧ Fr b w w4) := ⟨qc, qf⟩
        clear qc qf
        simp only [List.take_succ_cons, List.take_zero, List.drop_succ_cons, List.drop_zero]
        repeat (go_big_quiet_step (fail))
        refine wpQuiet_nil ?_
        have HAc : Hid _ := act_any (x (18 + k)) (x 21 % 32) b c' w4 HC4.out.1 (M.out.2.2.mid.inv HV.out) M.out.2.2.mid.run (HX.out _) (by omega)
        go_wp2_with fail
        refine Calls.mono HAc.out ?_
        rintro e5 w5 ⟨rfl, h5, f5⟩
        have H5 : Hid (Cp w5 b (c'.act (x (18 + k)) (x 21 % 32)) ∧ Fr b w w5 ∧ FolAt x c (c'.act (x (18 + k)) (x 21 % 32))) := ⟨h5, HC4.out.2.trans f5, by
          have := M.out.2.2.step HX.out HL.out HV.out
          rw [HK.out] at this
          exact this⟩
        have HDn : Hid ((c'.act (x (18 + k)) (x 21 % 32)).done = c'.done + 1) := (M.out.2.2.mid.act HV.out _ _ (HX.out _)).2
        clear h5 f5 HAc HC4 q20 q18 q21
        go_wp2_with fail
        refine ⟨⟨_, H5⟩, ?_⟩
        rw [H5.out.1.doneAt, M.out.1.doneAt, HDn.out]
        have := M.out.2.2.mid.ok.done
        omega
      · have CPW := H3.out.1
        have FRW := H3.out.2
        go_wp2_with fail
        refine (HRo.out w3 CPW).mono ?_
        rintro e5 w5 ⟨rfl, u5⟩
        go_wp2_with fail
        refine (HOv.out w5 (CPW.up u5)).mono ?_
        rintro e6 w6 ⟨rfl, u6⟩
        go_wp2_with fail
        go_ret
        have ef := HF.out.symm.trans (M.out.2.2.stop (by rw [HV.out]; intro e; cases e.2))
        subst ef
        exact ⟨by rw [HV.out]; rfl, CPW.up (u5.trans u6), FRW.trans (Fr.ofUp (u5.trans u6))⟩
    · have d1 : decide (c'.done < x 17) = false := decide_eq_false hlt
      go_wp2_with (go_quiet (fail))
      have CPW : Cp (wr.drewN nq) b c' := M.out.1.up (Up.drewN _ _)
      have FRW : Fr b w (wr.drewN nq) := M.out.2.1.trans (Fr.ofUp (Up.drewN _ _))
      refine (HRo.out (wr.drewN nq) CPW).mono ?_
      rintro e5 w5 ⟨rfl, u5⟩
      go_wp2_with fail
      refine (HOv.out w5 (CPW.up u5)).mono ?_
      rintro e6 w6 ⟨rfl, u6⟩
      go_wp2_with fail
      go_ret
      have ef := HF.out.symm.trans (M.out.2.2.stop (fun e => by have := e.1; omega))
      subst ef
      exact ⟨by rw [HV.out]; rfl, CPW.up (u5.trans u6), FRW.trans (Fr.ofUp (u5.trans u6))⟩
set_option maxRecDepth 100000 in
set_option maxHeartbeats 1000000 in
theorem followA_any (aa : Option Addr) (ab ao cap : Nat) (x : Nat → Int) (b : Nat) (c : St) (w : World) (h : Cp w b c) (D : Byts w aa ab ao 22 cap x) (hne : ab ≠ b) (h15 : (x 15 == 1) = true) (vi : c.Inv) (hs : c.state = 0) (hp : c.phase = 0) :
    Calls Tryz.prog 37 #[.pointer (some ⟨b, 0, none⟩), .slice aa 22 cap] w fun e w' => e = .returned (.bool (!(fol x 6 (c.act (x 16) 0)).over (fol x 6 (c.act (x 16) 0)).row)) ∧ Cp w' b (fol x 6 (c.act (x 16) 0)) ∧ Fr b w w' := by
  obtain rfl := D.ad (by omega)
  have l1 := D.lc
  have l2 : cap ≤ 9223372036854775807 := by have := D.cm; unfold maxLen at this; omega
  have HX : Hid (∀ k, 0 ≤ x k ∧ x k ≤ 255) := D.u8
  have HD : Hid (∀ w', Fr b w w' → ∀ k, k < 22 → w'.cell? ⟨ab, ao + k, none⟩ = some (.int .u8 (x k))) := fun w' f k hk => (f.cell (World.block_lt_of_cell? _ _ (D.cell k hk)) hne).trans (D.cell k hk)
  have k15 := HD.out w (Fr.refl b w) 15 (by omega)
  have k16 := HD.out w (Fr.refl b w) 16 (by omega)
  have p11 : w.cell? ⟨b, 11, none⟩ = some (.int .i64 c.state) := h.cell 11
  rw [hs] at p11
  obtain ⟨a1, a2, a3, a4, a5⟩ := act_ok (x 16) 0 c vi hs (HX.out 16)
  have HA : Hid _ := act_any (x 16) 0 b c w h vi hs (HX.out 16) (by decide)
  have hdn : (c.act (x 16) 0).done = 0 := by
    have hn : c.next = 2 := by unfold St.next; rw [if_neg (by simp [hs]), if_pos hp]
    unfold St.act
    rw [if_pos hn]
    rfl
  have hmid : Mid (c.act (x 16) 0) := ⟨a1, a2, a3, a5, a4⟩
  generalize c.act (x 16) 0 = c1 at HA hdn hmid ⊢
  obtain ⟨cf, hcf⟩ : ∃ cf, cf = fol x 6 c1 := ⟨_, rfl⟩
  have HF : Hid (fol x 6 c1 = cf) := hcf.symm
  rw [← hcf]
  have HM : Hid (Mid c1 ∧ c1.done = 0) := ⟨hmid, hdn⟩
  have hp0 : (c1.phase == 0) = false := beq_eq_false_iff_ne.2 hmid.go
  have hs0 : ((0 : Int) != 0) = false := rfl
  clear h D vi hcf a1 a2 a3 a4 a5 hmid hdn hs hp
  go_enter Tryz.func37, Tryz.ntmps37
  go_wp2_with fail
  refine Calls.mono HA.out ?_
  rintro e0 w1 ⟨rfl, h1, f1⟩
  have H0 : Hid (Cp w1 b c1 ∧ Fr b w w1 ∧ FolAt x c1 c1) := ⟨h1, f1, HM.out.1, by rw [HM.out.2]; rfl⟩
  have p14 : w1.cell? ⟨b, 14, none⟩ = some (.int .u8 c1.phase) := h1.cell 14
  clear h1 f1 HA k15 k16 p11
  go_wp2_with fail
  clear p14 HM
  go_loopw [] (fun wr => ∃ c', Hid (Cp wr b c' ∧ Fr b w wr ∧ FolAt x c1 c')) (fun wr => 6 - doneAt wr b)
  case atStart => exact ⟨c1, H0⟩
  case round =>
    obtain ⟨c', M⟩ := hrel
    have q16 : wr.cell? ⟨b, 16, none⟩ = some (.int .u8 c'.done) := M.out.1.cell 16
    have q17 := HD.out wr M.out.2.1 17 (by omega)
    clear H0
    have HRo : Hid (∀ W, Cp W b c' → Calls Tryz.prog 30 #[.pointer (some ⟨b, 0, none⟩)] W fun e w' => e = .returned (.agg c'.row.cells) ∧ Up W w') := fun W hW => row_any b c' W hW M.out.2.2.mid.ok
    have HOv : Hid (∀ W, Cp W b c' → Calls Tryz.prog 31 #[.pointer (some ⟨b, 0, none⟩), .agg c'.row.cells] W fun e w' => e = .returned (.bool (c'.over c'.row)) ∧ Up W w') := fun W hW => over_any c'.row b c' W hW M.out.2.2.mid.ok (row_sure c')
    obtain ⟨R, hR⟩ : ∃ R, R = c'.row := ⟨_, rfl⟩
    obtain ⟨ov, hov⟩ : ∃ ov, ov = c'.over c'.row := ⟨_, rfl⟩
    rw [← hov, ← hR] at HOv
    rw [← hR] at HRo
    have HV : Hid (c'.over c'.row = ov) := hov.symm
    clear hov hR
    unfold Row.cells at HRo HOv
    by_cases hlt : c'.done < x 17
    · have d1 : decide (c'.done < x 17) = true := decide_eq_true hlt
      have HL : Hid (c'.done < x 17) := hlt
      clear hlt
      have HSS : Hid (∀ w', Up wr w' → w'.cell? ⟨b, 16, none⟩ = some (.int .u8 c'.done) ∧ w'.cell? ⟨ab, ao + 17, none⟩ = some (.int .u8 (x 17))) := fun w' u => by
        rw [u.cell M.out.1.lt, u.cell (World.block_lt_of_cell? _ _ q17)]
        exact ⟨q16, q17⟩
      go_wp2_with fail
      refine wp_region_held_drew (S := fun w' => w'.cell? ⟨b, 16, none⟩ = some (.int .u8 c'.done) ∧ w'.cell? ⟨ab, ao + 17, none⟩ = some (.int .u8 (x 17))) (by kernel_rfl) (HSS.out _ (Up.refl wr).drew) (fun hHeld => ?_)
      have HU1 : Hid (Up wr wr.drew) := (Up.refl wr).drew
      generalize World.drew wr = w1 at HU1 hHeld ⊢
      clear q16 q17
      refine wpAnyH_take (i := 0) (v := ?_) (by simp only [List.getElem?_toArray, List.getElem?_cons_zero]; rfl) (by kernel_rfl) (by kernel_rfl) (by kernel_rfl) (by intro _ _ _ h; exact h) (Or.inl ⟨by rfl, ?_⟩) (by assumption) ?_
      rotate_left
      · (intro w hSw; (try dsimp only at hSw); obtain ⟨hS0, hS1⟩ := hSw; go_simp <;> with_reducible rfl)
      try simp only [Act.put, List.setIfInBounds_toArray, List.set_cons_zero, List.set_cons_succ]
      refine wpAnyH_take (i := 1) (v := ?_) (by simp only [List.getElem?_toArray, List.getElem?_cons_succ, List.getElem?_cons_zero]; rfl) (by kernel_rfl) (by kernel_rfl) (by kernel_rfl) (by intro _ _ _ h; exact h) (Or.inl ⟨by rfl, ?_⟩) (by assumption) ?_
      rotate_left
      · (intro w hSw; (try dsimp only at hSw); obtain ⟨hS0, hS1⟩ := hSw; go_simp <;> with_reducible rfl)
      try simp only [Act.put, List.setIfInBounds_toArray, List.set_cons_zero, List.set_cons_succ]
      refine wpAnyH_take (i := 2) (v := ?_) (by simp only [List.getElem?_toArray, List.getElem?_cons_succ, List.getElem?_cons_zero]; rfl) (by kernel_rfl) (by kernel_rfl) (by kernel_rfl) (by intro _ _ _ h; exact h) (Or.inl ⟨by rfl, ?_⟩) (by assumption) ?_
      rotate_left
      · (intro w hSw; (try dsimp only at hSw); obtain ⟨hS0, hS1⟩ := hSw; go_simp <;> with_reducible rfl)
      try simp only [Act.put, List.setIfInBounds_toArray, List.set_cons_zero, List.set_cons_succ]
      refine wpAnyH_take (i := 3) (v := ?_) (by simp only [List.getElem?_toArray, List.getElem?_cons_succ, List.getElem?_cons_zero]; rfl) (by kernel_rfl) (by kernel_rfl) (by kernel_rfl) (by intro _ _ _ h; exact h) (Or.inl ⟨by rfl, ?_⟩) (by assumption) ?_
      rotate_left
      · (intro w hSw; (try dsimp only at hSw); obtain ⟨hS0, hS1⟩ := hSw; go_simp <;> with_reducible rfl)
      try simp only [Act.put, List.setIfInBounds_toArray, List.set_cons_zero, List.set_cons_succ]
      refine wpAnyH_take (i := 4) (v := ?_) (by simp only [List.getElem?_toArray, List.getElem?_cons_succ, List.getElem?_cons_zero]; rfl) (by kernel_rfl) (by kernel_rfl) (by kernel_rfl) (by intro _ _ _ h; exact h) (Or.inl ⟨by rfl, ?_⟩) (by assumption) ?_
      rotate_left
      · (intro w hSw; (try dsimp only at hSw); obtain ⟨hS0, hS1⟩ := hSw; go_simp <;> with_reducible rfl)
      try simp only [Act.put, List.setIfInBounds_toArray, List.set_cons_zero, List.set_cons_succ]
      refine wpAnyH_take (i := 5) (v := ?_) (by simp only [List.getElem?_toArray, List.getElem?_cons_succ, List.getElem?_cons_zero]; rfl) (by kernel_rfl) (by kernel_rfl) (by kernel_rfl) (by intro _ _ _ h; exact h) (Or.inl ⟨by rfl, ?_⟩) (by assumption) ?_
      rotate_left
      · (intro w hSw; (try dsimp only at hSw); obtain ⟨hS0, hS1⟩ := hSw; go_simp <;> with_reducible rfl)
      try simp only [Act.put, List.setIfInBounds_toArray, List.set_cons_zero, List.set_cons_succ]
      refine wpAnyH_take (i := 6) (v := ?_) (by simp only [List.getElem?_toArray, List.getElem?_cons_succ, List.getElem?_cons_zero]; rfl) (by kernel_rfl) (by kernel_rfl) (by kernel_rfl) (by intro _ _ _ h; exact h) (Or.inl ⟨by rfl, ?_⟩) (by assumption) ?_
      rotate_left
      · (intro w hSw; (try dsimp only at hSw); obtain ⟨hS0, hS1⟩ := hSw; go_simp <;> with_reducible rfl)
      try simp only [Act.put, List.setIfInBounds_toArray, List.set_cons_zero, List.set_cons_succ]
      refine wpAnyH_take (i := 7) (v := ?_) (by simp only [List.getElem?_toArray, List.getElem?_cons_succ, List.getElem?_cons_zero]; rfl) (by kernel_rfl) (by kernel_rfl) (by kernel_rfl) (by intro _ _ _ h; exact h) (Or.inl ⟨by rfl, ?_⟩) (by assumption) ?_
      rotate_left
      · (intro w hSw; (try dsimp only at hSw); obtain ⟨hS0, hS1⟩ := hSw; go_simp <;> with_reducible rfl)
      try simp only [Act.put, List.setIfInBounds_toArray, List.set_cons_zero, List.set_cons_succ]
      refine wpAnyH_take (i := 8) (v := ?_) (by simp only [List.getElem?_toArray, List.getElem?_cons_succ, List.getElem?_cons_zero]; rfl) (by kernel_rfl) (by kernel_rfl) (by kernel_rfl) (by intro _ _ _ h; exact h) (Or.inl ⟨by rfl, ?_⟩) (by assumption) ?_
      rotate_left
      · (intro w hSw; (try dsimp only at hSw); obtain ⟨hS0, hS1⟩ := hSw; go_simp <;> with_reducible rfl)
      try simp only [Act.put, List.setIfInBounds_toArray, List.set_cons_zero, List.set_cons_succ]
      refine wpAnyH_take (i := 9) (v := ?_) (by simp only [List.getElem?_toArray, List.getElem?_cons_succ, List.getElem?_cons_zero]; rfl) (by kernel_rfl) (by kernel_rfl) (by kernel_rfl) (by intro _ _ _ h; exact h) (Or.inl ⟨by rfl, ?_⟩) (by assumption) ?_
      rotate_left
      · (intro w hSw; (try dsimp only at hSw); obtain ⟨hS0, hS1⟩ := hSw; go_simp <;> with_reducible rfl)
      try simp only [Act.put, List.setIfInBounds_toArray, List.set_cons_zero, List.set_cons_succ]
      refine wpAnyH_take (i := 10) (v := ?_) (by simp only [List.getElem?_toArray, List.getElem?_cons_succ, List.getElem?_cons_zero]; rfl) (by kernel_rfl) (by kernel_rfl) (by kernel_rfl) (by intro _ _ _ h; exact h) (Or.inl ⟨by rfl, ?_⟩) (by assumption) ?_
      rotate_left
      · (intro w hSw; (try dsimp only at hSw); obtain ⟨hS0, hS1⟩ := hSw; go_simp <;> with_reducible rfl)
      try simp only [Act.put, List.setIfInBounds_toArray, List.set_cons_zero, List.set_cons_succ]
      refine wpAnyH_take (i := 11) (v := ?_) (by simp only [List.getElem?_toArray, List.getElem?_cons_succ, List.getElem?_cons_zero]; rfl) (by kernel_rfl) (by kernel_rfl) (by kernel_rfl) (by intro _ _ _ h; exact h) (Or.inl ⟨by rfl, ?_⟩) (by assumption) ?_
      rotate_left
      · (intro w hSw; (try dsimp only at hSw); obtain ⟨hS0, hS1⟩ := hSw; go_simp <;> with_reducible rfl)
      try simp only [Act.put, List.setIfInBounds_toArray, List.set_cons_zero, List.set_cons_succ]
      refine wpAnyH_ready (rs := [12]) (by kernel_rfl) (by simp) ?_
      refine AllReadyH.cons (by simp only [List.getElem?_toArray, List.getElem?_cons_succ, List.getElem?_cons_zero]; rfl) (fun KK hK => ?_) AllReadyH.nil
      go_simp
      refine Calls.mono (HRo.out w1 (M.out.1.up HU1.out)) ?_
      rintro e w2 ⟨rfl, u2⟩
      have HU2 : Hid (Up wr w2) := HU1.out.trans u2
      clear u2 HU1
      refine hK.out _ _ (HSS.out _ HU2.out) (fun hHeld => ?_)
      clear hK KK
      try simp only [Act.put, List.setIfInBounds_toArray, List.set_cons_zero, List.set_cons_succ]
      refine wpAnyH_ready (rs := [13]) (by kernel_rfl) (by simp) ?_
      refine AllReadyH.cons (by simp only [List.getElem?_toArray, List.getElem?_cons_succ, List.getElem?_cons_zero]; rfl) (fun KK hK => ?_) AllReadyH.nil
      go_simp
      refine Calls.mono (HOv.out w2 (M.out.1.up HU2.out)) ?_
      rintro e w3 ⟨rfl, u3⟩
      have HU3 : Hid (Up wr w3) := HU2.out.trans u3
      clear u3 HU2
      refine hK.out _ _ (HSS.out _ HU3.out) (fun hHeld => ?_)
      clear hK KK
      try simp only [Act.put, List.setIfInBounds_toArray, List.set_cons_zero, List.set_cons_succ]
      refine wpAnyH_take (i := 14) (v := ?_) (by simp only [List.getElem?_toArray, List.getElem?_cons_succ, List.getElem?_cons_zero]; rfl) (by kernel_rfl) (by kernel_rfl) (by kernel_rfl) (by intro _ _ _ h; exact h) (Or.inl ⟨by rfl, ?_⟩) (by assumption) ?_
      rotate_left
      · (intro w hSw; (try dsimp only at hSw); obtain ⟨hS0, hS1⟩ := hSw; go_simp <;> with_reducible rfl)
      try simp only [Act.put, List.setIfInBounds_toArray, List.set_cons_zero, List.set_cons_succ]
      refine wpAnyH_take (i := 15) (v := ?_) (by simp only [List.getElem?_toArray, List.getElem?_cons_succ, List.getElem?_cons_zero]; rfl) (by kernel_rfl) (by kernel_rfl) (by kernel_rfl) (by intro _ _ _ h; exact h) (Or.inl ⟨by rfl, ?_⟩) (by assumption) ?_
      rotate_left
      · (intro w hSw; (try dsimp only at hSw); obtain ⟨hS0, hS1⟩ := hSw; go_simp <;> with_reducible rfl)
      try simp only [Act.put, List.setIfInBounds_toArray, List.set_cons_zero, List.set_cons_succ]
      refine wpAnyH_done (by kernel_rfl) ?_ _
      have H3 : Hid (Cp w3 b c' ∧ Fr b w w3) := ⟨M.out.1.up HU3.out, M.out.2.1.trans (Fr.ofUp HU3.out)⟩
      clear hHeld HU3 HSS
      cases ov
      · obtain ⟨k, hk⟩ : ∃ k : Nat, c'.many = (k : Int) := ⟨c'.many.toNat, by have := M.out.2.2.mid.ok.many; omega⟩
        have hk3 : k ≤ 3 := by have := M.out.2.2.mid.ok.many; omega
        have HK : Hid (c'.many = (k : Int)) := hk
        have q20 : w3.cell? ⟨b, 20, none⟩ = some (.int .u8 (k : Int)) := by rw [← hk]; exact H3.out.1.cell 20
        have HQ : Hid (∀ w', Up w3 w' → w'.cell? ⟨b, 20, none⟩ = some (.int .u8 (k : Int)) ∧ w'.cell? ⟨ab, ao + (18 + k), none⟩ = some (.int .u8 (x (18 + k))) ∧ w'.cell? ⟨ab, ao + 21, none⟩ = some (.int .u8 (x 21)) ∧ Cp w' b c' ∧ Fr b w w') := fun w' u => ⟨by rw [u.cell H3.out.1.lt]; exact q20, HD.out w' (H3.out.2.trans (Fr.ofUp u)) (18 + k) (by omega), HD.out w' (H3.out.2.trans (Fr.ofUp u)) 21 (by omega), H3.out.1.up u, H3.out.2.trans (Fr.ofUp u)⟩
        clear hk q20 H3
        have wk : IntKind.u8.wrap (18 + (k : Int)) = ((18 + k : Nat) : Int) := by rw [IntKind.wrap_u8]; omega
        have wl : (18 + (k : Int)) % 256 = ((18 + k : Nat) : Int) := by omega
        have hl : 18 + k < 22 := by omega
        have hl' : ((18 + k : Nat) : Int) < 22 := by omega
        have x21 := HX.out 21
        have a31 := u8_and31 (x 21) x21.1 x21.2
        go_wp2_with fail
        refine wp_still2 14 (by kernel_rfl) (by decide +kernel) ?_
        intro w4 hw4
        have HU4 : Hid (Up w3 w4) := by rw [hw4]; exact (Up.refl w3).drew
        clear hw4
        obtain ⟨q20, q18, q21, qc, qf⟩ := HQ.out w4 HU4.out
        have HC4 : Hid (Cp w4 b c' ∧ Fr b w w4) := ⟨qc, qf⟩
        clear qc qf
        simp only [List.take_succ_cons, List.take_zero, List.drop_succ_cons, List.drop_zero]
        repeat (go_big_quiet_step (fail))
        refine wpQuiet_nil ?_
        have HAc : Hid _ := act_any (x (18 + k)) (x 21 % 32) b c' w4 HC4.out.1 (M.out.2.2.mid.inv HV.out) M.out.2.2.mid.run (HX.out _) (by omega)
        go_wp2_with fail
        refine Calls.mono HAc.out ?_
        rintro e5 w5 ⟨rfl, h5, f5⟩
        have H5 : Hid (Cp w5 b (c'.act (x (18 + k)) (x 21 % 32)) ∧ Fr b w w5 ∧ FolAt x c1 (c'.act (x (18 + k)) (x 21 % 32))) := ⟨h5, HC4.out.2.trans f5, by
          have := M.out.2.2.step HX.out HL.out HV.out
          rw [HK.out] at this
          exact this⟩
        have HDn : Hid ((c'.act (x (18 + k)) (x 21 % 32)).done = c'.done + 1) := (M.out.2.2.mid.act HV.out _ _ (HX.out _)).2
        clear h5 f5 HAc HC4 q20 q18 q21
        go_wp2_with fail
        refine ⟨⟨_, H5⟩, ?_⟩
        rw [H5.out.1.doneAt, M.out.1.doneAt, HDn.out]
        have := M.out.2.2.mid.ok.done
        omega
      · have CPW := H3.out.1
        have FRW := H3.out.2
        go_wp2_with fail
        refine (HRo.out w3 CPW).mono ?_
        rintro e5 w5 ⟨rfl, u5⟩
        go_wp2_with fail
        refine (HOv.out w5 (CPW.up u5)).mono ?_
        rintro e6 w6 ⟨rfl, u6⟩
        go_wp2_with fail
        go_ret
        have ef := HF.out.symm.trans (M.out.2.2.stop (by rw [HV.out]; intro e; cases e.2))
        subst ef
        exact ⟨by rw [HV.out]; rfl, CPW.up (u5.trans u6), FRW.trans (Fr.ofUp (u5.trans u6))⟩
    · have d1 : decide (c'.done < x 17) = false := decide_eq_false hlt
      go_wp2_with (go_quiet (fail))
      have CPW : Cp (wr.drewN nq) b c' := M.out.1.up (Up.drewN _ _)
      have FRW : Fr b w (wr.drewN nq) := M.out.2.1.trans (Fr.ofUp (Up.drewN _ _))
      refine (HRo.out (wr.drewN nq) CPW).mono ?_
      rintro e5 w5 ⟨rfl, u5⟩
      go_wp2_with fail
      refine (HOv.out w5 (CPW.up u5)).mono ?_
      rintro e6 w6 ⟨rfl, u6⟩
      go_wp2_with fail
      go_ret
      have ef := HF.out.symm.trans (M.out.2.2.stop (fun e => by have := e.1; omega))
      subst ef
      exact ⟨by rw [HV.out]; rfl, CPW.up (u5.trans u6), FRW.trans (Fr.ofUp (u5.trans u6))⟩
end Go.Proofs.YtlgfpddiebdmaaaGreatDoor
/- Load, over the translation. No condition. -/
namespace Go.Proofs.YtlgfpddiebdmaaaGreatDoor
open Go.RowKit
set_option linter.unusedVariables false
theorem strN_inj {n : Nat} {f g : Nat → Int} (hf : ∀ k, 0 ≤ f k ∧ f k ≤ 255) (hg : ∀ k, 0 ≤ g k ∧ g k ≤ 255) (h : (strN n f).toList = (strN n g).toList) : ∀ k, k < n → f k = g k := by
  intro k hk
  unfold strN at h
  rw [Lib.strOfNums_toList, Lib.strOfNums_toList] at h
  have e : ((List.range' 0 n).map f).map (fun n => UInt8.ofNat n.toNat) = ((List.range' 0 n).map g).map (fun n => UInt8.ofNat n.toNat) := by
    exact h
  have e2 := congrArg (fun l => l[k]?) e
  simp only [List.getElem?_map, List.getElem?_range' hk, Option.map_some] at e2
  have e3 := Option.some.inj e2
  have e4 := congrArg UInt8.toNat e3
  have b1 := hf k
  have b2 := hg k
  simp only [UInt8.toNat_ofNat', Nat.zero_add, Nat.one_mul] at e4
  have q1 : (f k).toNat % 2 ^ 8 = (f k).toNat := Nat.mod_eq_of_lt (by omega)
  have q2 : (g k).toNat % 2 ^ 8 = (g k).toNat := Nat.mod_eq_of_lt (by omega)
  rw [q1, q2] at e4
  omega
theorem strN_congr {n : Nat} {f g : Nat → Int} (h : ∀ k, k < n → f k = g k) : strN n f = strN n g := by
  unfold strN
  congr 1
  apply List.map_congr_left
  intro k hk
  have := List.mem_range'_1.1 hk
  exact h k (by omega)
theorem Byts.conv {w : World} {ab ao n c : Nat} {f : Nat → Int} (h : Byts w (some ⟨ab, ao, none⟩) ab ao n c f) : (convert 28 9 (.slice (some ⟨ab, ao, none⟩) n c)).run Tryz.prog w = .ok (.string (strN n f)) w := by
  refine run_convert_bytes_arg w 28 5 Tryz.underlying28 Tryz.underlying5 ab ao n c ((List.range' 0 n).map f) (by rw [List.length_map, List.length_range']) (fun i hi => ?_) 9 Tryz.underlying9
  rw [h.cell i hi]
  congr 2
  unfold List.getD
  rw [List.getElem?_map, List.getElem?_range' hi]
  simp
def eqB (f g : Nat → Int) : Bool := (strN 22 f).toList == (strN 22 g).toList
theorem eqB_yes {f g : Nat → Int} (h : ∀ k, k < 22 → f k = g k) : eqB f g = true := by unfold eqB; rw [strN_congr h]; exact beq_self_eq_true _
theorem eqB_to {f g : Nat → Int} (hf : ∀ k, 0 ≤ f k ∧ f k ≤ 255) (hg : ∀ k, 0 ≤ g k ∧ g k ≤ 255) (h : eqB f g = true) : ∀ k, k < 22 → f k = g k := strN_inj hf hg (eq_of_beq h)
set_option maxRecDepth 100000 in
set_option maxHeartbeats 600000 in
theorem beq_any (ga ab ao cap : Nat) (f g : Nat → Int) (w : World) (h : NmAt w ga 22 f) (D : Byts w (some ⟨ab, ao, none⟩) ab ao 22 cap g) :
    Calls Tryz.prog 38 #[.slice (some ⟨ga, 0, none⟩) 22 22, .slice (some ⟨ab, ao, none⟩) 22 cap] w fun e w' => e = .returned (.bool (eqB f g)) ∧ Up w w' := by
  have c1 := h.conv 22
  have c2 := D.conv
  have HE : Hid (eqB f g = ((strN 22 f).toList == (strN 22 g).toList)) := rfl
  generalize eqB f g = r at HE ⊢
  generalize strN 22 f = S at *
  generalize strN 22 g = T at *
  clear h D
  go_enter Tryz.func38, Tryz.ntmps38
  go_wp2_with fail
  go_ret
  exact ⟨by rw [HE.out]; try rfl, by first | exact Up.refl w | exact (Up.refl w).drew | exact Up.drewN _ _⟩
end Go.Proofs.YtlgfpddiebdmaaaGreatDoor
/- Load, over the translation. No condition. -/
namespace Go.Proofs.YtlgfpddiebdmaaaGreatDoor
open Go.RowKit
set_option linter.unusedVariables false
/-- what follow answers, and leaves -/
def folR (x : Nat → Int) (c : St) : Bool × St :=
  if x 15 = 1 then (if c.state = 0 then (!(fol x 6 (c.act (x 16) 0)).over (fol x 6 (c.act (x 16) 0)).row, fol x 6 (c.act (x 16) 0)) else (false, c))
  else if c.phase = 0 then (true, c) else (!(fol x 6 c).over (fol x 6 c).row, fol x 6 c)
set_option maxRecDepth 100000 in
set_option maxHeartbeats 600000 in
theorem follow_0 (aa : Option Addr) (ab ao cap : Nat) (x : Nat → Int) (b : Nat) (c : St) (w : World) (h : Cp w b c) (D : Byts w aa ab ao 22 cap x) (h15 : (x 15 == 1) = true) (hs : (c.state != 0) = true) :
    Calls Tryz.prog 37 #[.pointer (some ⟨b, 0, none⟩), .slice aa 22 cap] w fun e w' => e = .returned (.bool false) ∧ Cp w' b c ∧ Fr b w w' := by
  obtain rfl := D.ad (by omega)
  have l1 := D.lc
  have l2 : cap ≤ 9223372036854775807 := by have := D.cm; unfold maxLen at this; omega
  have k15 := D.cell 15 (by omega)
  have p11 : w.cell? ⟨b, 11, none⟩ = some (.int .i64 c.state) := h.cell 11
  have HC : Hid (Cp w b c) := h
  clear h D
  go_enter Tryz.func37, Tryz.ntmps37
  go_wp2_with fail
  go_ret
  exact ⟨rfl, HC.out, Fr.refl b w⟩
set_option maxRecDepth 100000 in
set_option maxHeartbeats 600000 in
theorem follow_1 (aa : Option Addr) (ab ao cap : Nat) (x : Nat → Int) (b : Nat) (c : St) (w : World) (h : Cp w b c) (D : Byts w aa ab ao 22 cap x) (h15 : (x 15 == 1) = false) (hp : (c.phase == 0) = true) :
    Calls Tryz.prog 37 #[.pointer (some ⟨b, 0, none⟩), .slice aa 22 cap] w fun e w' => e = .returned (.bool true) ∧ Cp w' b c ∧ Fr b w w' := by
  obtain rfl := D.ad (by omega)
  have l1 := D.lc
  have l2 : cap ≤ 9223372036854775807 := by have := D.cm; unfold maxLen at this; omega
  have k15 := D.cell 15 (by omega)
  have p14 : w.cell? ⟨b, 14, none⟩ = some (.int .u8 c.phase) := h.cell 14
  have HC : Hid (Cp w b c) := h
  clear h D
  go_enter Tryz.func37, Tryz.ntmps37
  go_wp2_with fail
  go_ret
  exact ⟨rfl, HC.out, Fr.refl b w⟩
/-- it goes on from there -/
structure Bg (x : Nat → Int) (c : St) : Prop where
  b : Bgn x c
  xb : ∀ k, 0 ≤ x k ∧ x k ≤ 255
  sn : c.snd = true
theorem Bg.okw {x : Nat → Int} {c : St} (h : Bgn x c) (hx : ∀ k, 0 ≤ x k ∧ x k ≤ 255) (hr : ∀ k, 8 ≤ k → 0 ≤ c.r k ∧ c.r k ≤ 255) : c.Okw := by
  refine ⟨fun k => ?_, ?_, ?_, ?_⟩
  · by_cases hk : k < 8
    · rw [h.r k hk]; exact hx _
    · exact hr k (by omega)
  · rw [h.sp]; exact wordP_b _ _ (hx _) (hx _)
  · rw [h.pc]; exact wordP_b _ _ (hx _) (hx _)
  · rw [h.state]; exact hx _
theorem snd_wth {c : St} (h : c.snd = true) : c.r 6 % 16 = 0 ∧ c.state ≤ 3 := by
  unfold St.snd St.wth at h
  simp only [Bool.and_eq_true, beq_iff_eq, decide_eq_true_eq] at h
  exact h.1
theorem snd_two {c : St} (h : c.snd = true) (hp : c.phase = 2) : c.ime = true ∧ c.state = 0 ∧ c.due = false ∧ c.twice = false := by
  unfold St.snd at h
  rw [hp] at h
  revert h
  cases c.due <;> cases c.twice <;> cases c.ime <;> simp
theorem Bgn.inv {x : Nat → Int} {c : St} (h : Bgn x c) (o : c.Okw) (hs : c.snd = true) : c.Inv := by
  have hw := snd_wth hs
  have hp : c.phase = 0 ∨ c.phase = 2 := by
    rw [h.phase]
    split
    · exact Or.inr rfl
    · exact Or.inl rfl
  refine ⟨⟨o.r, o.sp, o.pc, ⟨o.st.1, hw.2⟩, by omega, by rw [h.code]; decide, by rw [h.done]; decide, fun k => by rw [h.rd]; unfold zf; decide, by rw [h.many]; decide, by rw [h.asked]; decide⟩, by rw [h.many, h.done]; decide, by rw [h.asked]; exact Or.inl rfl, ?_⟩
  rcases hp with hp | hp
  · exact Or.inl hp
  · refine Or.inr ?_
    unfold St.row
    rw [if_pos hp, h.done]
    decide
theorem follow_any (aa : Option Addr) (ab ao cap : Nat) (x : Nat → Int) (b : Nat) (c : St) (w : World) (h : Cp w b c) (D : Byts w aa ab ao 22 cap x) (hne : ab ≠ b) (B : Bgn x c) (v : c.Inv) (hs : c.snd = true) :
    Calls Tryz.prog 37 #[.pointer (some ⟨b, 0, none⟩), .slice aa 22 cap] w fun e w' => e = .returned (.bool (folR x c).1) ∧ Cp w' b (folR x c).2 ∧ Fr b w w' := by
  unfold folR
  by_cases h15 : x 15 = 1
  · rw [if_pos h15]
    by_cases h0 : c.state = 0
    · rw [if_pos h0]
      exact followA_any aa ab ao cap x b c w h D hne (by rw [h15]; rfl) v h0 (by rw [B.phase, if_neg (by omega)])
    · rw [if_neg h0]
      exact follow_0 aa ab ao cap x b c w h D (by rw [h15]; rfl) (bne_iff_ne.2 h0)
  · rw [if_neg h15]
    by_cases hp : c.phase = 0
    · rw [if_pos hp]
      exact follow_1 aa ab ao cap x b c w h D (beq_eq_false_iff_ne.2 h15) (by rw [hp]; rfl)
    · rw [if_neg hp]
      have h2 : c.phase = 2 := by have := B.phase; split at this <;> omega
      exact followL_any aa ab ao cap x b c w h D hne (beq_eq_false_iff_ne.2 h15) ⟨v.ok, v.md, v.ask, (snd_two hs h2).2.1, hp⟩ B.done
/-- what comes of the way is a processor that may be -/
theorem fol_mid (x : Nat → Int) (hx : ∀ k, 0 ≤ x k ∧ x k ≤ 255) : ∀ n c, Mid c → Mid (fol x n c)
  | 0, c, h => h
  | n + 1, c, h => by
    show Mid (if c.done < x 17 ∧ c.over c.row = false then fol x n (c.act (x (18 + c.many.toNat)) (x 21 % 32)) else c)
    split
    · rename_i hc
      exact fol_mid x hx n _ (h.act hc.2 _ _ (hx _)).1
    · exact h
theorem folR_ok {x : Nat → Int} {c : St} (hx : ∀ k, 0 ≤ x k ∧ x k ≤ 255) (B : Bgn x c) (v : c.Inv) (hs : c.snd = true) : (folR x c).2.Ok ∧ ((folR x c).1 = true → (folR x c).2.Inv) := by
  unfold folR
  by_cases h15 : x 15 = 1
  · rw [if_pos h15]
    by_cases h0 : c.state = 0
    · rw [if_pos h0]
      obtain ⟨a1, a2, a3, a4, a5⟩ := act_ok (x 16) 0 c v h0 (hx 16)
      have m := fol_mid x hx 6 _ (show Mid (c.act (x 16) 0) from ⟨a1, a2, a3, a5, a4⟩)
      exact ⟨m.ok, fun e => m.inv (by simpa using e)⟩
    · rw [if_neg h0]
      exact ⟨v.ok, fun e => by cases e⟩
  · rw [if_neg h15]
    by_cases hp : c.phase = 0
    · rw [if_pos hp]
      exact ⟨v.ok, fun _ => v⟩
    · rw [if_neg hp]
      have h2 : c.phase = 2 := by have := B.phase; split at this <;> omega
      have m := fol_mid x hx 6 _ (show Mid c from ⟨v.ok, v.md, v.ask, (snd_two hs h2).2.1, hp⟩)
      exact ⟨m.ok, fun e => m.inv (by simpa using e)⟩
end Go.Proofs.YtlgfpddiebdmaaaGreatDoor
/- Load, over the translation. No condition. -/
namespace Go.Proofs.YtlgfpddiebdmaaaGreatDoor
open Go.RowKit
set_option linter.unusedVariables false
set_option linter.unusedSimpArgs false
/-- what Load takes -/
def ldP (x : Nat → Int) (c : St) : Option St := if c.snd = true ∧ (folR x c).1 = true ∧ eqB (folR x c).2.enc x = true then some (folR x c).2 else none
def LoadAns (w : World) (b : Nat) (x : Nat → Int) (c : St) (e : Ending) (w' : World) : Prop :=
  (ldP x c = none ∧ e = .returned (.int .i64 33) ∧ Up w w') ∨ ∃ t, ldP x c = some t ∧ e = .returned (.int .i64 0) ∧ Cp w' b t ∧ Fr b w w'
theorem cpNew (w2 : World) (c : St) : ∀ W3 old, (w2.alloc (.cells old 70)).setRow w2.heap.size (cpCells c) = W3 → Cp W3 w2.heap.size c ∧ Up w2 W3 := by
  rintro W3 old rfl
  exact ⟨setRow_heap _ _ _ _ _ _ (heap_alloc_new w2 _), ((Up.refl w2).alloc _).setRow (Nat.le_refl _) _⟩
theorem cpRange {w : World} {g : Nat} {c : St} (h : Cp w g c) : w.rangeAt g 0 (cpCells c).toList := fun k v hk => by
  rw [h.cell, Nat.zero_add, ← Array.getElem?_toList]
  exact hk
set_option maxRecDepth 100000 in
set_option maxHeartbeats 600000 in
theorem load_len (aa : Option Addr) (n cap : Nat) (b : Nat) (w : World) (hn : n ≠ 22) (hn2 : n ≤ 9223372036854775807) :
    Calls Tryz.prog 20 #[.pointer (some ⟨b, 0, none⟩), .slice aa n cap] w fun e w' => e = .returned (.int .i64 33) ∧ Up w w' := by
  have h1 : ((n : Int) != 22) = true := bne_iff_ne.2 (by omega)
  go_enter Tryz.func20, Tryz.ntmps20
  go_wp2_with fail
  go_ret
  exact ⟨rfl, Up.refl w⟩
set_option maxRecDepth 100000 in
set_option maxHeartbeats 1000000 in
theorem load_any (aa : Option Addr) (ab ao cap : Nat) (x : Nat → Int) (b : Nat) (s c : St) (w : World) (h : Cp w b s) (D : Byts w aa ab ao 22 cap x) (B : Bgn x c) (o : c.Okw) :
    Calls Tryz.prog 20 #[.pointer (some ⟨b, 0, none⟩), .slice aa 22 cap] w (LoadAns w b x c) := by
  have HC : Hid (Cp w b s) := h
  have HD : Hid (∀ w', Up w w' → Byts w' aa ab ao 22 cap x) := fun w' u => D.upT u
  have HN : Hid (ab < w.heap.size) := World.block_lt_of_cell? _ _ (D.cell 0 (by omega))
  have HB : Hid (Bgn x c) := B
  have HO : Hid c.Okw := o
  have HX : Hid (∀ k, 0 ≤ x k ∧ x k ≤ 255) := D.u8
  clear h D B o
  go_enter Tryz.func20, Tryz.ntmps20
  go_wp2_with fail
  refine (began_any aa ab ao cap x c w (HD.out w (Up.refl w)) HB.out).mono ?_
  rintro e w2 ⟨rfl, u2⟩
  have H2 : Hid (Up w w2) := u2
  clear u2
  have HN2 : Hid (∀ o, (w2.alloc o).heap[w2.heap.size]? = some o) := heap_alloc_new w2
  have HX2 : Hid _ := cpNew w2 c
  go_wp2_with (refine wpList_store_rowTo rfl 70 _ _ rfl rfl w2.heap.size (cpCells c) rfl rfl 70 _ (HN2.out _) (by kernel_rfl) rfl (by simp [cpCells, Value.oneCell']) ?_
               generalize hW3 : World.setRow _ _ _ = W3
               obtain ⟨hc3, hu3⟩ := HX2.out W3 _ hW3
               have H3 : Hid (Up w W3) := H2.out.trans hu3
               clear hW3 hu3
               generalize hg : w2.heap.size = g at hc3 ⊢
               have HC3 : Hid (Cp W3 g c ∧ w.heap.size ≤ g) := ⟨hc3, by rw [← hg]; exact H2.out.size⟩
               clear hc3 hg HX2 HN2 H2)
  refine (sound_any g c W3 HC3.out.1 HO.out).mono ?_
  rintro e w4 ⟨rfl, u4⟩
  have H4 : Hid (Up w w4 ∧ Cp w4 g c) := ⟨H3.out.trans u4, HC3.out.1.up u4⟩
  clear u4 H3
  cases hs : c.snd
  · go_wp2_with fail
    go_ret
    exact Or.inl ⟨by unfold ldP; rw [if_neg (by rw [hs]; simp)], rfl, H4.out.1⟩
  · have HV : Hid c.Inv := HB.out.inv HO.out hs
    have HS : Hid (c.snd = true) := hs
    have HR : Hid _ := folR_ok HX.out HB.out HV.out hs
    clear hs
    have HFo : Hid _ := follow_any aa ab ao cap x g c w4 H4.out.2 (HD.out w4 H4.out.1) (by have := HN.out; have := HC3.out.2; omega) HB.out HV.out HS.out
    have HLd : Hid (ldP x c = if (folR x c).1 = true ∧ eqB (folR x c).2.enc x = true then some (folR x c).2 else none) := by
      unfold ldP
      by_cases hq : (folR x c).1 = true ∧ eqB (folR x c).2.enc x = true
      · rw [if_pos hq]; exact if_pos ⟨HS.out, hq⟩
      · rw [if_neg hq]; exact if_neg (fun e => hq e.2)
    generalize (folR x c).1 = ok at HFo HR HLd
    generalize (folR x c).2 = t at HFo HR HLd
    go_wp2_with fail
    refine Calls.mono HFo.out ?_
    rintro e w5 ⟨rfl, h5, f5⟩
    have H5 : Hid (Up w w5 ∧ Cp w5 g t) := ⟨Fr.up H4.out.1 HC3.out.2 f5, h5⟩
    clear h5 f5 HFo H4
    cases ok
    · go_wp2_with fail
      go_ret
      exact Or.inl ⟨by rw [HLd.out, if_neg (by simp)], rfl, H5.out.1⟩
    · have HSt : Hid _ := state_any g t w5 H5.out.2 HR.out.1
      go_wp2_with fail
      refine Calls.mono HSt.out ?_
      rintro e w6 ⟨rfl, n6, u6⟩
      generalize w5.heap.size = q at n6 ⊢
      have H6 : Hid (NmAt w6 q 22 t.enc ∧ Up w w6 ∧ Cp w6 g t) := ⟨n6, H5.out.1.trans u6, H5.out.2.up u6⟩
      clear n6 u6 HSt H5
      have D6 := HD.out w6 H6.out.2.1
      obtain rfl := D6.ad (by omega)
      have HEq : Hid _ := beq_any q ab ao cap t.enc x w6 H6.out.1 D6
      clear D6
      go_wp2_with fail
      refine Calls.mono HEq.out ?_
      rintro e w7 ⟨rfl, u7⟩
      have H7 : Hid (Up w w7 ∧ Cp w7 g t) := ⟨H6.out.2.1.trans u7, H6.out.2.2.up u7⟩
      clear u7 HEq H6
      cases hq : eqB t.enc x
      · go_wp2_with fail
        go_ret
        exact Or.inl ⟨by rw [HLd.out, if_neg (by rw [hq]; simp)], rfl, H7.out.1⟩
      · have HQ : Hid (eqB t.enc x = true) := hq
        have HCb : Hid (Cp w7 b s) := HC.out.up H7.out.1
        clear hq
        go_wp2_with (first | (refine wpList_load_mid rfl 70 _ rfl g 0 rfl (cpCells t).toList _ (cpRange H7.out.2) Tryz.underlying70 rfl (by kernel_rfl) ?_) | (refine wpList_store_rowTo rfl 70 _ _ rfl rfl b (cpCells t) rfl rfl 70 _ HCb.out (by kernel_rfl) rfl (by simp [cpCells, Value.oneCell']) ?_))
        go_ret
        refine Or.inr ⟨t, by rw [HLd.out, if_pos ⟨by first | rfl | trivial, HQ.out⟩], rfl, setRow_heap _ _ _ _ _ _ HCb.out, (Fr.ofUp H7.out.1).trans (Fr.refl b w7).setRow⟩
end Go.Proofs.YtlgfpddiebdmaaaGreatDoor
/- What State tells, Load takes. No condition. -/
namespace Go.Proofs.YtlgfpddiebdmaaaGreatDoor
open Go.RowKit
set_option linter.unusedVariables false
theorem bI3 (a b c : Bool) : 0 ≤ bI a 1 + bI b 2 + bI c 4 ∧ bI a 1 + bI b 2 + bI c 4 ≤ 255 := by cases a <;> cases b <;> cases c <;> decide
theorem ifB {c : Prop} [Decidable c] {a b : Int} (h1 : 0 ≤ a ∧ a ≤ 255) (h2 : 0 ≤ b ∧ b ≤ 255) : 0 ≤ (if c then a else b) ∧ (if c then a else b) ≤ 255 := by
  split
  · exact h1
  · exact h2
theorem enc_b {t : St} (o : t.Ok) (k : Nat) : 0 ≤ t.enc k ∧ t.enc k ≤ 255 := by
  have h1 := o.sp
  have h2 := o.pc
  have h3 := o.state
  have h4 := o.phase
  have h5 := o.done
  have h6 := o.asked
  unfold St.enc
  refine ifB (by decide) (ifB (o.r _) (ifB ?_ (ifB ?_ (ifB ?_ (ifB ?_ (ifB (bI3 _ _ _) (ifB ?_ (ifB ?_ (ifB o.code (ifB ?_ (ifB (o.rd _) ?_)))))))))))
  · omega
  · omega
  · omega
  · omega
  · omega
  · omega
  · omega
  · omega
theorem enc_r (t : St) (k : Nat) (hk : k < 8) : t.enc (k + 1) = t.r k := by
  unfold St.enc
  rw [if_neg (by omega), if_pos (by omega), Nat.add_sub_cancel]
theorem enc_9 (t : St) : t.enc 9 = t.sp % 256 := rfl
theorem enc_10 (t : St) : t.enc 10 = t.sp / 256 := rfl
theorem enc_11 (t : St) : t.enc 11 = t.pc % 256 := rfl
theorem enc_12 (t : St) : t.enc 12 = t.pc / 256 := rfl
theorem enc_13 (t : St) : t.enc 13 = bI t.ime 1 + bI t.due 2 + bI t.twice 4 := rfl
theorem enc_14 (t : St) : t.enc 14 = t.state := rfl
theorem enc_15 (t : St) : t.enc 15 = t.phase := rfl
theorem enc_16 (t : St) : t.enc 16 = t.code := rfl
theorem enc_17 (t : St) : t.enc 17 = t.done := rfl
theorem enc_21 (t : St) : t.enc 21 = t.asked := rfl
theorem enc_rd (t : St) (k : Nat) (hk : k < 3) : t.enc (18 + k) = t.rd k := by
  have : k = 0 ∨ k = 1 ∨ k = 2 := by omega
  rcases this with rfl | rfl | rfl <;> rfl
theorem low_one {a : Int} (h : oneBit a) : lowBit (a % 32) = a := by
  rcases h with rfl | rfl | rfl | rfl | rfl | rfl <;> decide
/-- how it began -/
def St.bg (t : St) : St := if t.phase = 2 then t.disp else t.rest
theorem bg_bgn {t : St} (o : t.Ok) : Bgn t.enc t.bg := by
  have hf : t.bg.r = t.r ∧ t.bg.sp = t.sp ∧ t.bg.pc = t.pc ∧ t.bg.ime = t.ime ∧ t.bg.due = t.due ∧ t.bg.twice = t.twice ∧ t.bg.state = t.state ∧ t.bg.phase = (if t.phase = 2 then 2 else 0) ∧ t.bg.code = 0 ∧ t.bg.done = 0 ∧ t.bg.rd = zf ∧ t.bg.many = 0 ∧ t.bg.asked = 0 := by
    unfold St.bg
    split <;> exact ⟨rfl, rfl, rfl, rfl, rfl, rfl, rfl, rfl, rfl, rfl, rfl, rfl, rfl⟩
  obtain ⟨f1, f2, f3, f4, f5, f6, f7, f8, f9, f10, f11, f12, f13⟩ := hf
  have h1 := o.sp
  have h2 := o.pc
  refine ⟨fun k hk => by rw [f1, enc_r t k hk], ?_, ?_, ?_, ?_, ?_, by rw [f7]; rfl, by rw [f8]; rfl, f9, f10, f11, f12, f13⟩
  · rw [f2, enc_9, enc_10]; unfold wordP; omega
  · rw [f3, enc_11, enc_12]; unfold wordP; omega
  · rw [f4, enc_13]; cases t.ime <;> cases t.due <;> cases t.twice <;> decide
  · rw [f5, enc_13]; cases t.ime <;> cases t.due <;> cases t.twice <;> decide
  · rw [f6, enc_13]; cases t.ime <;> cases t.due <;> cases t.twice <;> decide
theorem bg_snd {t : St} (o : t.Ok) (s : Sn t) : t.bg.snd = true := by
  have hw : t.bg.wth = true := by
    unfold St.wth
    have h1 : t.bg.r 6 % 16 = 0 := by unfold St.bg; split <;> exact s.f16
    have h2 : t.bg.state ≤ 3 := by unfold St.bg; split <;> exact o.state.2
    simp [h1, h2]
  unfold St.snd
  rw [hw, Bool.true_and]
  have hp := o.phase
  by_cases h2 : t.phase = 2
  · obtain ⟨a, b⟩ := s.d2 h2
    have hd : t.due = false := by
      cases hq : t.due
      · rfl
      · have := (s.dt (Or.inl hq)).2.2.2; exact absurd h2 this
    have ht : t.twice = false := by
      cases hq : t.twice
      · rfl
      · have := (s.dt (Or.inr hq)).2.2.2; exact absurd h2 this
    have e : t.bg = t.disp := if_pos h2
    rw [e]
    show (if t.due || t.twice then _ else ((2 : Int) != 2) || (t.ime && (t.state == 0))) = true
    rw [hd, ht, a, b]
    rfl
  · have e : t.bg = t.rest := if_neg h2
    rw [e]
    show (if t.due || t.twice then (t.due != t.twice) && !t.ime && (t.state == 0) && ((0 : Int) != 2) else ((0 : Int) != 2) || (t.ime && (t.state == 0))) = true
    cases hd : t.due <;> cases ht : t.twice
    · rfl
    · obtain ⟨a, b, c, _⟩ := s.dt (Or.inr ht)
      rw [b, c]; rfl
    · obtain ⟨a, b, c, _⟩ := s.dt (Or.inl hd)
      rw [b, c]; rfl
    · obtain ⟨a, _⟩ := s.dt (Or.inl hd)
      rw [hd, ht] at a
      exact absurd rfl a
theorem ext_self {t : St} (v : t.Inv) : Ext t.enc t := by
  have hm := v.ok.many
  refine ⟨fun k hk => enc_rd t k (by omega), fun _ _ => low_one v.ask, by rw [enc_17]; exact Int.le_refl _⟩
theorem fol_self {t c : St} (v : t.Inv) (hw : Wy c t) (hc : c.done = 0) : fol t.enc 6 c = t := by
  have hd := v.ok.done
  have := fol_wy hw hc t.enc (ext_self v) (6 - t.done.toNat)
  rw [show t.done.toNat + (6 - t.done.toNat) = 6 by omega] at this
  rw [this]
  exact fol_stop (enc_17 t).symm _
/-- what a processor tells is taken, and is that processor -/
theorem ld_rep {t : St} (v : t.Inv) (r : Rep t) : ldP t.enc t.bg = some t := by
  have hs := bg_snd v.ok r.sn
  have hq : folR t.enc t.bg = (true, t) := by
    unfold folR
    rw [enc_15, enc_16]
    rcases r.way with ⟨hp, hr⟩ | ⟨hp, ho, hw⟩ | ⟨hp, ho, hw⟩
    · have e : t.bg = t := by unfold St.bg; rw [if_neg (by omega)]; exact hr
      rw [if_neg (by omega), e, if_pos hp]
    · have e : t.bg = t.rest := by unfold St.bg; rw [if_neg (by omega)]
      have hst : t.bg.state = 0 := by rw [e]; exact r.sn.d1 hp
      have ha : t.bg.act t.code 0 = t.begun t.code := by
        have hn : t.bg.next = 2 := by
          unfold St.next
          rw [if_neg (by simp [hst]), if_pos (by rw [e]; rfl)]
        unfold St.act
        rw [if_pos hn, e]
        rfl
      rw [if_pos hp, if_pos hst, ha, fol_self v hw rfl, ho]
      rfl
    · have e : t.bg = t.disp := by unfold St.bg; rw [if_pos hp]
      rw [if_neg (by omega), e, if_neg (by show ¬ (2 : Int) = 0; decide), fol_self v hw rfl, ho]
      rfl
  unfold ldP
  rw [hq]
  exact if_pos ⟨hs, rfl, eqB_yes (fun _ _ => rfl)⟩
theorem bg_okw {t : St} (o : t.Ok) : t.bg.Okw := by
  have h3 := o.state
  unfold St.bg
  split
  · exact ⟨o.r, o.sp, o.pc, ⟨h3.1, by show t.state ≤ 255; omega⟩⟩
  · exact ⟨o.r, o.sp, o.pc, ⟨h3.1, by show t.state ≤ 255; omega⟩⟩
theorem load_rep {w : World} {aa : Option Addr} {ab ao cap b : Nat} {s t : St} (h : Cp w b s) (D : Byts w aa ab ao 22 cap t.enc) (v : t.Inv) (r : Rep t) :
    Calls Tryz.prog 20 #[.pointer (some ⟨b, 0, none⟩), .slice aa 22 cap] w fun e w' => e = .returned (.int .i64 0) ∧ Cp w' b t ∧ Fr b w w' :=
  (load_any aa ab ao cap t.enc b s t.bg w h D (bg_bgn v.ok) (bg_okw v.ok)).mono fun e w' ha => by
    rcases ha with ⟨h1, _⟩ | ⟨u, h1, h2, h3, h4⟩
    · rw [ld_rep v r] at h1; cases h1
    · rw [ld_rep v r] at h1
      cases h1
      exact ⟨h2, h3, h4⟩
end Go.Proofs.YtlgfpddiebdmaaaGreatDoor
/- Lists that carry a mark. No condition. -/
namespace Go.Proofs.YtlgfpddiebdmaaaGreatDoor
open Go.RowKit
set_option linter.unusedVariables false
set_option maxRecDepth 100000 in
set_option maxHeartbeats 1000000 in
/-- all of a list is the mark -/
theorem allBytes_any {W : World} {la : Option Addr} {lb lo n c m M : Nat} (D : Byts W la lb lo n c (fun _ => (m : Int))) (hmM : m = M % 251) (hM : M ≤ 1000000) : Calls Tryz.prog 86 #[.slice la n c, .int .i64 M] W fun e w' => e = .returned (.bool true) ∧ Up W w' := by
  have HD : Hid (∀ w', Up W w' → Byts w' la lb lo n c (fun _ => (m : Int))) := fun w' u => D.upT u
  have l1 := D.lc
  have l2 : c ≤ 9223372036854775807 := by have := D.cm; unfold maxLen at this; omega
  have H0 : Hid (Up W W) := Up.refl W
  clear D
  have hm0 : (0 : Int) ≤ (m : Int) := by omega
  have hm1 : (m : Int) < 251 := by omega
  have r1 : ((M : Int)).tmod 251 = (m : Int) := by rw [Int.tmod_eq_emod_of_nonneg (by omega)]; omega
  have r2 : (M : Int) % 251 = (m : Int) := by omega
  have r3 : (m : Int) % 256 = (m : Int) := by omega
  clear hmM
  go_enter Tryz.func86, Tryz.ntmps86
  go_wp2_with fail
  go_loopw [5] (fun I wr => ∃ i : Nat, i ≤ n ∧ I = .int .i64 i ∧ Hid (Up W wr)) (fun I _ => n - (intOf I).toNat)
  case atStart => exact ⟨0, by omega, rfl, H0⟩
  case round =>
    clear H0
    obtain ⟨i, hi, rfl, M0⟩ := hrel
    by_cases hlt : i < n
    · have d1 : decide ((i : Int) < (n : Int)) = true := decide_eq_true (by omega)
      have e1 : (i : Int) < (n : Int) := by omega
      have bd := HD.out wr M0.out
      obtain rfl := bd.ad (by omega)
      have kd := bd.cell i hlt
      clear bd HD
      go_wp2_with fail
      refine ⟨⟨i + 1, by omega, ?_, M0⟩, ?_⟩
      · first | rfl | (simp; done)
      · simp [intOf]
        omega
    · have d1 : decide ((i : Int) < (n : Int)) = false := decide_eq_false (by omega)
      go_wp2_with fail
      go_ret
      exact ⟨by first | rfl | (simp; done), M0.out⟩
/-- a list of marks -/
def Mk (K : Nat → Prop) (w : World) (m : Nat) (v : Value) : Prop := ∃ (aa : Option Addr) (ab ao n c : Nat), v = .slice aa n c ∧ Byts w aa ab ao n c (fun _ => (m : Int)) ∧ (0 < n → ¬ K ab)
theorem Mk.up {K : Nat → Prop} {w w' : World} {m : Nat} {v : Value} (h : Mk K w m v) (u : Up w w') : Mk K w' m v := by
  obtain ⟨aa, ab, ao, n, c, e, B, k⟩ := h
  exact ⟨aa, ab, ao, n, c, e, B.upT u, k⟩
theorem Mk.fr {K : Nat → Prop} {w w' : World} {m c : Nat} {v : Value} (h : Mk K w m v) (f : Fr c w w') (hc : K c) : Mk K w' m v := by
  obtain ⟨aa, ab, ao, n, c', e, B, k⟩ := h
  exact ⟨aa, ab, ao, n, c', e, ⟨B.lc, B.cm, B.ad, B.u8, fun i hi => (f.cell (World.block_lt_of_cell? _ _ (B.cell i hi)) (fun e => k (by omega) (by have e' : ab = c := e; rw [e']; exact hc))).trans (B.cell i hi)⟩, k⟩
theorem Mk.mono {K K' : Nat → Prop} {w : World} {m : Nat} {v : Value} (h : Mk K w m v) (hk : ∀ b, b < w.heap.size → K' b → K b) : Mk K' w m v := by
  obtain ⟨aa, ab, ao, n, c, e, B, k⟩ := h
  exact ⟨aa, ab, ao, n, c, e, B, fun h0 h1 => k h0 (hk ab (World.block_lt_of_cell? _ _ (B.cell 0 h0)) h1)⟩
set_option maxRecDepth 100000 in
set_option maxHeartbeats 1000000 in
theorem still_any {K : Nat → Prop} {W : World} {m M : Nat} {v0 v1 v2 v3 : Value} (h0 : Mk K W m v0) (h1 : Mk K W m v1) (h2 : Mk K W m v2) (h3 : Mk K W m v3) (hmM : m = M % 251) (hM : M ≤ 1000000) : Calls Tryz.prog 43 #[.agg #[v0, v1, v2, v3, .int .i64 M]] W fun e w' => e = .returned (.bool true) ∧ Up W w' := by
  obtain ⟨a0, b0, o0, n0, c0, rfl, B0, _⟩ := h0
  obtain ⟨a1, b1, o1, n1, c1, rfl, B1, _⟩ := h1
  obtain ⟨a2, b2, o2, n2, c2, rfl, B2, _⟩ := h2
  obtain ⟨a3, b3, o3, n3, c3, rfl, B3, _⟩ := h3
  have HB : Hid (∀ w, Up W w → Byts w a0 b0 o0 n0 c0 (fun _ => (m : Int)) ∧ Byts w a1 b1 o1 n1 c1 (fun _ => (m : Int)) ∧ Byts w a2 b2 o2 n2 c2 (fun _ => (m : Int)) ∧ Byts w a3 b3 o3 n3 c3 (fun _ => (m : Int))) := fun w u => ⟨B0.upT u, B1.upT u, B2.upT u, B3.upT u⟩
  clear B0 B1 B2 B3
  go_enter Tryz.func43, Tryz.ntmps43
  go_wp2_with fail
  have H1 : Hid (Up W (W.alloc (Obj.cells #[.slice a0 n0 c0, .slice a1 n1 c1, .slice a2 n2 c2, .slice a3 n3 c3, .int .i64 M] 95)) ∧ (W.alloc (Obj.cells #[.slice a0 n0 c0, .slice a1 n1 c1, .slice a2 n2 c2, .slice a3 n3 c3, .int .i64 M] 95)).heap[W.heap.size]? = some (.cells #[.slice a0 n0 c0, .slice a1 n1 c1, .slice a2 n2 c2, .slice a3 n3 c3, .int .i64 M] 95 (0, 0))) := ⟨(Up.refl W).alloc _, heap_alloc_new W _⟩
  generalize World.alloc W _ = w1 at H1 ⊢
  generalize W.heap.size = sb at H1 ⊢
  refine (allBytes_any (HB.out _ H1.out.1).1 hmM hM).mono ?_
  rintro e w2 ⟨rfl, u2⟩
  have H2 : Hid (Up W w2 ∧ w2.heap[sb]? = some (.cells #[.slice a0 n0 c0, .slice a1 n1 c1, .slice a2 n2 c2, .slice a3 n3 c3, .int .i64 M] 95 (0, 0))) := ⟨H1.out.1.trans u2, (u2.block sb (Array.getElem?_eq_some_iff.1 H1.out.2).1).trans H1.out.2⟩
  clear u2 H1
  have k2 : w2.cell? ⟨sb, 1, none⟩ = some (.slice a1 n1 c1) := by rw [cell_of_row _ _ _ _ _ _ H2.out.2]; rfl
  have m2 : w2.cell? ⟨sb, 4, none⟩ = some (.int .i64 M) := by rw [cell_of_row _ _ _ _ _ _ H2.out.2]; rfl
  go_wp2_with fail
  refine (allBytes_any (HB.out _ H2.out.1).2.1 hmM hM).mono ?_
  rintro e w3 ⟨rfl, u3⟩
  have H3 : Hid (Up W w3 ∧ w3.heap[sb]? = some (.cells #[.slice a0 n0 c0, .slice a1 n1 c1, .slice a2 n2 c2, .slice a3 n3 c3, .int .i64 M] 95 (0, 0))) := ⟨H2.out.1.trans u3, (u3.block sb (Array.getElem?_eq_some_iff.1 H2.out.2).1).trans H2.out.2⟩
  clear u3 H2
  have k3 : w3.cell? ⟨sb, 2, none⟩ = some (.slice a2 n2 c2) := by rw [cell_of_row _ _ _ _ _ _ H3.out.2]; rfl
  have m3 : w3.cell? ⟨sb, 4, none⟩ = some (.int .i64 M) := by rw [cell_of_row _ _ _ _ _ _ H3.out.2]; rfl
  go_wp2_with fail
  refine (allBytes_any (HB.out _ H3.out.1).2.2.1 hmM hM).mono ?_
  rintro e w4 ⟨rfl, u4⟩
  have H4 : Hid (Up W w4 ∧ w4.heap[sb]? = some (.cells #[.slice a0 n0 c0, .slice a1 n1 c1, .slice a2 n2 c2, .slice a3 n3 c3, .int .i64 M] 95 (0, 0))) := ⟨H3.out.1.trans u4, (u4.block sb (Array.getElem?_eq_some_iff.1 H3.out.2).1).trans H3.out.2⟩
  clear u4 H3
  have k4 : w4.cell? ⟨sb, 3, none⟩ = some (.slice a3 n3 c3) := by rw [cell_of_row _ _ _ _ _ _ H4.out.2]; rfl
  have m4 : w4.cell? ⟨sb, 4, none⟩ = some (.int .i64 M) := by rw [cell_of_row _ _ _ _ _ _ H4.out.2]; rfl
  go_wp2_with fail
  refine (allBytes_any (HB.out _ H4.out.1).2.2.2 hmM hM).mono ?_
  rintro e w5 ⟨rfl, u5⟩
  have H5 : Hid (Up W w5 ∧ w5.heap[sb]? = some (.cells #[.slice a0 n0 c0, .slice a1 n1 c1, .slice a2 n2 c2, .slice a3 n3 c3, .int .i64 M] 95 (0, 0))) := ⟨H4.out.1.trans u5, (u5.block sb (Array.getElem?_eq_some_iff.1 H4.out.2).1).trans H4.out.2⟩
  clear u5 H4
  go_wp2_with fail
  go_ret
  exact ⟨by first | rfl | (simp; done), H5.out.1⟩
end Go.Proofs.YtlgfpddiebdmaaaGreatDoor
/- A list is written over with its mark, and appended to. No condition. -/
namespace Go.Proofs.YtlgfpddiebdmaaaGreatDoor
open Go.RowKit
set_option linter.unusedVariables false
def zB : Array Value := #[.slice none 0 0, .slice none 0 0, .slice none 0 0, .slice none 0 0, .int .i64 0]
theorem Ow.moreW {W w w' : World} {F : Nat → Int} {n : Nat} {v : Value} (h : Ow W F n v w) (u : Up w w') : Ow W F n v w' := h.moreU u
theorem rowL_get {F : Nat → Int} {n j : Nat} {u : Value} (h : (rowL F n)[j]? = some u) : j < n ∧ u = .int .u8 (F j) := by
  have hj : j < n := by
    have := (List.getElem?_eq_some_iff.1 h).1
    rwa [rowL_len] at this
  rw [rowL_at F n j hj] at h
  exact ⟨hj, (Option.some.inj h).symm⟩
theorem NmAt.olds {w : World} {g n : Nat} {F : Nat → Int} (h : NmAt w g n F) : ∀ b, some (⟨g, 0, none⟩ : Addr) = some b → ∀ j u, (rowL F n)[j]? = some u → w.cell? (b.add j) = some u := by
  intro b e j u hu
  obtain rfl := Option.some.inj e
  obtain ⟨hj, rfl⟩ := rowL_get hu
  rw [Addr.add_lit, Nat.zero_add]
  exact h.cell j hj
theorem up_grown {w w' : World} (h : w.grownBy w' none) : Up w w' := ⟨h.os, h.output, h.size, fun k hk => h.block k hk (fun e => by cases e)⟩
theorem Ow.grown {w w' : World} {o : Obj} {F : Nat → Int} {n : Nat} {v : Value} (ho : w'.ownsRow (w.heap.size + 1) 5 1 v n (rowL F n)) (hg : (w.alloc o).grownBy w' none) : Ow w F n v w' :=
  ⟨World.ownsRow.mono ho (Nat.le_succ _), ((Up.refl w).alloc o).trans (up_grown hg)⟩
theorem Ow.mks {W w : World} {n m : Nat} {v : Value} (h : Ow W (fun _ => (m : Int)) n v w) (hm : m < 251) (K : Nat → Prop) (hK : ∀ b, K b → b < W.heap.size) : Mk K w m v := by
  obtain ⟨oa, ob, oc, hv, B, hb⟩ := own_byts h.own (fun _ => ⟨by omega, by omega⟩)
  exact ⟨oa, ob, 0, n, oc, hv, B, fun h0 hk => by have := (hb h0).1; have := hK ob hk; omega⟩
theorem rowM_app (m n k : Nat) : rowL (fun _ => (m : Int)) n ++ List.replicate k (.int .u8 (m : Int)) = rowL (fun _ => (m : Int)) (n + k) := by
  induction k with
  | zero => simp
  | succ k ih => rw [List.replicate_succ', ← List.append_assoc, ih, show n + (k + 1) = n + k + 1 by omega, rowL_succ]
set_option maxRecDepth 100000 in
set_option maxHeartbeats 2000000 in
theorem ownBytes_any {W : World} {g n m M : Nat} {F : Nat → Int} (h : NmAt W g n F) (hF : ∀ k, 0 ≤ F k ∧ F k ≤ 255) (hn : n ≤ 65536) (hmM : m = M % 251) (hM : M ≤ 1000000) : Calls Tryz.prog 123 #[.slice (some ⟨g, 0, none⟩) n n, .int .i64 M] W fun e w' => ∃ v1 v2 v3, e = .returned (.agg #[.slice (some ⟨g, 0, none⟩) n n, v1, v2, v3, .int .i64 M]) ∧ Fr g W w' ∧ NmAt w' g n (fun _ => (m : Int)) ∧ ∀ K : Nat → Prop, (∀ b, K b → b < W.heap.size) → Mk K w' m v1 ∧ Mk K w' m v2 ∧ Mk K w' m v3 := by
  have hie : Tryz.prog.info? 5 = some Tryz.t5 := by kernel_rfl
  have hm : m < 251 := by omega
  have hm0 : (0 : Int) ≤ (m : Int) := by omega
  have hm1 : (m : Int) < 251 := by omega
  have r1 : ((M : Int)).tmod 251 = (m : Int) := by rw [Int.tmod_eq_emod_of_nonneg (by omega)]; omega
  have r2 : (M : Int) % 251 = (m : Int) := by omega
  have r3 : (m : Int) % 256 = (m : Int) := by omega
  clear hmM
  have HG : Hid (g < W.heap.size) := h.lt
  have H1 : Hid (NmAt (W.alloc (Obj.cells zB 95)) g n (fun k => if k < 0 then (m : Int) else F k) ∧ Fr g W (W.alloc (Obj.cells zB 95)) ∧ (W.alloc (Obj.cells zB 95)).heap[W.heap.size]? = some (.cells zB 95 (0, 0))) := ⟨(h.of_block (((Up.refl W).alloc (Obj.cells zB 95)).block g h.lt)).congr (fun k _ => by rw [if_neg (by omega)]), Fr.ofUp ((Up.refl W).alloc _), heap_alloc_new W _⟩
  clear h
  go_enter Tryz.func123, Tryz.ntmps123
  go_wp2_with fail
  change Hid (NmAt (W.alloc (Obj.cells #[.slice none 0 0, .slice none 0 0, .slice none 0 0, .slice none 0 0, .int .i64 0] 95)) g n _ ∧ Fr g W (W.alloc (Obj.cells #[.slice none 0 0, .slice none 0 0, .slice none 0 0, .slice none 0 0, .int .i64 0] 95)) ∧ (W.alloc (Obj.cells #[.slice none 0 0, .slice none 0 0, .slice none 0 0, .slice none 0 0, .int .i64 0] 95)).heap[W.heap.size]? = _) at H1
  generalize World.alloc W _ = w1 at H1 ⊢
  have HR : Hid (W.heap.size ≤ W.heap.size ∧ g < W.heap.size) := ⟨Nat.le_refl _, HG.out⟩
  generalize hrb : W.heap.size = rb at HR H1 ⊢
  have HRB : Hid (W.heap.size = rb) := hrb
  clear hrb
  go_loopw [6] (fun I wr => ∃ i : Nat, i ≤ n ∧ I = .int .i64 i ∧ Hid (NmAt wr g n (fun k => if k < i then (m : Int) else F k) ∧ Fr g W wr ∧ wr.heap[rb]? = some (.cells zB 95 (0, 0)))) (fun I _ => n - (intOf I).toNat)
  case atStart => exact ⟨0, by omega, rfl, H1⟩
  case round =>
    clear H1
    obtain ⟨i, hi, rfl, M0⟩ := hrel
    by_cases hlt : i < n
    · have d1 : decide ((i : Int) < (n : Int)) = true := decide_eq_true (by omega)
      have e1 : (i : Int) < (n : Int) := by omega
      have kc := M0.out.1.cell i hlt
      have kf := M0.out.1.fz i
      have HS : Hid (NmAt (wr.setCell ⟨g, i, none⟩ (.int .u8 m)) g n (fun k => if k < i + 1 then (m : Int) else F k) ∧ Fr g W (wr.setCell ⟨g, i, none⟩ (.int .u8 m)) ∧ (wr.setCell ⟨g, i, none⟩ (.int .u8 m)).heap[rb]? = some (.cells zB 95 (0, 0))) := ⟨(M0.out.1.set i hlt m).congr (fun k _ => by
        by_cases h1 : k = i
        · rw [if_pos h1, if_pos (by omega)]
        · rw [if_neg h1]
          by_cases h2 : k < i
          · rw [if_pos h2, if_pos (by omega)]
          · rw [if_neg h2, if_neg (by omega)]), M0.out.2.1.setCell, ((Fr.refl g wr).setCell.block rb (Array.getElem?_eq_some_iff.1 M0.out.2.2).1 (by have := HG.out; have := HRB.out; omega)).trans M0.out.2.2⟩
      clear M0
      go_wp2_with fail
      refine ⟨⟨i + 1, by omega, ?_, HS⟩, ?_⟩
      · first | rfl | (simp; done)
      · simp [intOf]
        omega
    · have d1 : decide ((i : Int) < (n : Int)) = false := decide_eq_false (by omega)
      obtain rfl : i = n := by omega
      have M1 : Hid (NmAt wr g i (fun k => (m : Int)) ∧ Fr g W wr ∧ wr.heap[rb]? = some (.cells zB 95 (0, 0))) := ⟨M0.out.1.congr (fun k hk => if_pos hk), M0.out.2⟩
      clear M0 hlt hi d1
      generalize wr = wq at M1 ⊢
      go_wp2_with (at_builtin; refine wpList_append_grows _ rfl _ _ 28 rfl 5 Tryz.t5 (.int .u8 0) 1 1 Tryz.underlying28 hie rfl rfl rfl rfl (by decide) (some ⟨g, 0, none⟩) i i (rowL (fun _ => (m : Int)) i) rfl (fun h => by cases h) (by rw [rowL_len, Nat.mul_one]) (M1.out.1.of_block (((Up.refl wq).alloc _).block g M1.out.1.lt)).olds ⟨wq.heap.size, 0, none⟩ 1 1 [.int .u8 m] rfl rfl ?c1 ?c2 (by omega) ?c3 ?c4 ?_)
      case c1 =>
        intro j u hu
        match j, hu with
          | 0, hu => simp at hu; subst hu; simp [Addr.add]
      case c2 => intro u hu; simp at hu; subst hu; rfl
      case c3 => unfold maxLen; omega
      case c4 => omega
      intro v1 w4 ho1 hg1
      have A1 : Hid (Ow wq (fun _ => (m : Int)) (i + 1) v1 w4) := Ow.grown (by rw [← rowM_app]; simpa using ho1) hg1
      have U4 : Hid (Up wq w4 ∧ NmAt w4 g i (fun _ => (m : Int))) := ⟨A1.out.up, M1.out.1.of_block (A1.out.up.block g M1.out.1.lt)⟩
      clear ho1 hg1
      go_wp2_with (at_builtin; refine wpList_append_grows _ rfl _ _ 28 rfl 5 Tryz.t5 (.int .u8 0) 1 1 Tryz.underlying28 hie rfl rfl rfl rfl (by decide) (some ⟨g, 0, none⟩) i i (rowL (fun _ => (m : Int)) i) rfl (fun h => by cases h) (by rw [rowL_len, Nat.mul_one]) (U4.out.2.of_block (((Up.refl w4).alloc _).block g U4.out.2.lt)).olds ⟨w4.heap.size, 0, none⟩ 2 2 [.int .u8 m, .int .u8 m] rfl rfl ?c1 ?c2 (by omega) ?c3 ?c4 ?_)
      case c1 =>
        intro j u hu
        match j, hu with
          | 0, hu => simp at hu; subst hu; simp [Addr.add]
          | 1, hu => simp at hu; subst hu; simp [Addr.add]
      case c2 => intro u hu; simp at hu; subst hu; rfl
      case c3 => unfold maxLen; omega
      case c4 => omega
      intro v2 w5 ho2 hg2
      have A2 : Hid (Ow w4 (fun _ => (m : Int)) (i + 2) v2 w5) := Ow.grown (by rw [← rowM_app]; simpa using ho2) hg2
      have B1 : Hid (Ow wq (fun _ => (m : Int)) (i + 1) v1 w5) := A1.out.moreU A2.out.up
      have U5 : Hid (Up wq w5 ∧ NmAt w5 g i (fun _ => (m : Int))) := ⟨U4.out.1.trans A2.out.up, U4.out.2.of_block (A2.out.up.block g U4.out.2.lt)⟩
      have HU4 : Hid (wq.heap.size ≤ w4.heap.size) := U4.out.1.size
      clear ho2 hg2 A1 U4
      go_wp2_with (at_builtin; refine wpList_append_grows _ rfl _ _ 28 rfl 5 Tryz.t5 (.int .u8 0) 1 1 Tryz.underlying28 hie rfl rfl rfl rfl (by decide) (some ⟨g, 0, none⟩) i i (rowL (fun _ => (m : Int)) i) rfl (fun h => by cases h) (by rw [rowL_len, Nat.mul_one]) (U5.out.2.of_block (((Up.refl w5).alloc _).block g U5.out.2.lt)).olds ⟨w5.heap.size, 0, none⟩ 1 1 [.int .u8 m] rfl rfl ?c1 ?c2 (by omega) ?c3 ?c4 ?_)
      case c1 =>
        intro j u hu
        match j, hu with
          | 0, hu => simp at hu; subst hu; simp [Addr.add]
      case c2 => intro u hu; simp at hu; subst hu; rfl
      case c3 => unfold maxLen; omega
      case c4 => omega
      intro v3 w6 ho3 hg3
      have A3 : Hid (Ow w5 (fun _ => (m : Int)) (i + 1 + 0) v3 w6) := Ow.grown (by rw [← rowM_app, ← rowM_app]; simpa using ho3) hg3
      clear ho3 hg3
      go_wp2_with fail
      go_loopw [9, 10] (fun T I wr => ∃ k : Nat, k ≤ 63 ∧ I = .int .i64 k ∧ Hid (Ow w5 (fun _ => (m : Int)) (i + 1 + k) T wr)) (fun _ I _ => 63 - (intOf I).toNat)
      case atStart => exact ⟨0, by omega, rfl, A3⟩
      case round =>
        clear A3
        obtain ⟨k, hk, rfl, M3⟩ := hrel
        by_cases hlt2 : k < 63
        · have d2 : decide ((k : Int) < 63) = true := decide_eq_true (by omega)
          have e2 : (k : Int) < 63 := by omega
          have HSz : Hid (w5.heap.size ≤ wr.heap.size) := M3.out.up.size
          go_wp2_with (at_builtin; refine wpList_append_own _ rfl _ _ 28 rfl w5.heap.size 5 Tryz.t5 (.int .u8 0) 1 1 Tryz.underlying28 hie rfl rfl rfl rfl (by decide) _ _ _ rfl (M3.out.own.alloc _) ⟨wr.heap.size, 0, none⟩ 1 1 [.int .u8 m] rfl rfl ?c1 ?c2 ?c3 ?c4 ?c5 ?_)
          case c1 =>
            intro j u hu
            match j, hu with
            | 0, hu => simp at hu; subst hu; simp [Addr.add]
          case c2 => intro u hu; simp at hu; subst hu; rfl
          case c3 => unfold maxLen; omega
          case c4 => omega
          case c5 => have := HSz.out; simp; omega
          intro v' w7 hown' hgrow _
          have M4 : Hid (Ow w5 (fun _ => (m : Int)) (i + 1 + (k + 1)) v' w7) := M3.out.app hgrow (by rw [show i + 1 + (k + 1) = i + 1 + k + 1 by omega, ← rowM_app m (i + 1 + k) 1]; simpa using hown')
          clear hgrow hown' M3
          go_wp2_with fail
          refine ⟨⟨k + 1, by omega, ?_, M4⟩, ?_⟩
          · first | rfl | (simp; done)
          · simp [intOf]
            omega
        · have d2 : decide ((k : Int) < 63) = false := decide_eq_false (by omega)
          obtain rfl : k = 63 := by omega
          have HK : Hid (wr.heap[rb]? = some (.cells zB 95 (0, 0))) := ((U5.out.1.trans M3.out.up).block rb (Array.getElem?_eq_some_iff.1 M1.out.2.2).1).trans M1.out.2.2
          have HV1 : Hid (Ow wq (fun _ => (m : Int)) (i + 1) v1 wr) := B1.out.moreU M3.out.up
          have HV2 : Hid (Ow w4 (fun _ => (m : Int)) (i + 2) v2 wr) := A2.out.moreU M3.out.up
          have HFN : Hid (Fr g W wr ∧ NmAt wr g i (fun _ => (m : Int))) := ⟨M1.out.2.1.trans (Fr.ofUp (U5.out.1.trans M3.out.up)), U5.out.2.of_block (M3.out.up.block g U5.out.2.lt)⟩
          have HZ : Hid (rb < wq.heap.size ∧ rb < w4.heap.size ∧ rb < w5.heap.size) := by
            have z1 := (Array.getElem?_eq_some_iff.1 M1.out.2.2).1
            have z2 := HU4.out
            have z3 := A2.out.up.size
            exact ⟨z1, by omega, by omega⟩
          obtain ⟨oa1, ob1, oc1, hv1, _, hbb1⟩ := own_byts B1.out.own (fun _ => ⟨hm0, by omega⟩)
          obtain ⟨oa2, ob2, oc2, hv2, _, hbb2⟩ := own_byts A2.out.own (fun _ => ⟨hm0, by omega⟩)
          obtain ⟨oa3, ob3, oc3, hv3, _, hbb3⟩ := own_byts M3.out.own (fun _ => ⟨hm0, by omega⟩)
          subst hv1
          obtain ⟨_, rfl, _⟩ := hbb1 (by omega)
          clear hbb1
          subst hv2
          obtain ⟨_, rfl, _⟩ := hbb2 (by omega)
          clear hbb2
          subst hv3
          obtain ⟨_, rfl, _⟩ := hbb3 (by omega)
          clear hbb3
          have q0 : wr.cell? ⟨rb, 0, none⟩ = some (.slice none 0 0) := by rw [cell_of_row _ _ _ _ _ _ HK.out]; rfl
          have q1 : wr.cell? ⟨rb, 1, none⟩ = some (.slice none 0 0) := by rw [cell_of_row _ _ _ _ _ _ HK.out]; rfl
          have q2 : wr.cell? ⟨rb, 2, none⟩ = some (.slice none 0 0) := by rw [cell_of_row _ _ _ _ _ _ HK.out]; rfl
          have q3 : wr.cell? ⟨rb, 3, none⟩ = some (.slice none 0 0) := by rw [cell_of_row _ _ _ _ _ _ HK.out]; rfl
          have q4 : wr.cell? ⟨rb, 4, none⟩ = some (.int .i64 0) := by rw [cell_of_row _ _ _ _ _ _ HK.out]; rfl
          have f0 : wr.frozen? ⟨rb, 0, none⟩ = false := by have hq := HK.out; simp [World.frozen?, hq]
          have f1 : wr.frozen? ⟨rb, 1, none⟩ = false := by have hq := HK.out; simp [World.frozen?, hq]
          have f2 : wr.frozen? ⟨rb, 2, none⟩ = false := by have hq := HK.out; simp [World.frozen?, hq]
          have f3 : wr.frozen? ⟨rb, 3, none⟩ = false := by have hq := HK.out; simp [World.frozen?, hq]
          have f4 : wr.frozen? ⟨rb, 4, none⟩ = false := by have hq := HK.out; simp [World.frozen?, hq]
          clear M1 U5 A2 B1 d2 hlt2 hk
          go_wp2_with fail
          have k1 := heap_setCell_same wr rb 0 _ _ (.slice (some ⟨g, 0, none⟩) i i) HK.out
          have k2 := heap_setCell_same _ rb 1 _ _ (.slice (some ⟨ob1, 0, none⟩) (i + 1) oc1) k1
          have k3 := heap_setCell_same _ rb 2 _ _ (.slice (some ⟨ob2, 0, none⟩) (i + 2) oc2) k2
          have k4 := heap_setCell_same _ rb 3 _ _ (.slice (some ⟨ob3, 0, none⟩) (i + 1 + 63) oc3) k3
          have k5 := heap_setCell_same _ rb 4 _ _ (.int .i64 M) k4
          have F9 : Fr rb wr (((((wr.setCell ⟨rb, 0, none⟩ (.slice (some ⟨g, 0, none⟩) i i)).setCell ⟨rb, 1, none⟩ (.slice (some ⟨ob1, 0, none⟩) (i + 1) oc1)).setCell ⟨rb, 2, none⟩ (.slice (some ⟨ob2, 0, none⟩) (i + 2) oc2)).setCell ⟨rb, 3, none⟩ (.slice (some ⟨ob3, 0, none⟩) (i + 1 + 63) oc3)).setCell ⟨rb, 4, none⟩ (.int .i64 M)) := (Fr.refl rb wr).setCell.setCell.setCell.setCell.setCell
          have HK9 : Hid ((((((wr.setCell ⟨rb, 0, none⟩ (.slice (some ⟨g, 0, none⟩) i i)).setCell ⟨rb, 1, none⟩ (.slice (some ⟨ob1, 0, none⟩) (i + 1) oc1)).setCell ⟨rb, 2, none⟩ (.slice (some ⟨ob2, 0, none⟩) (i + 2) oc2)).setCell ⟨rb, 3, none⟩ (.slice (some ⟨ob3, 0, none⟩) (i + 1 + 63) oc3)).setCell ⟨rb, 4, none⟩ (.int .i64 M)).heap[rb]? = some (.cells #[.slice (some ⟨g, 0, none⟩) i i, .slice (some ⟨ob1, 0, none⟩) (i + 1) oc1, .slice (some ⟨ob2, 0, none⟩) (i + 2) oc2, .slice (some ⟨ob3, 0, none⟩) (i + 1 + 63) oc3, .int .i64 M] 95 (0, 0))) := k5
          clear k1 k2 k3 k4 k5 q0 q1 q2 q3 q4 f0 f1 f2 f3 f4
          generalize World.setCell _ ⟨rb, 4, none⟩ _ = w9 at F9 HK9 ⊢
          refine bodyPost_ret (v := .agg _) (results_row Tryz.results123 _ _ _ 95 _ (0, 0) _ rfl HK9.out Tryz.underlying95 rfl (by kernel_rfl)) rfl ?_
          have zr := HRB.out
          have zg := HG.out
          refine ⟨_, _, _, rfl, ⟨F9.os.trans HFN.out.1.os, F9.output.trans HFN.out.1.output, Nat.le_trans HFN.out.1.size F9.size, fun k hk hne => (F9.block k (Nat.lt_of_lt_of_le hk HFN.out.1.size) (by omega)).trans (HFN.out.1.block k hk hne)⟩, HFN.out.2.of_block (F9.block g HFN.out.2.lt (by omega)), fun K hK => ?_⟩
          have z1 := HZ.out
          refine ⟨((HV1.out.mks hm (fun b => K b ∨ b = rb) ?_).fr F9 (Or.inr rfl)).mono (fun _ _ h => Or.inl h), ((HV2.out.mks hm (fun b => K b ∨ b = rb) ?_).fr F9 (Or.inr rfl)).mono (fun _ _ h => Or.inl h), ((M3.out.mks hm (fun b => K b ∨ b = rb) ?_).fr F9 (Or.inr rfl)).mono (fun _ _ h => Or.inl h)⟩
          · intro b hb
            rcases hb with hb | hb
            · have := hK b hb
              omega
            · omega
          · intro b hb
            rcases hb with hb | hb
            · have := hK b hb
              omega
            · omega
          · intro b hb
            rcases hb with hb | hb
            · have := hK b hb
              omega
            · omega
end Go.Proofs.YtlgfpddiebdmaaaGreatDoor
/- The book of lists. No condition. -/
namespace Go.Proofs.YtlgfpddiebdmaaaGreatDoor
open Go.RowKit
set_option linter.unusedVariables false
theorem NmAt.bytsP {w : World} {g n : Nat} {F : Nat → Int} (h : NmAt w g n F) (m c : Nat) (hm : m ≤ n) (hc : m ≤ c) (hcm : c ≤ maxLen) (hF : ∀ k, 0 ≤ F k ∧ F k ≤ 255) : Byts w (some ⟨g, 0, none⟩) g 0 m c F :=
  ⟨hc, hcm, fun _ => rfl, hF, fun k hk => by rw [Nat.zero_add]; exact h.cell k (by omega)⟩
/-- one entry of the book -/
def Ent (K : Nat → Prop) (w : World) (xs : List Value) (j : Nat) : Prop :=
  ∃ v0 v1 v2 v3, xs[j * 5]? = some v0 ∧ xs[j * 5 + 1]? = some v1 ∧ xs[j * 5 + 2]? = some v2 ∧ xs[j * 5 + 3]? = some v3 ∧ xs[j * 5 + 4]? = some (.int .i64 (j : Int)) ∧ Mk K w (j % 251) v0 ∧ Mk K w (j % 251) v1 ∧ Mk K w (j % 251) v2 ∧ Mk K w (j % 251) v3
/-- a book -/
structure BkV (K : Nat → Prop) (bk n : Nat) (v : Value) (xs : List Value) (w : World) : Prop where
  blk : w.heap[bk]? = some (.cells #[v] 57 (0, 0))
  own : w.ownsRow (bk + 1) 95 5 v n xs
  nk : ¬ K bk
  no : ∀ g, v.ownBlock = some g → ¬ K g
  one : ∀ u ∈ xs, u.oneCell' = true
  n8 : n ≤ 100000
  ent : ∀ j, j < n → Ent (fun b => K b ∨ b = bk ∨ v.ownBlock = some b) w xs j
def Bk (K : Nat → Prop) (bk n : Nat) (w : World) : Prop := ∃ v xs, BkV K bk n v xs w
theorem Ent.up {K : Nat → Prop} {w w' : World} {xs : List Value} {j : Nat} (h : Ent K w xs j) (u : Up w w') : Ent K w' xs j := by
  obtain ⟨v0, v1, v2, v3, h0, h1, h2, h3, h4, m0, m1, m2, m3⟩ := h
  exact ⟨v0, v1, v2, v3, h0, h1, h2, h3, h4, m0.up u, m1.up u, m2.up u, m3.up u⟩
theorem Ent.fr {K : Nat → Prop} {w w' : World} {xs : List Value} {j c : Nat} (h : Ent K w xs j) (u : Fr c w w') (hc : K c) : Ent K w' xs j := by
  obtain ⟨v0, v1, v2, v3, h0, h1, h2, h3, h4, m0, m1, m2, m3⟩ := h
  exact ⟨v0, v1, v2, v3, h0, h1, h2, h3, h4, m0.fr u hc, m1.fr u hc, m2.fr u hc, m3.fr u hc⟩
theorem Ent.mono {K K' : Nat → Prop} {w : World} {xs : List Value} {j : Nat} (h : Ent K w xs j) (hk : ∀ b, b < w.heap.size → K' b → K b) : Ent K' w xs j := by
  obtain ⟨v0, v1, v2, v3, h0, h1, h2, h3, h4, m0, m1, m2, m3⟩ := h
  exact ⟨v0, v1, v2, v3, h0, h1, h2, h3, h4, m0.mono hk, m1.mono hk, m2.mono hk, m3.mono hk⟩
theorem Ent.app {K : Nat → Prop} {w : World} {xs ys : List Value} {j : Nat} (h : Ent K w xs j) : Ent K w (xs ++ ys) j := by
  obtain ⟨v0, v1, v2, v3, h0, h1, h2, h3, h4, m⟩ := h
  have f : ∀ {k : Nat} {v : Value}, xs[k]? = some v → (xs ++ ys)[k]? = some v := fun {k v} hk => by rw [List.getElem?_append_left (List.getElem?_eq_some_iff.1 hk).1]; exact hk
  exact ⟨v0, v1, v2, v3, f h0, f h1, f h2, f h3, f h4, m⟩
theorem ownsRow_fr {w w' : World} {base n c : Nat} {ty : TypeId} {size : Nat} {v : Value} {xs : List Value} (h : w.ownsRow base ty size v n xs) (f : Fr c w w') (hc : v.ownBlock ≠ some c) : w'.ownsRow base ty size v n xs := by
  refine ⟨h.1, h.2.imp id fun ⟨g, cap, cur, h1, h2, h3, h4⟩ => ⟨g, cap, cur, h1, h2, ?_, h4⟩⟩
  refine (f.block g (Array.getElem?_eq_some_iff.1 h3).1 (fun e => hc ?_)).trans h3
  rw [h1, ← e]
  rfl
theorem BkV.up {K : Nat → Prop} {bk n : Nat} {v : Value} {xs : List Value} {w w' : World} (h : BkV K bk n v xs w) (u : Up w w') : BkV K bk n v xs w' :=
  ⟨(u.block bk (Array.getElem?_eq_some_iff.1 h.blk).1).trans h.blk, ownsRow_up h.own u, h.nk, h.no, h.one, h.n8, fun j hj => (h.ent j hj).up u⟩
theorem BkV.fr {K : Nat → Prop} {bk n c : Nat} {v : Value} {xs : List Value} {w w' : World} (h : BkV K bk n v xs w) (u : Fr c w w') (hc : K c) : BkV K bk n v xs w' :=
  ⟨(u.block bk (Array.getElem?_eq_some_iff.1 h.blk).1 (fun e => h.nk (e ▸ hc))).trans h.blk, ownsRow_fr h.own u (fun e => h.no c e hc), h.nk, h.no, h.one, h.n8, fun j hj => (h.ent j hj).fr u (Or.inl hc)⟩
theorem BkV.mono {K K' : Nat → Prop} {bk n : Nat} {v : Value} {xs : List Value} {w : World} (h : BkV K bk n v xs w) (hk : ∀ b, b < w.heap.size → K' b → K b) : BkV K' bk n v xs w :=
  ⟨h.blk, h.own, fun e => h.nk (hk bk (Array.getElem?_eq_some_iff.1 h.blk).1 e), fun g hg e => h.no g hg (hk g (h.own.lt g hg).2 e), h.one, h.n8, fun j hj => (h.ent j hj).mono fun b hb e => e.imp (hk b hb) id⟩
theorem Bk.up {K : Nat → Prop} {bk n : Nat} {w w' : World} (h : Bk K bk n w) (u : Up w w') : Bk K bk n w' := by
  obtain ⟨v, xs, h⟩ := h
  exact ⟨v, xs, h.up u⟩
theorem Bk.fr {K : Nat → Prop} {bk n c : Nat} {w w' : World} (h : Bk K bk n w) (u : Fr c w w') (hc : K c) : Bk K bk n w' := by
  obtain ⟨v, xs, h⟩ := h
  exact ⟨v, xs, h.fr u hc⟩
theorem Bk.mono {K K' : Nat → Prop} {bk n : Nat} {w : World} (h : Bk K bk n w) (hk : ∀ b, b < w.heap.size → K' b → K b) : Bk K' bk n w := by
  obtain ⟨v, xs, h⟩ := h
  exact ⟨v, xs, h.mono hk⟩
theorem own_slice {w : World} {base n size : Nat} {ty : TypeId} {v : Value} {xs : List Value} (h : w.ownsRow base ty size v n xs) : ∃ va vc, v = .slice va n vc ∧ n ≤ vc ∧ vc ≤ maxLen := by
  rcases h.2 with ⟨hv, hn⟩ | ⟨g, cap, cur, hv, _, _, hc, hm, _⟩
  · exact ⟨none, 0, by rw [hv, hn], by omega, Nat.zero_le _⟩
  · exact ⟨some ⟨g, 0, none⟩, cap, hv, hc, hm⟩
theorem wp_append_at {P : Program} (w : World) {o : Oper} {a : Act} {K : Act → World → Prop} {Q : Exit → Act → World → Prop} (s x : Operand) (t : TypeId)
    (ho : o.op = .call { callee := .builtin .append, args := #[s, x], argTypes := #[t, t] })
    (base : Nat) (e : TypeId) (i : TypeInfo) (z : Value) (size bytes : Nat) (ht : P.underlying t = some (.slice e)) (hi : P.info? e = some i) (hz : i.zero = some z)
    (hsize : i.size = size) (hby : i.bytes = bytes) (hzs : z.cells.size = size) (hsz : 0 < size)
    (v : Value) (n : Nat) (xs : List Value) (hs : a.eval s = v) (hown : w.ownsRow base e size v n xs)
    (ad : Addr) (m c : Nat) (news : List Value) (hx : a.eval x = .slice (some ad) m c) (hl : news.length = m * size) (hnews : ∀ j u, news[j]? = some u → w.cell? (ad.add j) = some u) (h1 : ∀ u ∈ news, u.oneCell' = true)
    (h63 : n + m ≤ maxLen) (hbytes : (n + m) * bytes ≤ 140737488355328) (hbase : base ≤ w.heap.size)
    (h : ∀ v' w', w'.ownsRow base e size v' (n + m) (xs ++ news) → w.grownBy w' v.ownBlock → (v'.ownBlock = v.ownBlock ∨ v'.ownBlock = some w.heap.size) → K (a.put o.dst v') w') : o.wp P a w K Q := by
  obtain ⟨v', w', hr, h2, h3, _, h5⟩ := run_append_own_at (P := P) w base t o.type e i z size bytes ht hi hz hsize hby hzs hsz v n xs hown ad m c news hl hnews h1 h63 hbytes hbase
  unfold Oper.wp execOp
  simp only [ho, resolve, invoke, builtin, Sem.run_bind, Sem.run_pure, Result.andThen_ok, List.map_toArray, List.map_cons, List.map_nil, hs, hx, hr]
  exact h v' w' h2 h3 h5
/-- the book behind an append, before its own cell is written -/
theorem BkV.grow {K : Nat → Prop} {bk n : Nat} {v v' : Value} {xs ys : List Value} {w w' : World} (h : BkV K bk n v xs w) (g : w.grownBy w' v.ownBlock) (o : w'.ownsRow (bk + 1) 95 5 v' (n + 1) (xs ++ ys)) (hat : v'.ownBlock = v.ownBlock ∨ v'.ownBlock = some w.heap.size) :
    w'.heap[bk]? = some (.cells #[v] 57 (0, 0)) ∧ (∀ b, v'.ownBlock = some b → (b < w.heap.size → ¬ K b)) ∧ (∀ b, b < w.heap.size → K b → w'.heap[b]? = w.heap[b]?) := by
  refine ⟨(g.block bk (Array.getElem?_eq_some_iff.1 h.blk).1 (fun e => ?_)).trans h.blk, fun b hb hlt hk => ?_, fun b hb hk => g.block b hb (fun e => h.no b e.symm hk)⟩
  · have := (h.own.lt bk e.symm).1
    omega
  · rcases hat with e | e
    · exact h.no b (e ▸ hb) hk
    · rw [e] at hb
      have := Option.some.inj hb
      omega
theorem Mk.grow {K1 K2 : Nat → Prop} {w w' : World} {m : Nat} {u : Value} (h : Mk K1 w m u) (hk : ∀ b, b < w.heap.size → K2 b → K1 b) (hb : ∀ b, b < w.heap.size → ¬ K1 b → w'.heap[b]? = w.heap[b]?) : Mk K2 w' m u := by
  obtain ⟨aa, ab, ao, n, c, e, B, k⟩ := h
  refine ⟨aa, ab, ao, n, c, e, ⟨B.lc, B.cm, B.ad, B.u8, fun i hi => ?_⟩, fun h0 h1 => k h0 (hk ab (World.block_lt_of_cell? _ _ (B.cell 0 h0)) h1)⟩
  have hlt := World.block_lt_of_cell? _ _ (B.cell i hi)
  rw [← B.cell i hi]
  have e2 : w'.heap[ab]? = w.heap[ab]? := hb ab hlt (k (by omega))
  unfold World.cell?
  simp only [e2]
theorem Ent.grow {K1 K2 : Nat → Prop} {w w' : World} {xs : List Value} {j : Nat} (h : Ent K1 w xs j) (hk : ∀ b, b < w.heap.size → K2 b → K1 b) (hb : ∀ b, b < w.heap.size → ¬ K1 b → w'.heap[b]? = w.heap[b]?) : Ent K2 w' xs j := by
  obtain ⟨v0, v1, v2, v3, h0, h1, h2, h3, h4, m0, m1, m2, m3⟩ := h
  exact ⟨v0, v1, v2, v3, h0, h1, h2, h3, h4, m0.grow hk hb, m1.grow hk hb, m2.grow hk hb, m3.grow hk hb⟩
/-- .. and behind the write -/
theorem BkV.last {K : Nat → Prop} {bk n : Nat} {v v' u0 u1 u2 u3 : Value} {xs : List Value} {w w' : World} (h : BkV K bk n v xs w) (hn : n < 100000) (g : w.grownBy w' v.ownBlock) (o : w'.ownsRow (bk + 1) 95 5 v' (n + 1) (xs ++ [u0, u1, u2, u3, .int .i64 n])) (hat : v'.ownBlock = v.ownBlock ∨ v'.ownBlock = some w.heap.size) (hK : ∀ b, K b → b < w.heap.size)
    (m0 : Mk (fun b => K b ∨ b = bk ∨ v.ownBlock = some b) w (n % 251) u0) (m1 : Mk (fun b => K b ∨ b = bk ∨ v.ownBlock = some b) w (n % 251) u1) (m2 : Mk (fun b => K b ∨ b = bk ∨ v.ownBlock = some b) w (n % 251) u2) (m3 : Mk (fun b => K b ∨ b = bk ∨ v.ownBlock = some b) w (n % 251) u3) (ho : ∀ u ∈ [u0, u1, u2, u3, .int .i64 n], u.oneCell' = true) :
    BkV K bk (n + 1) v' (xs ++ [u0, u1, u2, u3, .int .i64 n]) (w'.setCell ⟨bk, 0, none⟩ v') ∧ FK K w (w'.setCell ⟨bk, 0, none⟩ v') := by
  obtain ⟨g1, g2, g3⟩ := h.grow g o hat
  have fs : Fr bk w' (w'.setCell ⟨bk, 0, none⟩ v') := (Fr.refl bk w').setCell
  have nb : v'.ownBlock ≠ some bk := fun e => by have := (o.lt bk e).1; omega
  have hl := h.own.1
  have gk : ∀ b, b < w.heap.size → (K b ∨ b = bk ∨ v'.ownBlock = some b) → (K b ∨ b = bk ∨ v.ownBlock = some b) := fun b hb e => by
    rcases e with e | e | e
    · exact Or.inl e
    · exact Or.inr (Or.inl e)
    · rcases hat with q | q
      · exact Or.inr (Or.inr (q ▸ e))
      · rw [q] at e
        have := Option.some.inj e
        omega
  have gb : ∀ b, b < w.heap.size → ¬ (K b ∨ b = bk ∨ v.ownBlock = some b) → (w'.setCell ⟨bk, 0, none⟩ v').heap[b]? = w.heap[b]? := fun b hb e =>
    (fs.block b (Nat.lt_of_lt_of_le hb g.size) (fun q => e (Or.inr (Or.inl q)))).trans (g.block b hb (fun q => e (Or.inr (Or.inr q.symm))))
  refine ⟨⟨?_, ownsRow_fr o fs nb, h.nk, fun b hb hk => g2 b hb (hK b hk) hk, fun u hu => ?_, by omega, fun j hj => ?_⟩, ⟨fs.os.trans g.os, fs.output.trans g.output, Nat.le_trans g.size fs.size, fun b hb hk => (fs.block b (Nat.lt_of_lt_of_le hb g.size) (fun q => h.nk (q ▸ hk))).trans (g3 b hb hk)⟩⟩
  · exact heap_setCell_same w' bk 0 _ _ v' g1
  · rcases List.mem_append.1 hu with hu | hu
    · exact h.one u hu
    · exact ho u hu
  · by_cases hj2 : j < n
    · exact ((h.ent j hj2).grow gk gb).app
    · obtain rfl : j = n := by omega
      have f : ∀ i, (xs ++ [u0, u1, u2, u3, .int .i64 j])[j * 5 + i]? = [u0, u1, u2, u3, .int .i64 (j : Int)][i]? := fun i => by
        rw [List.getElem?_append_right (by omega), hl, show j * 5 + i - j * 5 = i by omega]
      exact ⟨u0, u1, u2, u3, f 0, f 1, f 2, f 3, f 4, m0.grow gk gb, m1.grow gk gb, m2.grow gk gb, m3.grow gk gb⟩
end Go.Proofs.YtlgfpddiebdmaaaGreatDoor
/- A list goes into the book. No condition. -/
namespace Go.Proofs.YtlgfpddiebdmaaaGreatDoor
open Go.RowKit
set_option linter.unusedVariables false
set_option maxRecDepth 100000 in
set_option maxHeartbeats 2000000 in
theorem byte_any {K : Nat → Prop} {bk n g L : Nat} {F : Nat → Int} {W : World} (h : Bk K bk n W) (hl : NmAt W g L F) (hF : ∀ k, 0 ≤ F k ∧ F k ≤ 255) (hL : L ≤ 65536) (hg : K g) (hK : ∀ b, K b → b < W.heap.size) (hlt : n < 100000) : Calls Tryz.prog 85 #[.pointer (some ⟨bk, 0, none⟩), .slice (some ⟨g, 0, none⟩) L L] W fun e w' => e = .returned (.tuple #[]) ∧ Bk (fun b => K b ∧ b ≠ g) bk (n + 1) w' ∧ FK (fun b => K b ∧ b ≠ g) W w' := by
  obtain ⟨v, xs, h⟩ := h
  have hn8 := h.n8
  obtain ⟨va, vc, rfl, hc1, hc2⟩ := own_slice h.own
  have kb : W.cell? ⟨bk, 0, none⟩ = some (.slice va n vc) := by rw [cell_of_row _ _ _ _ _ _ h.blk]; rfl
  have HB : Hid (BkV K bk n (.slice va n vc) xs W) := h
  have HO : Hid _ := ownBytes_any (m := n % 251) (M := n) hl hF hL rfl (by omega)
  have HG : Hid (K g ∧ g < W.heap.size) := ⟨hg, hl.lt⟩
  have l2 : vc ≤ 9223372036854775807 := by unfold maxLen at hc2; omega
  have hie : Tryz.prog.info? 95 = some Tryz.t95 := by kernel_rfl
  clear h hl
  go_enter Tryz.func85, Tryz.ntmps85
  go_wp2_with fail
  refine Calls.mono HO.out ?_
  rintro e w1 ⟨v1, v2, v3, rfl, f1, n1, m1⟩
  obtain ⟨q1, q2, q3⟩ := m1 (fun b => (K b ∧ b ≠ g) ∨ b = bk ∨ (Value.slice va n vc).ownBlock = some b) (fun b hb => by
    rcases hb with hb | hb | hb
    · exact hK b hb.1
    · have := (Array.getElem?_eq_some_iff.1 HB.out.blk).1
      omega
    · exact (HB.out.own.lt b hb).2)
  have H1 : Hid (BkV K bk n (.slice va n vc) xs w1 ∧ Mk (fun b => (K b ∧ b ≠ g) ∨ b = bk ∨ (Value.slice va n vc).ownBlock = some b) w1 (n % 251) v1 ∧ Mk (fun b => (K b ∧ b ≠ g) ∨ b = bk ∨ (Value.slice va n vc).ownBlock = some b) w1 (n % 251) v2 ∧ Mk (fun b => (K b ∧ b ≠ g) ∨ b = bk ∨ (Value.slice va n vc).ownBlock = some b) w1 (n % 251) v3 ∧ Fr g W w1 ∧ NmAt w1 g L (fun _ => ((n % 251 : Nat) : Int))) := ⟨HB.out.fr f1 HG.out.1, q1, q2, q3, f1, n1⟩
  obtain ⟨a1, _, _, x1, c1, rfl, _⟩ := q1
  obtain ⟨a2, _, _, x2, c2, rfl, _⟩ := q2
  obtain ⟨a3, _, _, x3, c3, rfl, _⟩ := q3
  have HL : Hid (Mk (fun b => (K b ∧ b ≠ g) ∨ b = bk ∨ (Value.slice va n vc).ownBlock = some b) w1 (n % 251) (.slice (some ⟨g, 0, none⟩) L L)) := ⟨some ⟨g, 0, none⟩, g, 0, L, L, rfl, n1.bytsP L L (Nat.le_refl _) (Nat.le_refl _) (by unfold maxLen; omega) (fun _ => ⟨by omega, by omega⟩), fun _ e => by
    rcases e with e | e | e
    · exact e.2 rfl
    · exact HB.out.nk (e ▸ HG.out.1)
    · exact HB.out.no g e HG.out.1⟩
  have HKs : Hid (∀ b, K b ∧ b ≠ g → b < w1.heap.size) := fun b hb => Nat.lt_of_lt_of_le (hK b hb.1) f1.size
  clear f1 n1 m1 HO HB kb hK
  have kb1 : w1.cell? ⟨bk, 0, none⟩ = some (.slice va n vc) := by rw [cell_of_row _ _ _ _ _ _ H1.out.1.blk]; rfl
  have hlk : ∀ o, (w1.alloc o).cell? ⟨bk, 0, none⟩ = some (.slice va n vc) := fun o => by rw [World.cell?_alloc_lt _ _ _ (World.block_lt_of_cell? _ _ kb1)]; exact kb1
  have HA : Hid (Up w1 (w1.alloc (Obj.cells #[.slice (some ⟨g, 0, none⟩) L L, .slice a1 x1 c1, .slice a2 x2 c2, .slice a3 x3 c3, .int .i64 n] 95))) := (Up.refl w1).alloc _
  go_wp2_with fail
  have H2 : Hid (Up w1 (w1.alloc (Obj.cells #[.slice (some ⟨g, 0, none⟩) L L, .slice a1 x1 c1, .slice a2 x2 c2, .slice a3 x3 c3, .int .i64 n] 95)) ∧ (w1.alloc (Obj.cells #[.slice (some ⟨g, 0, none⟩) L L, .slice a1 x1 c1, .slice a2 x2 c2, .slice a3 x3 c3, .int .i64 n] 95)).heap[w1.heap.size]? = some (.cells #[.slice (some ⟨g, 0, none⟩) L L, .slice a1 x1 c1, .slice a2 x2 c2, .slice a3 x3 c3, .int .i64 n] 95 (0, 0))) := ⟨HA.out, heap_alloc_new w1 _⟩
  have HXB : Hid (bk < w1.heap.size) := World.block_lt_of_cell? _ _ kb1
  clear hlk HA
  generalize World.alloc w1 _ = w2 at H2 ⊢
  generalize hxb : w1.heap.size = xb at H2 HXB ⊢
  have HS : Hid (∀ w' : World, w'.heap[xb]? = some (.cells #[.slice (some ⟨g, 0, none⟩) L L, .slice a1 x1 c1, .slice a2 x2 c2, .slice a3 x3 c3, .int .i64 n] 95 (0, 0)) → (fun w : World => w.cell? ⟨xb, 0, none⟩ = some (.slice (some ⟨g, 0, none⟩) L L) ∧ w.cell? ⟨xb, 1, none⟩ = some (.slice a1 x1 c1) ∧ w.cell? ⟨xb, 2, none⟩ = some (.slice a2 x2 c2) ∧ w.cell? ⟨xb, 3, none⟩ = some (.slice a3 x3 c3) ∧ w.cell? ⟨xb, 4, none⟩ = some (.int .i64 n)) w') := fun w' h => by
    refine ⟨?_, ?_, ?_, ?_, ?_⟩ <;> (rw [cell_of_row _ _ _ _ _ _ h]; rfl)
  have HS2 : Hid (∀ w', Up w2 w' → (fun w : World => w.cell? ⟨xb, 0, none⟩ = some (.slice (some ⟨g, 0, none⟩) L L) ∧ w.cell? ⟨xb, 1, none⟩ = some (.slice a1 x1 c1) ∧ w.cell? ⟨xb, 2, none⟩ = some (.slice a2 x2 c2) ∧ w.cell? ⟨xb, 3, none⟩ = some (.slice a3 x3 c3) ∧ w.cell? ⟨xb, 4, none⟩ = some (.int .i64 n)) w') := fun w' u => HS.out w' ((u.block xb (Array.getElem?_eq_some_iff.1 H2.out.2).1).trans H2.out.2)
  have HKB : Hid (∀ w', Up w2 w' → w'.cell? ⟨bk, 0, none⟩ = some (.slice va n vc)) := fun w' u => by
    rw [(H2.out.1.trans u).cell (World.block_lt_of_cell? _ _ kb1)]
    exact kb1
  clear kb1
  refine wp_region_held_drew (S := fun w : World => w.cell? ⟨xb, 0, none⟩ = some (.slice (some ⟨g, 0, none⟩) L L) ∧ w.cell? ⟨xb, 1, none⟩ = some (.slice a1 x1 c1) ∧ w.cell? ⟨xb, 2, none⟩ = some (.slice a2 x2 c2) ∧ w.cell? ⟨xb, 3, none⟩ = some (.slice a3 x3 c3) ∧ w.cell? ⟨xb, 4, none⟩ = some (.int .i64 n)) (by kernel_rfl) ?_ (fun hHeld => ?_)
  · exact HS2.out _ (Up.refl w2).drew
  refine wpAnyH_take (i := 0) (v := ?_) (by simp only [List.getElem?_toArray, List.getElem?_cons_zero]; rfl) (by kernel_rfl) (by kernel_rfl) (by kernel_rfl) (by intro _ _ _ h; exact h) (Or.inl ⟨by rfl, ?_⟩) (by assumption) ?_
  rotate_left
  · (intro w hSw; (try dsimp only at hSw); go_simp <;> with_reducible rfl)
  try simp only [Act.put, List.setIfInBounds_toArray, List.set_cons_zero, List.set_cons_succ]
  refine wpAnyH_take (i := 1) (v := ?_) (by simp only [List.getElem?_toArray, List.getElem?_cons_succ, List.getElem?_cons_zero]; rfl) (by kernel_rfl) (by kernel_rfl) (by kernel_rfl) (by intro _ _ _ h; exact h) (Or.inl ⟨by rfl, ?_⟩) (by assumption) ?_
  rotate_left
  · (intro w hSw; (try dsimp only at hSw); go_simp <;> with_reducible rfl)
  try simp only [Act.put, List.setIfInBounds_toArray, List.set_cons_zero, List.set_cons_succ]
  refine wpAnyH_take (i := 2) (v := ?_) (by simp only [List.getElem?_toArray, List.getElem?_cons_succ, List.getElem?_cons_zero]; rfl) (by kernel_rfl) (by kernel_rfl) (by kernel_rfl) (by intro _ _ _ h; exact h) (Or.inl ⟨by rfl, ?_⟩) (by assumption) ?_
  rotate_left
  · (intro w hSw; (try dsimp only at hSw); go_simp <;> with_reducible rfl)
  try simp only [Act.put, List.setIfInBounds_toArray, List.set_cons_zero, List.set_cons_succ]
  refine wpAnyH_take (i := 3) (v := ?_) (by simp only [List.getElem?_toArray, List.getElem?_cons_succ, List.getElem?_cons_zero]; rfl) (by kernel_rfl) (by kernel_rfl) (by kernel_rfl) (by intro _ _ _ h; exact h) (Or.inl ⟨by rfl, ?_⟩) (by assumption) ?_
  rotate_left
  · (intro w hSw; (try dsimp only at hSw); go_simp <;> with_reducible rfl)
  try simp only [Act.put, List.setIfInBounds_toArray, List.set_cons_zero, List.set_cons_succ]
  refine wpAnyH_take (i := 5) (v := ?_) (by simp only [List.getElem?_toArray, List.getElem?_cons_succ, List.getElem?_cons_zero]; rfl) (by kernel_rfl) (by kernel_rfl) (by kernel_rfl) (by intro _ _ _ h; exact h) (Or.inl ⟨by rfl, ?_⟩) (by assumption) ?_
  rotate_left
  · (intro w hSw; (try dsimp only at hSw); go_simp <;> with_reducible rfl)
  try simp only [Act.put, List.setIfInBounds_toArray, List.set_cons_zero, List.set_cons_succ]
  generalize hw3 : World.drew _ = w3 at hHeld ⊢
  have u3 : Up w2 w3 := by rw [← hw3]; exact (Up.refl w2).drew
  clear hw3
  have kb3 := HKB.out w3 u3
  refine wpAnyH_ready (rs := [4, 6]) (by kernel_rfl) (by simp) ?_
  refine AllReadyH.cons (by simp only [List.getElem?_toArray, List.getElem?_cons_succ, List.getElem?_cons_zero]; rfl) (fun KK hK => ?_) ?_
  · go_simp
    refine hK.out _ _ (HS2.out _ u3) (fun _ => ?_)
    clear hK KK
    try simp only [Act.put, List.setIfInBounds_toArray, List.set_cons_zero, List.set_cons_succ]
    refine wpAnyH_ready (rs := [6]) (by kernel_rfl) (by simp) ?_
    refine AllReadyH.cons (by simp only [List.getElem?_toArray, List.getElem?_cons_succ, List.getElem?_cons_zero]; rfl) (fun KK hK => ?_) AllReadyH.nil
    go_simp
    have u4 : Up w2 (w3.alloc (Obj.cells #[.slice (some ⟨g, 0, none⟩) L L, .slice a1 x1 c1, .slice a2 x2 c2, .slice a3 x3 c3, .int .i64 n] 95)) := u3.alloc _
    have kn : (w3.alloc (Obj.cells #[.slice (some ⟨g, 0, none⟩) L L, .slice a1 x1 c1, .slice a2 x2 c2, .slice a3 x3 c3, .int .i64 n] 95)).heap[w3.heap.size]? = some (.cells #[.slice (some ⟨g, 0, none⟩) L L, .slice a1 x1 c1, .slice a2 x2 c2, .slice a3 x3 c3, .int .i64 n] 95 (0, 0)) := heap_alloc_new w3 _
    generalize World.alloc w3 _ = w4 at u4 kn ⊢
    generalize w3.heap.size = nb at kn ⊢
    refine hK.out _ _ (HS2.out _ u4) (fun _ => ?_)
    clear hK KK kb3 hHeld
    try simp only [Act.put, List.setIfInBounds_toArray, List.set_cons_zero, List.set_cons_succ]
    refine wpAnyH_ready (rs := [7]) (by kernel_rfl) (by simp) ?_
    refine AllReadyH.cons (by simp only [List.getElem?_toArray, List.getElem?_cons_succ, List.getElem?_cons_zero]; rfl) (fun KK hK => ?_) AllReadyH.nil
    rw [if_pos (by rfl)]
    refine wp_append_at _ _ _ 55 rfl (bk + 1) 95 Tryz.t95 (.agg zB) 5 104 Tryz.underlying55 hie rfl rfl rfl rfl (by decide) (.slice va n vc) n xs rfl (ownsRow_up H1.out.1.own (H2.out.1.trans u4)) ⟨nb, 0, none⟩ 1 1 [.slice (some ⟨g, 0, none⟩) L L, .slice a1 x1 c1, .slice a2 x2 c2, .slice a3 x3 c3, .int .i64 n] rfl rfl ?c1 ?c2 ?c3 ?c4 ?c5 ?_
    case c1 =>
      intro j u hu
      rw [Addr.add_lit, Nat.zero_add, cell_of_row _ _ _ _ _ _ kn]
      simpa using hu
    case c2 =>
      intro u hu
      simp at hu
      rcases hu with rfl | rfl | rfl | rfl | rfl <;> rfl
    case c3 => unfold maxLen; omega
    case c4 => omega
    case c5 => have := HXB.out; have := (Array.getElem?_eq_some_iff.1 H2.out.2).1; have := u4.size; omega
    intro v' w5 ho5 hg5 hat
    obtain ⟨va', vc', rfl, hcc1, hcc2⟩ := own_slice ho5
    have H6 : Hid _ := BkV.last ((H1.out.1.mono (K' := fun b => K b ∧ b ≠ g) (fun b _ hb => hb.1)).up (H2.out.1.trans u4)) hlt hg5 ho5 hat (fun b hb => Nat.lt_of_lt_of_le (HKs.out b hb) (H2.out.1.trans u4).size) (HL.out.up (H2.out.1.trans u4)) (H1.out.2.1.up (H2.out.1.trans u4)) (H1.out.2.2.1.up (H2.out.1.trans u4)) (H1.out.2.2.2.1.up (H2.out.1.trans u4)) (by intro u hu; simp at hu; rcases hu with rfl | rfl | rfl | rfl | rfl <;> rfl)
    have H5 : Hid _ := BkV.grow (H1.out.1.up (H2.out.1.trans u4)) hg5 ho5 hat
    have kb5 : w5.cell? ⟨bk, 0, none⟩ = some (.slice va n vc) := by rw [cell_of_row _ _ _ _ _ _ H5.out.1]; rfl
    have kf5 : w5.frozen? ⟨bk, 0, none⟩ = false := by have hq := H5.out.1; simp [World.frozen?, hq]
    have hx5 : w5.heap[xb]? = some (.cells #[.slice (some ⟨g, 0, none⟩) L L, .slice a1 x1 c1, .slice a2 x2 c2, .slice a3 x3 c3, .int .i64 n] 95 (0, 0)) := (hg5.block xb (Nat.lt_of_lt_of_le (Array.getElem?_eq_some_iff.1 H2.out.2).1 u4.size) (fun e => by have := (H1.out.1.own.lt xb e.symm).2; omega)).trans ((u4.block xb (Array.getElem?_eq_some_iff.1 H2.out.2).1).trans H2.out.2)
    have HX6 : Hid (∀ u, (w5.setCell ⟨bk, 0, none⟩ u).heap[xb]? = some (.cells #[.slice (some ⟨g, 0, none⟩) L L, .slice a1 x1 c1, .slice a2 x2 c2, .slice a3 x3 c3, .int .i64 n] 95 (0, 0))) := fun u => ((Fr.refl bk w5).setCell.block xb (Array.getElem?_eq_some_iff.1 hx5).1 (by have := HXB.out; omega)).trans hx5
    refine hK.out _ _ (HS.out _ hx5) (fun hHeld => ?_)
    clear hK KK
    try simp only [Act.put, List.setIfInBounds_toArray, List.set_cons_zero, List.set_cons_succ]
    refine wpAnyH_take (i := 8) (v := ?_) (by simp only [List.getElem?_toArray, List.getElem?_cons_succ, List.getElem?_cons_zero]; rfl) (by kernel_rfl) (by kernel_rfl) (by kernel_rfl) (by intro _ _ _ h; exact h) (Or.inl ⟨by rfl, ?_⟩) (by assumption) ?_
    rotate_left
    · (intro w hSw; (try dsimp only at hSw); go_simp <;> with_reducible rfl)
    try simp only [Act.put, List.setIfInBounds_toArray, List.set_cons_zero, List.set_cons_succ]
    refine wpAnyH_take (i := 9) (v := ?_) (by simp only [List.getElem?_toArray, List.getElem?_cons_succ, List.getElem?_cons_zero]; rfl) (by kernel_rfl) (by kernel_rfl) (by kernel_rfl) (by intro _ _ _ h; exact h) (Or.inl ⟨by rfl, ?_⟩) (by assumption) ?_
    rotate_left
    · (intro w hSw; (try dsimp only at hSw); go_simp <;> with_reducible rfl)
    try simp only [Act.put, List.setIfInBounds_toArray, List.set_cons_zero, List.set_cons_succ]
    refine wpAnyH_ready (rs := [10]) (by kernel_rfl) (by simp) ?_
    refine AllReadyH.cons (by simp only [List.getElem?_toArray, List.getElem?_cons_succ, List.getElem?_cons_zero]; rfl) (fun KK hK => ?_) AllReadyH.nil
    go_simp
    refine hK.out _ _ (HS.out _ (HX6.out _)) (fun _ => ?_)
    clear hK KK
    try simp only [Act.put, List.setIfInBounds_toArray, List.set_cons_zero, List.set_cons_succ]
    refine wpAnyH_done (by kernel_rfl) ?_ _
    go_wp2_with fail
    go_end0
    exact ⟨by first | rfl | (simp; done), ⟨_, _, H6.out.1⟩, (FK.ofFr H1.out.2.2.2.2.1 (fun e => e.2 rfl)).trans ((FK.ofUp (H2.out.1.trans u4)).trans H6.out.2)⟩
  · refine AllReadyH.cons (by simp only [List.getElem?_toArray, List.getElem?_cons_succ, List.getElem?_cons_zero]; rfl) (fun KK hK => ?_) AllReadyH.nil
    go_simp
    have u4 : Up w2 (w3.alloc (Obj.cells #[.slice (some ⟨g, 0, none⟩) L L, .slice a1 x1 c1, .slice a2 x2 c2, .slice a3 x3 c3, .int .i64 n] 95)) := u3.alloc _
    have kn : (w3.alloc (Obj.cells #[.slice (some ⟨g, 0, none⟩) L L, .slice a1 x1 c1, .slice a2 x2 c2, .slice a3 x3 c3, .int .i64 n] 95)).heap[w3.heap.size]? = some (.cells #[.slice (some ⟨g, 0, none⟩) L L, .slice a1 x1 c1, .slice a2 x2 c2, .slice a3 x3 c3, .int .i64 n] 95 (0, 0)) := heap_alloc_new w3 _
    generalize World.alloc w3 _ = w4 at u4 kn ⊢
    generalize w3.heap.size = nb at kn ⊢
    refine hK.out _ _ (HS2.out _ u4) (fun _ => ?_)
    clear hK KK kb3 hHeld
    try simp only [Act.put, List.setIfInBounds_toArray, List.set_cons_zero, List.set_cons_succ]
    have kb4 := HKB.out w4 u4
    refine wpAnyH_ready (rs := [4]) (by kernel_rfl) (by simp) ?_
    refine AllReadyH.cons (by simp only [List.getElem?_toArray, List.getElem?_cons_succ, List.getElem?_cons_zero]; rfl) (fun KK hK => ?_) AllReadyH.nil
    go_simp
    refine hK.out _ _ (HS2.out _ u4) (fun _ => ?_)
    clear hK KK kb4
    try simp only [Act.put, List.setIfInBounds_toArray, List.set_cons_zero, List.set_cons_succ]
    refine wpAnyH_ready (rs := [7]) (by kernel_rfl) (by simp) ?_
    refine AllReadyH.cons (by simp only [List.getElem?_toArray, List.getElem?_cons_succ, List.getElem?_cons_zero]; rfl) (fun KK hK => ?_) AllReadyH.nil
    rw [if_pos (by rfl)]
    refine wp_append_at _ _ _ 55 rfl (bk + 1) 95 Tryz.t95 (.agg zB) 5 104 Tryz.underlying55 hie rfl rfl rfl rfl (by decide) (.slice va n vc) n xs rfl (ownsRow_up H1.out.1.own (H2.out.1.trans u4)) ⟨nb, 0, none⟩ 1 1 [.slice (some ⟨g, 0, none⟩) L L, .slice a1 x1 c1, .slice a2 x2 c2, .slice a3 x3 c3, .int .i64 n] rfl rfl ?c1 ?c2 ?c3 ?c4 ?c5 ?_
    case c1 =>
      intro j u hu
      rw [Addr.add_lit, Nat.zero_add, cell_of_row _ _ _ _ _ _ kn]
      simpa using hu
    case c2 =>
      intro u hu
      simp at hu
      rcases hu with rfl | rfl | rfl | rfl | rfl <;> rfl
    case c3 => unfold maxLen; omega
    case c4 => omega
    case c5 => have := HXB.out; have := (Array.getElem?_eq_some_iff.1 H2.out.2).1; have := u4.size; omega
    intro v' w5 ho5 hg5 hat
    obtain ⟨va', vc', rfl, hcc1, hcc2⟩ := own_slice ho5
    have H6 : Hid _ := BkV.last ((H1.out.1.mono (K' := fun b => K b ∧ b ≠ g) (fun b _ hb => hb.1)).up (H2.out.1.trans u4)) hlt hg5 ho5 hat (fun b hb => Nat.lt_of_lt_of_le (HKs.out b hb) (H2.out.1.trans u4).size) (HL.out.up (H2.out.1.trans u4)) (H1.out.2.1.up (H2.out.1.trans u4)) (H1.out.2.2.1.up (H2.out.1.trans u4)) (H1.out.2.2.2.1.up (H2.out.1.trans u4)) (by intro u hu; simp at hu; rcases hu with rfl | rfl | rfl | rfl | rfl <;> rfl)
    have H5 : Hid _ := BkV.grow (H1.out.1.up (H2.out.1.trans u4)) hg5 ho5 hat
    have kb5 : w5.cell? ⟨bk, 0, none⟩ = some (.slice va n vc) := by rw [cell_of_row _ _ _ _ _ _ H5.out.1]; rfl
    have kf5 : w5.frozen? ⟨bk, 0, none⟩ = false := by have hq := H5.out.1; simp [World.frozen?, hq]
    have hx5 : w5.heap[xb]? = some (.cells #[.slice (some ⟨g, 0, none⟩) L L, .slice a1 x1 c1, .slice a2 x2 c2, .slice a3 x3 c3, .int .i64 n] 95 (0, 0)) := (hg5.block xb (Nat.lt_of_lt_of_le (Array.getElem?_eq_some_iff.1 H2.out.2).1 u4.size) (fun e => by have := (H1.out.1.own.lt xb e.symm).2; omega)).trans ((u4.block xb (Array.getElem?_eq_some_iff.1 H2.out.2).1).trans H2.out.2)
    have HX6 : Hid (∀ u, (w5.setCell ⟨bk, 0, none⟩ u).heap[xb]? = some (.cells #[.slice (some ⟨g, 0, none⟩) L L, .slice a1 x1 c1, .slice a2 x2 c2, .slice a3 x3 c3, .int .i64 n] 95 (0, 0))) := fun u => ((Fr.refl bk w5).setCell.block xb (Array.getElem?_eq_some_iff.1 hx5).1 (by have := HXB.out; omega)).trans hx5
    refine hK.out _ _ (HS.out _ hx5) (fun hHeld => ?_)
    clear hK KK
    try simp only [Act.put, List.setIfInBounds_toArray, List.set_cons_zero, List.set_cons_succ]
    refine wpAnyH_take (i := 8) (v := ?_) (by simp only [List.getElem?_toArray, List.getElem?_cons_succ, List.getElem?_cons_zero]; rfl) (by kernel_rfl) (by kernel_rfl) (by kernel_rfl) (by intro _ _ _ h; exact h) (Or.inl ⟨by rfl, ?_⟩) (by assumption) ?_
    rotate_left
    · (intro w hSw; (try dsimp only at hSw); go_simp <;> with_reducible rfl)
    try simp only [Act.put, List.setIfInBounds_toArray, List.set_cons_zero, List.set_cons_succ]
    refine wpAnyH_take (i := 9) (v := ?_) (by simp only [List.getElem?_toArray, List.getElem?_cons_succ, List.getElem?_cons_zero]; rfl) (by kernel_rfl) (by kernel_rfl) (by kernel_rfl) (by intro _ _ _ h; exact h) (Or.inl ⟨by rfl, ?_⟩) (by assumption) ?_
    rotate_left
    · (intro w hSw; (try dsimp only at hSw); go_simp <;> with_reducible rfl)
    try simp only [Act.put, List.setIfInBounds_toArray, List.set_cons_zero, List.set_cons_succ]
    refine wpAnyH_ready (rs := [10]) (by kernel_rfl) (by simp) ?_
    refine AllReadyH.cons (by simp only [List.getElem?_toArray, List.getElem?_cons_succ, List.getElem?_cons_zero]; rfl) (fun KK hK => ?_) AllReadyH.nil
    go_simp
    refine hK.out _ _ (HS.out _ (HX6.out _)) (fun _ => ?_)
    clear hK KK
    try simp only [Act.put, List.setIfInBounds_toArray, List.set_cons_zero, List.set_cons_succ]
    refine wpAnyH_done (by kernel_rfl) ?_ _
    go_wp2_with fail
    go_end0
    exact ⟨by first | rfl | (simp; done), ⟨_, _, H6.out.1⟩, (FK.ofFr H1.out.2.2.2.2.1 (fun e => e.2 rfl)).trans ((FK.ofUp (H2.out.1.trans u4)).trans H6.out.2)⟩
end Go.Proofs.YtlgfpddiebdmaaaGreatDoor
/- The book is looked through; three answers go into it. No condition. -/
namespace Go.Proofs.YtlgfpddiebdmaaaGreatDoor
open Go.RowKit
set_option linter.unusedVariables false
set_option maxRecDepth 100000 in
set_option maxHeartbeats 2000000 in
theorem looks_any {K : Nat → Prop} {bk n : Nat} {W : World} (h : Bk K bk n W) : Calls Tryz.prog 25 #[.pointer (some ⟨bk, 0, none⟩)] W fun e w' => e = .returned (.bool true) ∧ Up W w' := by
  obtain ⟨v, xs, h⟩ := h
  have hn8 := h.n8
  obtain ⟨va, vc, rfl, hc1, hc2⟩ := own_slice h.own
  have l2 : vc ≤ 9223372036854775807 := by unfold maxLen at hc2; omega
  have HB : Hid (∀ w', Up W w' → BkV K bk n (.slice va n vc) xs w') := fun w' u => h.up u
  have H0 : Hid (Up W W) := Up.refl W
  clear h
  have HKB : Hid (∀ w', Up W w' → w'.cell? ⟨bk, 0, none⟩ = some (.slice va n vc)) := fun w' u => by rw [cell_of_row _ _ _ _ _ _ (HB.out w' u).blk]; rfl
  go_enter Tryz.func25, Tryz.ntmps25
  go_wp2_with fail
  go_loopw [3, 4, 5] (fun B I _ wr => ∃ i : Nat, i ≤ n ∧ B = .bool true ∧ I = .int .i64 i ∧ Hid (Up W wr)) (fun _ I _ _ => n - (intOf I).toNat)
  case atStart => exact ⟨0, by omega, rfl, rfl, H0⟩
  case round =>
    clear H0
    obtain ⟨i, hi, rfl, rfl, M0⟩ := hrel
    have kb := HKB.out wr M0.out
    by_cases hlt : i < n
    · have d1 : decide ((i : Int) < (n : Int)) = true := decide_eq_true (by omega)
      have e1 : (i : Int) < (n : Int) := by omega
      have hB := HB.out wr M0.out
      obtain ⟨gb, rfl⟩ : ∃ gb, va = some ⟨gb, 0, none⟩ := by
        rcases hB.own.2 with ⟨_, hn⟩ | ⟨gb, cap, cur, hv, _⟩
        · omega
        · cases hv
          exact ⟨gb, rfl⟩
      obtain ⟨v0, v1, v2, v3, h0, h1, h2, h3, h4, m0, m1, m2, m3⟩ := hB.ent i hlt
      have cc := hB.own.cells (g := gb) rfl
      have k0 : wr.cell? ⟨gb, i * 5, none⟩ = some v0 := by have := cc _ _ h0; rw [Addr.add_lit, Nat.zero_add] at this; exact this
      have k1 : wr.cell? ⟨gb, i * 5 + 1, none⟩ = some v1 := by have := cc _ _ h1; rw [Addr.add_lit, Nat.zero_add] at this; exact this
      have k2 : wr.cell? ⟨gb, i * 5 + 2, none⟩ = some v2 := by have := cc _ _ h2; rw [Addr.add_lit, Nat.zero_add] at this; exact this
      have k3 : wr.cell? ⟨gb, i * 5 + 3, none⟩ = some v3 := by have := cc _ _ h3; rw [Addr.add_lit, Nat.zero_add] at this; exact this
      have k4 : wr.cell? ⟨gb, i * 5 + 4, none⟩ = some (.int .i64 i) := by have := cc _ _ h4; rw [Addr.add_lit, Nat.zero_add] at this; exact this
      have HSt : Hid _ := still_any (m := i % 251) (M := i) m0 m1 m2 m3 rfl (by omega)
      clear hB h0 h1 h2 h3 h4 m0 m1 m2 m3 cc
      go_wp2_with fail
      refine Calls.mono HSt.out ?_
      rintro e w2 ⟨rfl, u2⟩
      have M2 : Hid (Up W w2) := M0.out.trans u2
      clear u2 M0 k0 k1 k2 k3 k4 kb
      go_wp2_with fail
      refine ⟨⟨i + 1, by omega, ?_, ?_, M2⟩, ?_⟩
      · first | rfl | (simp; done)
      · first | rfl | (simp; done)
      · simp [intOf]
        omega
    · have d1 : decide ((i : Int) < (n : Int)) = false := decide_eq_false (by omega)
      go_wp2_with fail
      go_ret
      exact ⟨by first | rfl | (simp; done), M0.out⟩
set_option maxRecDepth 100000 in
set_option maxHeartbeats 2000000 in
theorem three_any {K : Nat → Prop} {bk n ga gb gc : Nat} {F : Nat → Int} {S : ByteArray} {W : World} (h : Bk K bk n W) (ha : NmAt W ga 22 F) (hb : NmAt W gb 22 F) (hc : NmAt W gc 22 F) (hF : ∀ k, 0 ≤ F k ∧ F k ≤ 255) (ka : K ga) (kb : K gb) (kc : K gc) (hab : gb ≠ ga) (hac : gc ≠ ga) (hbc : gc ≠ gb) (hK : ∀ b, K b → b < W.heap.size) (hS : S = strN 22 F) (hn : n < 99990) :
    Calls Tryz.prog 42 #[.pointer (some ⟨bk, 0, none⟩), .slice (some ⟨ga, 0, none⟩) 22 22, .slice (some ⟨gb, 0, none⟩) 22 22, .slice (some ⟨gc, 0, none⟩) 22 22] W fun e w' => e = .returned (.bool true) ∧ Bk (fun b => ((K b ∧ b ≠ ga) ∧ b ≠ gb) ∧ b ≠ gc) bk (n + 1 + 1 + 1) w' ∧ FK (fun b => ((K b ∧ b ≠ ga) ∧ b ≠ gb) ∧ b ≠ gc) W w' := by
  have HC : Hid (∀ w g, NmAt w g 22 F → (convert 28 9 (.slice (some ⟨g, 0, none⟩) 22 22)).run Tryz.prog w = .ok (.string S) w) := fun w g n => by rw [hS]; exact n.conv 22
  have H0 : Hid (NmAt W gb 22 F ∧ NmAt W gc 22 F) := ⟨hb, hc⟩
  have H1 : Hid _ := byte_any h ha hF (by decide) ka hK (by omega)
  have HG : Hid (gb < W.heap.size ∧ gc < W.heap.size) := ⟨hb.lt, hc.lt⟩
  have c0 := HC.out W gc hc
  clear h ha hb hc hS
  go_enter Tryz.func42, Tryz.ntmps42
  go_wp2_with fail
  refine Calls.mono H1.out ?_
  rintro e w1 ⟨rfl, B1, f1⟩
  have N1 : Hid (NmAt w1 gb 22 F ∧ NmAt w1 gc 22 F) := ⟨H0.out.1.of_block (f1.block gb HG.out.1 ⟨kb, hab⟩), H0.out.2.of_block (f1.block gc HG.out.2 ⟨kc, hac⟩)⟩
  have F1 : Hid (FK (fun b => K b ∧ b ≠ ga) W w1) := f1
  have H2 : Hid _ := byte_any B1 N1.out.1 hF (by decide) ⟨kb, hab⟩ (fun b hb => Nat.lt_of_lt_of_le (hK b hb.1) f1.size) (by omega)
  have c1 := HC.out w1 gb N1.out.1
  have c2 := HC.out w1 gc N1.out.2
  clear f1 B1 H1 H0 c0
  go_wp2_with fail
  refine Calls.mono H2.out ?_
  rintro e w2 ⟨rfl, B2, f2⟩
  have z1 := F1.out.size
  have N2 : Hid (NmAt w2 gc 22 F) := N1.out.2.of_block (f2.block gc N1.out.2.lt ⟨⟨kc, hac⟩, hbc⟩)
  have F2 : Hid (FK (fun b => (K b ∧ b ≠ ga) ∧ b ≠ gb) W w2) := (F1.out.mono (fun b _ hb => hb.1)).trans f2
  have H3 : Hid _ := byte_any B2 N2.out hF (by decide) ⟨⟨kc, hac⟩, hbc⟩ (fun b hb => Nat.lt_of_lt_of_le (hK b hb.1.1) F2.out.size) (by omega)
  have c3 := HC.out w2 gc N2.out
  clear f2 B2 H2 c1 c2 z1 N1 F1
  go_wp2_with fail
  refine Calls.mono H3.out ?_
  rintro e w3 ⟨rfl, B3, f3⟩
  have HE : Hid (Bk (fun b => ((K b ∧ b ≠ ga) ∧ b ≠ gb) ∧ b ≠ gc) bk (n + 1 + 1 + 1) w3 ∧ FK (fun b => ((K b ∧ b ≠ ga) ∧ b ≠ gb) ∧ b ≠ gc) W w3) := ⟨B3, (F2.out.mono (fun b _ hb => hb.1)).trans f3⟩
  clear f3 B3 H3 c3 F2 N2
  go_wp2_with fail
  go_ret
  exact ⟨by first | rfl | (simp; done), HE.out⟩
end Go.Proofs.YtlgfpddiebdmaaaGreatDoor
/- Bytes that are lent, and come back. No condition. -/
namespace Go.Proofs.YtlgfpddiebdmaaaGreatDoor
open Go.RowKit
set_option linter.unusedVariables false
def lentF (len : Nat) (f : Nat → Int) (k : Nat) : Int := if k < len then f k else 77
def lentTo (len : Nat) (f : Nat → Int) (m : Nat) (k : Nat) : Int := if k < len then f k else if k < m then 77 else 0
theorem lentTo_set (len : Nat) (f : Nat → Int) (m : Nat) (hm : len ≤ m) (k : Nat) : (if k = m then 77 else lentTo len f m k) = lentTo len f (m + 1) k := by
  unfold lentTo
  repeat' split
  all_goals first | omega | rfl
theorem lentTo_0 (len : Nat) (f : Nat → Int) (k : Nat) : putF (fun _ => 0) f 0 len k = lentTo len f len k := by
  unfold putF lentTo
  repeat' split
  all_goals first | omega | rfl
theorem lentTo_F (len : Nat) (f : Nat → Int) (i k : Nat) (hk : k < len + 70) (hi : len + 70 ≤ i) : lentTo len f i k = lentF len f k := by
  unfold lentTo lentF
  repeat' split
  all_goals first | omega | rfl
set_option maxRecDepth 100000 in
set_option maxHeartbeats 1000000 in
theorem lent_any {W : World} {aa : Option Addr} {ab ao len cap : Nat} {f : Nat → Int} (D : Byts W aa ab ao len cap f) (hl : len ≤ 140737488351232) : Calls Tryz.prog 19 #[.slice aa len cap] W fun e w' => ∃ g, e = .returned (.slice (some ⟨g, 0, none⟩) len (len + 70)) ∧ W.heap.size ≤ g ∧ NmAt w' g (len + 70) (lentF len f) ∧ Up W w' := by
  have HD : Hid (∀ w', Up W w' → Byts w' aa ab ao len cap f) := fun w' u => D.upT u
  clear D
  have HM : Hid (NmAt (W.alloc (.cells (madeCells #[.int .u8 0] (len + 70)) 5)) W.heap.size (len + 70) (fun _ => 0)) := made_nm W (len + 70)
  have HU : Hid (Up W (W.alloc (.cells (madeCells #[.int .u8 0] (len + 70)) 5))) := (Up.refl W).alloc _
  have HC1 : Hid (∀ w1, Up W w1 → 0 < len → ∃ ad, aa = some ad ∧ ∀ k, k < len → w1.cell? (ad.add k) = some (.int .u8 (f k))) := fun w1 u1 hp => ⟨_, (HD.out w1 u1).ad hp, fun k hk => by rw [Addr.add_lit]; exact (HD.out w1 u1).cell k hk⟩
  have HCL : Hid (len = Nat.min len (len + 70)) := (Nat.min_eq_left (by omega)).symm
  have e70 : (0 : Int) ≤ (len : Int) + 70 := by omega
  go_enter Tryz.func19, Tryz.ntmps19
  go_wp2_with (first | (at_make; refine wpList_make_row _ rfl _ _ 28 rfl 5 Tryz.t5 (.int .u8 0) Tryz.underlying28 (by kernel_rfl) (by kernel_rfl) (by kernel_rfl) rfl .i64 .i64 (len + 70) rfl rfl (by show 1 * (len + 70) ≤ _; omega) (by omega) ?_; generalize World.alloc W _ = w1 at HM HU ⊢) | (refine wpList_copyO rfl (.tmp 9) (.tmp 10) rfl W.heap.size 0 (len + 70) (len + 70) aa len cap rfl rfl (len + 70) len (fun _ => 0) f HM.out HCL.out (HC1.out _ HU.out) (by omega) ?_; intro w2 n2 F2; have H2 : Hid (NmAt w2 W.heap.size (len + 70) (lentTo len f len) ∧ Up W w2) := ⟨n2.congr (fun k _ => lentTo_0 len f k), Fr.up HU.out (Nat.le_refl _) F2⟩; clear n2 F2))
  try simp only [Act.put, goInt, List.setIfInBounds_toArray, List.set_cons_zero, List.set_cons_succ]
  clear HM HC1 HCL HD HU
  generalize hg : W.heap.size = g at H2 ⊢
  have HG : Hid (W.heap.size ≤ g) := Nat.le_of_eq hg
  clear hg
  go_loopw [4] (fun I wr => ∃ i : Nat, len ≤ i ∧ i ≤ len + 70 ∧ I = .int .i64 i ∧ Hid (NmAt wr g (len + 70) (lentTo len f i) ∧ Up W wr)) (fun I _ => len + 70 - (intOf I).toNat)
  case atStart => exact ⟨len, by omega, by omega, rfl, H2⟩
  case round =>
    clear H2
    obtain ⟨i, hi, hi2, rfl, M0⟩ := hrel
    by_cases hlt : i < len + 70
    · have d1 : decide ((i : Int) < (len : Int) + 70) = true := decide_eq_true (by omega)
      have e1 : (i : Int) < ((len + 70 : Nat) : Int) := by omega
      have d2 : decide ((i : Int) < ((len + 70 : Nat) : Int)) = true := decide_eq_true (by omega)
      have kc := M0.out.1.cell i hlt
      have kf := M0.out.1.fz i
      have HS : Hid (NmAt (wr.setCell ⟨g, i, none⟩ (.int .u8 77)) g (len + 70) (lentTo len f (i + 1)) ∧ Up W (wr.setCell ⟨g, i, none⟩ (.int .u8 77))) := ⟨(M0.out.1.set i hlt 77).congr (fun k _ => lentTo_set len f i hi k), M0.out.2.setCell HG.out _⟩
      clear M0
      go_wp2_with fail
      refine ⟨⟨i + 1, by omega, by omega, ?_, HS⟩, ?_⟩
      · first | rfl | (simp; done)
      · simp [intOf]
        omega
    · have d1 : decide ((i : Int) < (len : Int) + 70) = false := decide_eq_false (by omega)
      have d2 : decide ((i : Int) < ((len + 70 : Nat) : Int)) = false := decide_eq_false (by omega)
      have M1 : Hid (NmAt wr g (len + 70) (lentF len f) ∧ Up W wr) := ⟨M0.out.1.congr (fun k hk => lentTo_F len f i k hk (by omega)), M0.out.2⟩
      clear M0
      go_wp2_with fail
      go_ret
      exact ⟨g, by first | rfl | (simp; done), HG.out, M1.out⟩
def backTo (h : Nat → Int) (i k : Nat) : Int := if k < i then 78 else h k
theorem backTo_set (h : Nat → Int) (i k : Nat) : (if k = i then 78 else backTo h i k) = backTo h (i + 1) k := by
  unfold backTo
  repeat' split
  all_goals first | omega | rfl
set_option maxRecDepth 100000 in
set_option maxHeartbeats 1000000 in
/-- lent bytes are as they were; then they are written over -/
theorem back_any {W : World} {aa : Option Addr} {ab ao len cap g : Nat} {f : Nat → Int} (D : Byts W aa ab ao len cap f) (hl : len ≤ 140737488351232) (hN : NmAt W g (len + 70) (lentF len f)) (hg : 0 < len → ab ≠ g) : Calls Tryz.prog 21 #[.slice (some ⟨g, 0, none⟩) len (len + 70), .slice aa len cap] W fun e w' => e = .returned (.bool true) ∧ Fr g W w' := by
  have HD : Hid (∀ w', Fr g W w' → Byts w' aa ab ao len cap f) := fun w' fr => ⟨D.lc, D.cm, D.ad, D.u8, fun k hk => (fr.cell (World.block_lt_of_cell? _ _ (D.cell k hk)) (hg (by omega))).trans (D.cell k hk)⟩
  have l1 := D.lc
  have l2 : cap ≤ 9223372036854775807 := by have := D.cm; unfold maxLen at this; omega
  have H0 : Hid (NmAt W g (len + 70) (backTo (lentF len f) 0) ∧ Fr g W W) := ⟨hN.congr (fun k _ => by unfold backTo; rw [if_neg (by omega)]), Fr.refl g W⟩
  clear D hN hg
  have e70 : (len : Int) + 70 ≤ ((len + 70 : Nat) : Int) := by omega
  have e71 : (0 : Int) ≤ (len : Int) + 70 := by omega
  go_enter Tryz.func21, Tryz.ntmps21
  go_wp2_with fail
  go_loopw [6, 7, 8] (fun B I _ wr => ∃ i : Nat, i ≤ len + 70 ∧ B = .bool true ∧ I = .int .i64 i ∧ Hid (NmAt wr g (len + 70) (backTo (lentF len f) i) ∧ Fr g W wr)) (fun _ I _ _ => len + 70 - (intOf I).toNat)
  case atStart => exact ⟨0, by omega, rfl, rfl, H0⟩
  case round =>
    clear H0
    obtain ⟨i, hi, rfl, rfl, M0⟩ := hrel
    by_cases hlt : i < len + 70
    · have d1 : decide ((i : Int) < (len : Int) + 70) = true := decide_eq_true (by omega)
      have e1 : (i : Int) < ((len + 70 : Nat) : Int) := by omega
      have d2 : decide ((i : Int) < ((len + 70 : Nat) : Int)) = true := decide_eq_true (by omega)
      have e3 : (i : Int) < (len : Int) + 70 := by omega
      have kc := M0.out.1.cell i hlt
      have kf := M0.out.1.fz i
      have HS : Hid (NmAt (wr.setCell ⟨g, i, none⟩ (.int .u8 78)) g (len + 70) (backTo (lentF len f) (i + 1)) ∧ Fr g W (wr.setCell ⟨g, i, none⟩ (.int .u8 78))) := ⟨(M0.out.1.set i hlt 78).congr (fun k _ => backTo_set _ i k), M0.out.2.setCell⟩
      have eb : backTo (lentF len f) i i = lentF len f i := by unfold backTo; rw [if_neg (by omega)]
      rw [eb] at kc
      by_cases hc : i < len
      · have d3 : decide ((i : Int) < (len : Int)) = true := decide_eq_true (by omega)
        have e4 : (i : Int) < (len : Int) := by omega
        have bd := HD.out wr M0.out.2
        obtain rfl := bd.ad (by omega)
        have kd := bd.cell i hc
        have ef : lentF len f i = f i := if_pos hc
        rw [ef] at kc
        clear M0 bd eb ef HD
        go_wp2_with fail
        refine ⟨⟨i + 1, by omega, ?_, ?_, HS⟩, ?_⟩
        · first | rfl | (simp; done)
        · first | rfl | (simp; done)
        · simp [intOf]
          omega
      · have d3 : decide ((i : Int) < (len : Int)) = false := decide_eq_false (by omega)
        have ef : lentF len f i = 77 := if_neg hc
        rw [ef] at kc
        clear M0 eb ef HD
        go_wp2_with fail
        refine ⟨⟨i + 1, by omega, ?_, ?_, HS⟩, ?_⟩
        · first | rfl | (simp; done)
        · first | rfl | (simp; done)
        · simp [intOf]
          omega
    · have d1 : decide ((i : Int) < (len : Int) + 70) = false := decide_eq_false (by omega)
      have d2 : decide ((i : Int) < ((len + 70 : Nat) : Int)) = false := decide_eq_false (by omega)
      go_wp2_with fail
      go_ret
      exact ⟨by first | rfl | (simp; done), M0.out.2⟩
end Go.Proofs.YtlgfpddiebdmaaaGreatDoor
/- A state goes from one processor into another. No condition. -/
namespace Go.Proofs.YtlgfpddiebdmaaaGreatDoor
open Go.RowKit
set_option linter.unusedVariables false
theorem Cp.ofB {w w' : World} {b : Nat} {s : St} (h : Cp w b s) (e : w'.heap[b]? = w.heap[b]?) : Cp w' b s := e.trans h
theorem Byts.to {w : World} {aa : Option Addr} {ab ao n c : Nat} {f g : Nat → Int} (h : Byts w aa ab ao n c f) (hg : ∀ k, 0 ≤ g k ∧ g k ≤ 255) (e : ∀ k, k < n → f k = g k) : Byts w aa ab ao n c g := ⟨h.lc, h.cm, h.ad, hg, fun k hk => by rw [← e k hk]; exact h.cell k hk⟩
theorem lentF_b {len : Nat} {f : Nat → Int} (h : ∀ k, 0 ≤ f k ∧ f k ≤ 255) (k : Nat) : 0 ≤ lentF len f k ∧ lentF len f k ≤ 255 := by
  unfold lentF
  split
  · exact h k
  · decide
theorem lentF_low {f : Nat → Int} {len k : Nat} (h : k < len) : lentF len f k = f k := if_pos h
set_option maxRecDepth 100000 in
set_option maxHeartbeats 2000000 in
theorem moved_any {K : Nat → Prop} {bk n ba bz : Nat} {p r : St} {W : World} (h : Bk K bk n W) (hy : Cp W ba p) (hz : Cp W bz r) (v : p.Inv) (rp : Rep p) (o : r.Ok) (hn : n < 99990) (ky : K ba) (kz : K bz) (hyz : ba ≠ bz) (hK : ∀ b, K b → b < W.heap.size) :
    Calls Tryz.prog 24 #[.pointer (some ⟨bk, 0, none⟩), .pointer (some ⟨ba, 0, none⟩), .pointer (some ⟨bz, 0, none⟩)] W fun e w' => e = .returned (.bool true) ∧ Cp w' bz p ∧ Bk K bk (n + 1 + 1 + 1) w' ∧ FK (fun b => K b ∧ b ≠ bz) W w' := by
  have HLR : Hid (∀ (w : World) (aa : Option Addr) (ab ao cap b : Nat) (s : St), Cp w b s → Byts w aa ab ao 22 cap p.enc → Calls Tryz.prog 20 #[.pointer (some ⟨b, 0, none⟩), .slice aa 22 cap] w fun e w' => e = .returned (.int .i64 0) ∧ Cp w' b p ∧ Fr b w w') := fun w aa ab ao cap b s hb D => load_rep hb D v rp
  have HST0 : Hid (∀ w, Cp w ba p → Calls Tryz.prog 18 #[.pointer (some ⟨ba, 0, none⟩)] w fun e w' => e = .returned (.slice (some ⟨w.heap.size, 0, none⟩) 22 22) ∧ NmAt w' w.heap.size 22 p.enc ∧ Up w w') := fun w hw => state_any ba p w hw v.ok
  have HSTz : Hid (∀ w, Cp w bz r → Calls Tryz.prog 18 #[.pointer (some ⟨bz, 0, none⟩)] w fun e w' => e = .returned (.slice (some ⟨w.heap.size, 0, none⟩) 22 22) ∧ NmAt w' w.heap.size 22 r.enc ∧ Up w w') := fun w hw => state_any bz r w hw o
  obtain ⟨F, hF0⟩ : ∃ F : Nat → Int, F = p.enc := ⟨_, rfl⟩
  have hF : ∀ k, 0 ≤ F k ∧ F k ≤ 255 := by rw [hF0]; exact enc_b v.ok
  have HN : Hid (n < 99990) := hn
  obtain ⟨S, hS⟩ : ∃ S, S = strN 22 F := ⟨_, rfl⟩
  have HC : Hid (∀ w g, NmAt w g 22 F → (convert 28 9 (.slice (some ⟨g, 0, none⟩) 22 22)).run Tryz.prog w = .ok (.string S) w) := fun w g n => by rw [hS]; exact n.conv 22
  have HST : Hid (∀ w, Cp w ba p → Calls Tryz.prog 18 #[.pointer (some ⟨ba, 0, none⟩)] w fun e w' => e = .returned (.slice (some ⟨w.heap.size, 0, none⟩) 22 22) ∧ NmAt w' w.heap.size 22 F ∧ Up w w') := by rw [hF0]; exact HST0.out
  rw [← hF0] at HLR
  have HFb : Hid (∀ k, 0 ≤ F k ∧ F k ≤ 255) := hF
  have HS : Hid (S = strN 22 F) := hS
  have H0 : Hid (Bk K bk n W ∧ Cp W ba p ∧ Cp W bz r ∧ K ba ∧ K bz ∧ ba ≠ bz ∧ ∀ b, K b → b < W.heap.size) := ⟨h, hy, hz, ky, kz, hyz, hK⟩
  clear h hy hz v rp o ky kz hyz hK hF0 hF hS hn HST0
  go_enter Tryz.func24, Tryz.ntmps24
  go_wp2_with fail
  refine (HST.out W H0.out.2.1).mono ?_
  rintro e w1 ⟨rfl, n1, u1⟩
  generalize hg1 : W.heap.size = g1 at n1 ⊢
  have H1 : Hid (NmAt w1 g1 22 F ∧ Up W w1 ∧ W.heap.size = g1) := ⟨n1, u1, hg1⟩
  clear n1 u1 hg1
  go_wp2_with fail
  refine (HST.out w1 (H0.out.2.1.up H1.out.2.1)).mono ?_
  rintro e w2 ⟨rfl, n2, u2⟩
  generalize hg2 : w1.heap.size = g2 at n2 ⊢
  have H2 : Hid (NmAt w2 g1 22 F ∧ NmAt w2 g2 22 F ∧ Up W w2 ∧ W.heap.size = g1 ∧ g1 < g2) := ⟨H1.out.1.of_block (u2.block g1 H1.out.1.lt), n2, H1.out.2.1.trans u2, H1.out.2.2, by have := H1.out.1.lt; omega⟩
  clear n2 u2 hg2 H1
  go_wp2_with fail
  refine (HSTz.out w2 (H0.out.2.2.1.up H2.out.2.2.1)).mono ?_
  rintro e w3 ⟨rfl, _, u3⟩
  have H3 : Hid (NmAt w3 g1 22 F ∧ NmAt w3 g2 22 F ∧ Up W w3 ∧ W.heap.size = g1 ∧ g1 < g2) := ⟨H2.out.1.of_block (u3.block g1 H2.out.1.lt), H2.out.2.1.of_block (u3.block g2 H2.out.2.1.lt), H2.out.2.2.1.trans u3, H2.out.2.2.2⟩
  clear u3 H2
  generalize w2.heap.size = gq
  go_wp2_with fail
  refine (HST.out w3 (H0.out.2.1.up H3.out.2.2.1)).mono ?_
  rintro e w4 ⟨rfl, n4, u4⟩
  generalize hg4 : w3.heap.size = g4 at n4 ⊢
  have H4 : Hid (NmAt w4 g1 22 F ∧ NmAt w4 g2 22 F ∧ NmAt w4 g4 22 F ∧ Up W w4 ∧ W.heap.size = g1 ∧ g1 < g2 ∧ g2 < g4) := ⟨H3.out.1.of_block (u4.block g1 H3.out.1.lt), H3.out.2.1.of_block (u4.block g2 H3.out.2.1.lt), n4, H3.out.2.2.1.trans u4, H3.out.2.2.2.1, H3.out.2.2.2.2, by have := H3.out.2.1.lt; omega⟩
  clear n4 u4 hg4 H3 HST
  have c1 := HC.out w4 g1 H4.out.1
  have c2 := HC.out w4 g2 H4.out.2.1
  have c4 := HC.out w4 g4 H4.out.2.2.1
  have HLe : Hid _ := lent_any (H4.out.1.bytsP 22 22 (Nat.le_refl _) (Nat.le_refl _) (by decide) HFb.out) (by decide)
  go_wp2_with fail
  refine Calls.mono HLe.out ?_
  rintro e w5 ⟨cg, rfl, hcg, n5, u5⟩
  have H5 : Hid (NmAt w5 g1 22 F ∧ NmAt w5 g2 22 F ∧ NmAt w5 g4 22 F ∧ NmAt w5 cg (22 + 70) (lentF 22 F) ∧ Up W w5 ∧ W.heap.size = g1 ∧ g1 < g2 ∧ g2 < g4 ∧ g4 < cg) := ⟨H4.out.1.of_block (u5.block g1 H4.out.1.lt), H4.out.2.1.of_block (u5.block g2 H4.out.2.1.lt), H4.out.2.2.1.of_block (u5.block g4 H4.out.2.2.1.lt), n5, H4.out.2.2.2.1.trans u5, H4.out.2.2.2.2.1, H4.out.2.2.2.2.2.1, H4.out.2.2.2.2.2.2, by have := H4.out.2.2.1.lt; omega⟩
  clear hcg n5 u5 HLe H4 c1 c2 c4
  have hzl : Hid (ba < g1 ∧ bz < g1) := ⟨by have := H0.out.2.1.lt; have := H5.out.2.2.2.2.2.1; omega, by have := H0.out.2.2.1.lt; have := H5.out.2.2.2.2.2.1; omega⟩
  have HLo : Hid _ := HLR.out w5 _ _ _ _ bz r (H0.out.2.2.1.up H5.out.2.2.2.2.1) ((H5.out.2.2.2.1.bytsP 22 (22 + 70) (by omega) (by omega) (by decide) (lentF_b HFb.out)).to HFb.out (fun k hk => lentF_low hk))
  go_wp2_with fail
  refine Calls.mono HLo.out ?_
  rintro e w6 ⟨rfl, p6, f6⟩
  have H6 : Hid (NmAt w6 g1 22 F ∧ NmAt w6 g2 22 F ∧ NmAt w6 g4 22 F ∧ NmAt w6 cg (22 + 70) (lentF 22 F) ∧ Cp w6 bz p ∧ Fr bz w5 w6) := by
    have q0 := hzl.out.2
    obtain ⟨r1, r2, r4, rc, ru, z1, z2, z3, z4⟩ := H5.out
    exact ⟨r1.frN f6 (by omega), r2.frN f6 (by omega), r4.frN f6 (by omega), rc.frN f6 (by omega), p6, f6⟩
  clear p6 f6 HLo HLR
  have HBk : Hid _ := back_any (aa := some ⟨g1, 0, none⟩) (ab := g1) (ao := 0) (cap := 22) (g := cg) (H6.out.1.bytsP 22 22 (Nat.le_refl _) (Nat.le_refl _) (by decide) HFb.out) (by decide) H6.out.2.2.2.1 (fun _ => by have := H5.out.2.2.2.2.2; omega)
  go_wp2_with fail
  refine Calls.mono HBk.out ?_
  rintro e w7 ⟨rfl, f7⟩
  have H7 : Hid (NmAt w7 g1 22 F ∧ NmAt w7 g2 22 F ∧ NmAt w7 g4 22 F ∧ Cp w7 bz p ∧ Fr cg w6 w7) := by
    have q0 := hzl.out.2
    obtain ⟨r1, r2, r4, rc, ru, z1, z2, z3, z4⟩ := H5.out
    obtain ⟨t1, t2, t4, tc, tp, tf⟩ := H6.out
    exact ⟨t1.frN f7 (by omega), t2.frN f7 (by omega), t4.frN f7 (by omega), tp.fr f7 (by omega), f7⟩
  clear f7 HBk
  have HK7 : Hid (Bk (fun b => K b ∨ b = g1 ∨ b = g2 ∨ b = g4 ∨ b = cg) bk n w7) := by
    obtain ⟨r1, r2, r4, rc, ru, z1, z2, z3, z4⟩ := H5.out
    exact ((((H0.out.1.mono (fun b hb e => e.elim id (fun e => by omega))).up ru).fr H6.out.2.2.2.2.2 (Or.inl H0.out.2.2.2.2.1)).fr H7.out.2.2.2.2 (Or.inr (Or.inr (Or.inr (Or.inr rfl)))))
  have HZ7 : Hid (∀ b, (K b ∨ b = g1 ∨ b = g2 ∨ b = g4 ∨ b = cg) → b < w7.heap.size) := fun b e => by
    have l0 := H5.out.2.2.2.2.1.size
    have l1 := H6.out.2.2.2.2.2.size
    have l2 := H7.out.2.2.2.2.size
    have l3 := H5.out.2.2.2.1.lt
    obtain ⟨z1, z2, z3, z4⟩ := H5.out.2.2.2.2.2
    rcases e with e | e | e | e | e
    · have := H0.out.2.2.2.2.2.2 b e
      omega
    all_goals omega
  have HTh : Hid _ := three_any HK7.out H7.out.1 H7.out.2.1 H7.out.2.2.1 HFb.out (Or.inr (Or.inl rfl)) (Or.inr (Or.inr (Or.inl rfl))) (Or.inr (Or.inr (Or.inr (Or.inl rfl)))) (by have := H5.out.2.2.2.2.2; omega) (by have := H5.out.2.2.2.2.2; omega) (by have := H5.out.2.2.2.2.2; omega) HZ7.out HS.out HN.out
  go_wp2_with fail
  refine Calls.mono HTh.out ?_
  rintro e w8 ⟨rfl, B8, f8⟩
  have HE : Hid (Cp w8 bz p ∧ Bk K bk (n + 1 + 1 + 1) w8 ∧ FK (fun b => K b ∧ b ≠ bz) W w8) := by
    have q0 := hzl.out.2
    obtain ⟨r1, r2, r4, rc, ru, z1, z2, z3, z4⟩ := H5.out
    have hk := H0.out.2.2.2.2.2.2
    have up4 : ∀ b, K b → (((K b ∨ b = g1 ∨ b = g2 ∨ b = g4 ∨ b = cg) ∧ b ≠ g1) ∧ b ≠ g2) ∧ b ≠ g4 := fun b e => by
      have := hk b e
      exact ⟨⟨⟨Or.inl e, by omega⟩, by omega⟩, by omega⟩
    refine ⟨H7.out.2.2.2.1.ofB (f8.block bz H7.out.2.2.2.1.lt (up4 bz H0.out.2.2.2.2.1)), B8.mono (fun b _ e => up4 b e), ?_⟩
    refine ((FK.ofUp ru).trans ((FK.ofFr H6.out.2.2.2.2.2 (fun e => e.2 rfl)).trans (FK.ofFr H7.out.2.2.2.2 (fun e => ?_)))).trans (f8.mono (fun b _ e => up4 b e.1))
    have := hk cg e.1
    omega
  clear B8 f8 HTh
  go_wp2_with fail
  go_ret
  exact ⟨by first | rfl | (simp; done), HE.out⟩
end Go.Proofs.YtlgfpddiebdmaaaGreatDoor
/- A memory out of any pieces; lines that come round; the book beside what changes. No condition. -/
namespace Go.Proofs.YtlgfpddiebdmaaaGreatDoor
open Go.RowKit
set_option linter.unusedVariables false
structure Pce where
  at' : Int
  aa : Option Addr
  ab : Nat
  ao : Nat
  len : Nat
  cap : Nat
  f : Nat → Int
structure PcsG (W : World) (pa : Option Addr) (pb po pl pc : Nat) (P : Nat → Pce) : Prop where
  lc : pl ≤ pc
  cm : pc ≤ maxLen
  ad : 0 < pl → pa = some ⟨pb, po, none⟩
  i64 : ∀ i, I64 (P i).at'
  c0 : ∀ i, i < pl → W.cell? ⟨pb, po + i * 2, none⟩ = some (.int .i64 (P i).at')
  c1 : ∀ i, i < pl → W.cell? ⟨pb, po + i * 2 + 1, none⟩ = some (.slice (P i).aa (P i).len (P i).cap)
  ln : ∀ i, i < pl → (P i).len ≤ 140737488355328
  by' : ∀ i, i < pl → Byts W (P i).aa (P i).ab (P i).ao (P i).len (P i).cap (P i).f
theorem Fr.byts {g : Nat} {w w' : World} {aa : Option Addr} {ab ao n c : Nat} {f : Nat → Int} (h : Byts w aa ab ao n c f) (u : Fr g w w') (hg : 0 < n → ab ≠ g) : Byts w' aa ab ao n c f :=
  ⟨h.lc, h.cm, h.ad, h.u8, fun k hk => (u.cell (World.block_lt_of_cell? _ _ (h.cell k hk)) (hg (by omega))).trans (h.cell k hk)⟩
theorem PcsG.up {w w' : World} {pa : Option Addr} {pb po pl pc : Nat} {P : Nat → Pce} (h : PcsG w pa pb po pl pc P) (u : Up w w') : PcsG w' pa pb po pl pc P :=
  ⟨h.lc, h.cm, h.ad, h.i64, fun i hi => (u.cell (World.block_lt_of_cell? _ _ (h.c0 i hi))).trans (h.c0 i hi), fun i hi => (u.cell (World.block_lt_of_cell? _ _ (h.c1 i hi))).trans (h.c1 i hi), h.ln, fun i hi => (h.by' i hi).upT u⟩
def layF (f : Nat → Int) (a : Int) (g : Nat → Int) : Nat → Nat → Int
  | 0 => f
  | k + 1 => upd (layF f a g k) ((pickI a 65536 + k) % 65536).toNat (g k)
def memG (P : Nat → Pce) : Nat → Nat → Int
  | 0 => fun _ => 0
  | i + 1 => layF (memG P i) (P i).at' (P i).f (P i).len
theorem layF_byt {f g : Nat → Int} (hf : Byt f) (hg : ∀ k, 0 ≤ g k ∧ g k ≤ 255) (a : Int) : ∀ n, Byt (layF f a g n)
  | 0 => hf
  | n + 1 => fun i => by
    show 0 ≤ upd _ _ _ i ∧ upd _ _ _ i ≤ 255
    unfold upd
    split
    · exact hg n
    · exact layF_byt hf hg a n i
theorem memG_byt {n : Nat} {P : Nat → Pce} (hg : ∀ i, i < n → ∀ k, 0 ≤ (P i).f k ∧ (P i).f k ≤ 255) : ∀ i, i ≤ n → Byt (memG P i)
  | 0, _ => fun _ => ⟨by show (0 : Int) ≤ 0; decide, by show (0 : Int) ≤ 255; decide⟩
  | i + 1, h => layF_byt (memG_byt hg i (by omega)) (hg i (by omega)) _ _
theorem wk63 (n : Int) (h0 : 0 ≤ n) (h1 : n ≤ 9223372036854775807) : IntKind.i64.wrap n = n := by rw [IntKind.wrap_i64]; omega
set_option maxRecDepth 100000 in
set_option maxHeartbeats 1000000 in
theorem memoryG_any {pa0 : Option Addr} {gp po n pc : Nat} {P : Nat → Pce} (w : World) (hp : PcsG w pa0 gp po n pc P) :
    Calls Tryz.prog 9 #[.slice pa0 n pc] w fun e w' => e = .returned (.slice (some ⟨w.heap.size, 0, none⟩) 65536 65536) ∧ Mem w' w.heap.size (memG P n) ∧ Up w w' := by
  have HPc : Hid (PcsG w pa0 gp po n pc P) := hp
  have lc1 := hp.lc
  have lc2 : pc ≤ 9223372036854775807 := by have := hp.cm; unfold maxLen at this; omega
  have hie : Tryz.prog.info? 5 = some Tryz.t5 := by kernel_rfl
  clear hp
  go_enter Tryz.func9, Tryz.ntmps9
  go_wp2_with (refine wpList_make_full _ rfl _ _ 28 rfl 0 5 _ (.int .u8 0) 1 Tryz.underlying28 hie rfl rfl .i64 .i64 65536 65536 65536 rfl rfl rfl rfl (by decide) (by decide) (Nat.zero_le _) ?_)
  intro w1 hown hgr
  have hcell : ∀ i, i < 65536 → w1.cell? ⟨w.heap.size, i, none⟩ = some (.int .u8 0) := fun i hi => by
    rw [hown.cellAt i (by omega), toList_madeCells_one, List.getElem?_replicate, if_pos hi]
  have hlt1 : w.heap.size < w1.heap.size := by
    rcases Nat.lt_or_ge w.heap.size w1.heap.size with h | h
    · exact h
    · have := hcell 0 (by decide)
      unfold World.cell? at this
      rw [show w1.heap[(⟨w.heap.size, 0, none⟩ : Addr).block]? = none from Array.getElem?_eq_none h] at this
      simp at this
  have m1 : Mem w1 w.heap.size (fun _ => 0) := ⟨hlt1, fun i hi => ⟨hcell i hi, hown.frozenAt i⟩⟩
  have F1 : Fr w.heap.size w w1 := ⟨hgr.os, hgr.output, hgr.size, fun k hk hne => hgr.block k hk (by intro e; cases e)⟩
  clear hown hgr hcell
  have HS0 : Hid (Mem w1 w.heap.size (memG P 0) ∧ Fr w.heap.size w w1) := ⟨m1, F1⟩
  obtain ⟨G, hG⟩ : ∃ G, G = w.heap.size := ⟨_, rfl⟩
  have HGe : Hid (w.heap.size = G) := hG.symm
  rw [← hG] at HS0 ⊢
  clear m1 F1 hG hlt1
  go_wp2_with fail
  go_loopw [4] (fun I wr => ∃ i : Nat, i ≤ n ∧ I = .int .i64 i ∧ Hid (Mem wr G (memG P i) ∧ Fr G w wr)) (fun I _ => n - (intOf I).toNat)
  case atStart => exact ⟨0, by omega, rfl, HS0⟩
  case round =>
    obtain ⟨i, hi, rfl, hS⟩ := hrel
    by_cases hlt : i < n
    · have hil : i < n := hlt
      have ha := HPc.out.i64 i
      have ca := HPc.out.c0 i hil
      have cb := HPc.out.c1 i hil
      have DB := HPc.out.by' i hil
      have LB := HPc.out.ln i hil
      have hgp := World.block_lt_of_cell? _ _ ca
      have hgp2 : gp < w.heap.size := hgp
      have hgG : gp ≠ G := by rw [← HGe.out]; omega
      obtain rfl := HPc.out.ad (by omega)
      have HM1 : Hid (memG P (i + 1) = layF (memG P i) (P i).at' (P i).f (P i).len) := rfl
      generalize memG P i = f0 at hS HM1
      generalize P i = pe at ha ca cb DB LB HM1
      obtain ⟨a, pa, gb, bo, m, cp, F⟩ := pe
      simp only at ha ca cb DB LB HM1
      have HDB : Hid (∀ wr, Fr G w wr → Byts wr pa gb bo m cp F) := fun wr f => Fr.byts DB f (fun h0 => by rw [← HGe.out]; have := World.block_lt_of_cell? _ _ (DB.cell 0 h0); have q : gb < w.heap.size := this; omega)
      have HBs : Hid (∀ k, 0 ≤ F k ∧ F k ≤ 255) := DB.u8
      have HPa : Hid (0 < m → pa = some ⟨gb, bo, none⟩) := DB.ad
      have HGb : Hid (0 < m → gb ≠ G) := fun h0 => by rw [← HGe.out]; have := World.block_lt_of_cell? _ _ (DB.cell 0 h0); have q : gb < w.heap.size := this; omega
      have mc1 := DB.lc
      have mc2 : cp ≤ 9223372036854775807 := by have := DB.cm; unfold maxLen at this; omega
      have mcm : m ≤ 140737488355328 := LB
      clear DB LB
      have hki : decide ((i : Int) < (n : Int)) = true := decide_eq_true (by omega)
      have hin : (i : Int) < (n : Int) := by omega
      have pp := pick65536 a
      have HPk : Hid (∀ W, Calls Tryz.prog 13 #[.int .i64 a, .int .i64 65536] W fun e w' => e = .returned (.int .i64 (pickI a 65536)) ∧ w' = W) := fun W => pick_any a 65536 W ha (by decide) (by decide)
      have HLy : Hid (∀ k, layF f0 a F (k + 1) = upd (layF f0 a F k) ((pickI a 65536 + k) % 65536).toNat (F k)) := fun k => rfl
      generalize hP : pickI a 65536 = PA at pp HPk HLy
      have pp1 := pp.1
      have pp2 := pp.2
      clear pp hP
      have ca1 : wr.cell? ⟨gp, po + i * 2, none⟩ = some (.int .i64 a) := (hS.out.2.cellq hgp hgG).trans ca
      have cb1 : wr.cell? ⟨gp, po + i * 2 + 1, none⟩ = some (.slice pa m cp) := (hS.out.2.cellq hgp hgG).trans cb
      go_wp2_with fail
      go_loopw [5] (fun K wr => ∃ k : Nat, k ≤ m ∧ K = .int .i64 k ∧ Hid (Mem wr G (layF f0 a F k) ∧ Fr G w wr)) (fun K _ => m - (intOf K).toNat)
      case atStart => exact ⟨0, by omega, rfl, hS⟩
      case round =>
        clear ca1 cb1
        obtain ⟨k, hk, rfl, hS2⟩ := hrel
        have ca1 : wr.cell? ⟨gp, po + i * 2, none⟩ = some (.int .i64 a) := (hS2.out.2.cellq hgp hgG).trans ca
        have cb1 : wr.cell? ⟨gp, po + i * 2 + 1, none⟩ = some (.slice pa m cp) := (hS2.out.2.cellq hgp hgG).trans cb
        by_cases hkl : k < m
        · have hpa2 := HPa.out (by omega)
          have cx1 := (HDB.out wr hS2.out.2).cell k hkl
          have hx1 := (HBs.out k).1
          have hx2 := (HBs.out k).2
          have hbG := HGb.out (by omega)
          rw [hpa2] at cb1
          clear hpa2
          obtain ⟨x, hxe⟩ : ∃ x, x = F k := ⟨_, rfl⟩
          have hgd : F k = x := hxe.symm
          rw [← hxe] at cx1 hx1 hx2
          clear hxe
          obtain ⟨I, hI⟩ : ∃ I : Int, I = (PA + k) % 65536 := ⟨_, rfl⟩
          have hI0 : 0 ≤ I := by omega
          have hI1 : I < 65536 := by omega
          have hIe : (PA + (k : Int)) % 65536 = I := hI.symm
          have HSt : Hid (∀ W, Mem W G (layF f0 a F k) → Mem (W.setCell ⟨G, I.toNat, none⟩ (.int .u8 x)) G (layF f0 a F (k + 1))) := fun W hW => by
            rw [HLy.out k, hgd, hIe]
            exact hW.set I.toNat (by omega) x
          have cG : wr.cell? ⟨G, I.toNat, none⟩ = some (.int .u8 (layF f0 a F k I.toNat)) := (hS2.out.1.2 I.toNat (by omega)).1
          have fG : wr.frozen? ⟨G, I.toNat, none⟩ = false := (hS2.out.1.2 I.toNat (by omega)).2
          have hkm : decide ((k : Int) < (m : Int)) = true := decide_eq_true (by omega)
          have hkm' : (k : Int) < (m : Int) := by omega
          have n1 : G ≠ gp := fun e => hgG e.symm
          have n2 : G ≠ gb := fun e => hbG e.symm
          have hIt : (PA + (k : Int)).tmod 65536 = I := by rw [Int.tmod_eq_emod_of_nonneg (by omega)]; exact hIe
          have hws : IntKind.i64.wrap (PA + (k : Int)) = PA + (k : Int) := wk63 _ (by omega) (by omega)
          have hwI : IntKind.i64.wrap I = I := wi _ (by omega) (by omega)
          clear hgd hI
          go_wp2_with fail
          go_region_held3 (fun w' => w'.cell? ⟨gp, po + i * 2, none⟩ = some (.int .i64 a) ∧ w'.cell? ⟨gp, po + i * 2 + 1, none⟩ = some (.slice (some ⟨gb, bo, none⟩) m cp) ∧ w'.cell? ⟨gb, bo + k, none⟩ = some (.int .u8 x))
            (first | exact ⟨ca1, cb1, cx1⟩ | trivial | go_keep | (refine ⟨?_, ?_, ?_⟩ <;> (first | rw [World.cell?_setCell_far _ _ _ _ n1] | rw [World.cell?_setCell_far _ _ _ _ n2]) <;> first | exact ca1 | exact cb1 | exact cx1))
            (first | (go_at_call 13; refine (HPk.out _).mono ?_; rintro e w' ⟨rfl, rfl⟩))
          go_wp2_with fail
          go_roundw
          case rel => exact ⟨k + 1, by omega, rfl, HSt.out _ (by exact hS2.out.1), Fr.drew (Fr.setCell (by exact hS2.out.2))⟩
          case measure => simp [intOf]; omega
        · have hke : k = m := by omega
          subst hke
          have hS3 : Hid (Mem wr G (memG P (i + 1)) ∧ Fr G w wr) := by
            have := hS2.out
            rw [HM1.out]
            exact this
          have hkm : decide ((k : Int) < (k : Int)) = false := decide_eq_false (by omega)
          go_wp2_with fail
          go_roundw
          case rel => exact ⟨i + 1, by omega, rfl, hS3⟩
          case measure => simp [intOf]; omega
    · have hie : i = n := by omega
      subst hie
      go_wp2_with fail
      go_ret
      refine ⟨by rw [HGe.out]; rfl, by rw [HGe.out]; exact hS.out.1, Fr.up (Up.refl w) (by rw [HGe.out]; exact Nat.le_refl _) hS.out.2⟩
end Go.Proofs.YtlgfpddiebdmaaaGreatDoor
/- Two processors that are one, with a memory each, beside a book of lists. No condition. -/
namespace Go.Proofs.YtlgfpddiebdmaaaGreatDoor
open Go.RowKit
set_option linter.unusedVariables false
structure Ints (W : World) (aa : Option Addr) (ab ao len cap : Nat) (f : Nat → Int) : Prop where
  lc : len ≤ cap
  cm : cap ≤ maxLen
  ad : 0 < len → aa = some ⟨ab, ao, none⟩
  i64 : ∀ k, I64 (f k)
  cell : ∀ k, k < len → W.cell? ⟨ab, ao + k, none⟩ = some (.int .i64 (f k))
theorem Ints.up {W W' : World} {aa : Option Addr} {ab ao len cap : Nat} {f : Nat → Int} (h : Ints W aa ab ao len cap f) (u : Up W W') : Ints W' aa ab ao len cap f :=
  ⟨h.lc, h.cm, h.ad, h.i64, fun k hk => (u.cell (World.block_lt_of_cell? _ _ (h.cell k hk))).trans (h.cell k hk)⟩
def atL (n : Nat) (L : Nat → Int) (i : Nat) : Int := if n = 0 then 0 else L (i % n)
theorem atL_i64 {W : World} {aa : Option Addr} {ab ao n c : Nat} {L : Nat → Int} (h : Ints W aa ab ao n c L) (i : Nat) : I64 (atL n L i) := by
  unfold atL
  split
  · unfold I64; decide
  · exact h.i64 _
set_option maxRecDepth 100000 in
set_option maxHeartbeats 600000 in
theorem at_list {W : World} {aa : Option Addr} {ab ao n c : Nat} {L : Nat → Int} (h : Ints W aa ab ao n c L) (i : Nat) (hi : i ≤ 100000) : Calls Tryz.prog 14 #[.slice aa n c, .int .i64 i] W fun e w' => e = .returned (.int .i64 (atL n L i)) ∧ Up W w' := by
  have l1 := h.lc
  have l2 : c ≤ 9223372036854775807 := by have := h.cm; unfold maxLen at this; omega
  by_cases h0 : n = 0
  · subst h0
    have e : atL 0 L i = 0 := rfl
    rw [e]
    clear h
    go_enter Tryz.func14, Tryz.ntmps14
    go_wp2_with fail
    go_ret
    exact ⟨rfl, Up.refl W⟩
  · have e : atL n L i = L (i % n) := if_neg h0
    rw [e]
    obtain rfl := h.ad (by omega)
    have hlt : i % n < n := Nat.mod_lt _ (by omega)
    have kc := h.cell (i % n) hlt
    have e1 : ((n : Int) == 0) = false := beq_eq_false_iff_ne.2 (by omega)
    have e2 : ((i : Int)).tmod (n : Int) = ((i % n : Nat) : Int) := by rw [Int.tmod_eq_emod_of_nonneg (by omega)]; rfl
    have e3 : ((i % n : Nat) : Int) < (n : Int) := by omega
    have hn0 : ¬ ((n : Int) = 0) := by omega
    generalize i % n = j at *
    clear h
    go_enter Tryz.func14, Tryz.ntmps14
    go_wp2_with fail
    go_ret
    exact ⟨by first | rfl | (simp; done), by first | exact Up.refl W | exact Up.drewN _ _⟩
/-- what is no block of K is as it was -/
theorem Mk.out {K : Nat → Prop} {w w' : World} {m : Nat} {v : Value} (h : Mk K w m v) (u : FK (fun b => ¬ K b) w w') : Mk K w' m v := by
  obtain ⟨aa, ab, ao, n, c, e, B, k⟩ := h
  refine ⟨aa, ab, ao, n, c, e, ⟨B.lc, B.cm, B.ad, B.u8, fun i hi => ?_⟩, k⟩
  have hlt := World.block_lt_of_cell? _ _ (B.cell i hi)
  rw [← B.cell i hi]
  have e2 : w'.heap[ab]? = w.heap[ab]? := u.block ab hlt (k (by omega))
  unfold World.cell?
  simp only [e2]
theorem Ent.out {K : Nat → Prop} {w w' : World} {xs : List Value} {j : Nat} (h : Ent K w xs j) (u : FK (fun b => ¬ K b) w w') : Ent K w' xs j := by
  obtain ⟨v0, v1, v2, v3, h0, h1, h2, h3, h4, m0, m1, m2, m3⟩ := h
  exact ⟨v0, v1, v2, v3, h0, h1, h2, h3, h4, m0.out u, m1.out u, m2.out u, m3.out u⟩
theorem Bk.out {K : Nat → Prop} {bk n : Nat} {w w' : World} (h : Bk K bk n w) (u : FK (fun b => ¬ K b) w w') : Bk K bk n w' := by
  obtain ⟨v, xs, h⟩ := h
  refine ⟨v, xs, ?_⟩
  refine ⟨(u.block bk (heap_at h.blk) h.nk).trans h.blk, ?_, h.nk, h.no, h.one, h.n8, fun j hj => (h.ent j hj).out (u.mono (fun b _ hb hk => hb (Or.inl hk)))⟩
  have o := h.own
  refine ⟨o.1, o.2.imp id fun ⟨g, cap, cur, h1, h2, h3, h4⟩ => ⟨g, cap, cur, h1, h2, (u.block g (heap_at h3) (h.no g (by rw [h1]; rfl))).trans h3, h4⟩⟩
theorem fk_fr2 {K : Nat → Prop} {b g : Nat} {w w' : World} (f : Fr2 b g w w') (hb : K b) (hg : K g) : FK (fun b => ¬ K b) w w' := ⟨f.os, f.output, f.size, fun k hk h => f.block k hk (fun e => h (e ▸ hb)) (fun e => h (e ▸ hg))⟩
/-- both -/
structure Cu (W : World) (K : Nat → Prop) (bx ba bk n gm gk : Nat) (p : St) (f : Nat → Int) (w : World) : Prop where
  px : Cp w bx p
  py : Cp w ba p
  mm : Mem w gm f
  mn : Mem w gk f
  inv : p.Inv
  rep : Rep p
  byt : Byt f
  bk : Bk K bk n w
  kx : K bx
  ky : K ba
  km : K gm
  kk : K gk
  ne1 : bx ≠ ba
  ne2 : bx ≠ gm
  ne3 : bx ≠ gk
  ne4 : ba ≠ gm
  ne5 : ba ≠ gk
  ne6 : gm ≠ gk
  kb : ∀ b, K b → b < w.heap.size
  ko : ∀ b, b < W.heap.size → K b
  nx : W.heap.size ≤ bx
  ny : W.heap.size ≤ ba
  nm : W.heap.size ≤ gm
  nk : W.heap.size ≤ gk
  up : Up W w
  lb : LaidB w
  w0 : 0 < W.heap.size
theorem Mem.fr2 {w w' : World} {b c g : Nat} {f : Nat → Int} (h : Mem w g f) (u : Fr2 b c w w') (hb : g ≠ b) (hc : g ≠ c) : Mem w' g f := h.of_block u.size (u.block g h.1 hb hc)
theorem Cp.fr2 {w w' : World} {b c g : Nat} {p : St} (h : Cp w g p) (u : Fr2 b c w w') (hb : g ≠ b) (hc : g ≠ c) : Cp w' g p := (u.block g h.lt hb hc).trans h
theorem LaidB.fr2 {w w' : World} {b g : Nat} (h : LaidB w) (u : Fr2 b g w w') (hb : b ≠ 0) (hg : g ≠ 0) : LaidB w' := by
  refine ⟨Nat.lt_of_lt_of_le h.1 u.size, fun i hi => ?_⟩
  rw [← h.2 i hi]
  unfold World.cell?
  rw [show (w'.heap[(⟨0, i, none⟩ : Addr).block]?) = w.heap[(⟨0, i, none⟩ : Addr).block]? from u.block 0 h.1 (fun e => hb e.symm) (fun e => hg e.symm)]
variable {W w w1 w2 : World} {K : Nat → Prop} {bx ba bk n gm gk : Nat} {p q : St} {f f' : Nat → Int}
theorem Cu.more (h : Cu W K bx ba bk n gm gk p f w) (u : Up w w1) : Cu W K bx ba bk n gm gk p f w1 :=
  { h with px := h.px.up u, py := h.py.up u, mm := h.mm.up u, mn := h.mn.up u, bk := h.bk.up u, kb := fun b hb => Nat.lt_of_lt_of_le (h.kb b hb) u.size, up := h.up.trans u, lb := h.lb.up u }
/-- one cycle of the first -/
theorem Cu.cycX (h : Cu W K bx ba bk n gm gk p f w) (l : Int) (hl : I64 l) (u : Up w w1) :
    Calls Tryz.prog 15 #[.pointer (some ⟨bx, 0, none⟩), .slice (some ⟨gm, 0, none⟩) 65536 65536, .int .i64 l] w1 fun e w' => e = .returned (.int .i64 (p.tick (p.rdV f) l).2) ∧ Cp w' bx (p.tick (p.rdV f) l).1 ∧ Mem w' gm (p.wrM f) ∧ Fr2 bx gm w1 w' :=
  cycle_any l bx gm p f w1 (h.px.up u) h.inv ⟨h.lb.up u, by have := h.nx; have := h.w0; omega⟩ (h.mm.up u) h.byt (fun e => h.ne2 e.symm) (by have := h.nm; have := h.w0; omega) hl
/-- .. and of the second -/
theorem Cu.cycY (h : Cu W K bx ba bk n gm gk p f w) (l : Int) (hl : I64 l) (u : Up w w1) (u2 : Fr2 bx gm w1 w2) {w3 : World} (u3 : Up w2 w3) :
    Calls Tryz.prog 15 #[.pointer (some ⟨ba, 0, none⟩), .slice (some ⟨gk, 0, none⟩) 65536 65536, .int .i64 l] w3 fun e w' => e = .returned (.int .i64 (p.tick (p.rdV f) l).2) ∧ Cp w' ba (p.tick (p.rdV f) l).1 ∧ Mem w' gk (p.wrM f) ∧ Fr2 ba gk w3 w' := by
  have z1 : bx ≠ 0 := by have := h.nx; have := h.w0; omega
  have z2 : gm ≠ 0 := by have := h.nm; have := h.w0; omega
  have z3 : ba ≠ 0 := by have := h.ny; have := h.w0; omega
  have z4 : gk ≠ 0 := by have := h.nk; have := h.w0; omega
  exact cycle_any l ba gk p f w3 (((h.py.up u).fr2 u2 (fun e => h.ne1 e.symm) h.ne4).up u3) h.inv ⟨((h.lb.up u).fr2 u2 z1 z2).up u3, z3⟩ (((h.mn.up u).fr2 u2 (fun e => h.ne3 e.symm) (fun e => h.ne6 e.symm)).up u3) h.byt (fun e => h.ne5 e.symm) z4 hl
/-- both have done it -/
theorem Cu.cyc (h : Cu W K bx ba bk n gm gk p f w) (l : Int) (u : Up w w1) (cx : Cp w2 bx (p.tick (p.rdV f) l).1) (mx : Mem w2 gm (p.wrM f)) (u2 : Fr2 bx gm w1 w2) {w3 w4 : World} (u3 : Up w2 w3) (cy : Cp w4 ba (p.tick (p.rdV f) l).1) (my : Mem w4 gk (p.wrM f)) (u4 : Fr2 ba gk w3 w4) :
    Cu W K bx ba bk n gm gk (p.tick (p.rdV f) l).1 (p.wrM f) w4 := by
  have z1 : bx ≠ 0 := by have := h.nx; have := h.w0; omega
  have z2 : gm ≠ 0 := by have := h.nm; have := h.w0; omega
  have z3 : ba ≠ 0 := by have := h.ny; have := h.w0; omega
  have z4 : gk ≠ 0 := by have := h.nk; have := h.w0; omega
  refine { px := ((cx.up u3).fr2 u4 h.ne1 h.ne3), py := cy, mm := ((mx.up u3).fr2 u4 (fun e => h.ne4 e.symm) h.ne6), mn := my, inv := tick_inv p h.inv _ _, rep := h.rep.tick h.inv _ _, byt := wrM_byt p h.inv.ok f h.byt, bk := (((h.bk.up u).out (fk_fr2 u2 h.kx h.km)).up u3).out (fk_fr2 u4 h.ky h.kk), kx := h.kx, ky := h.ky, km := h.km, kk := h.kk, ne1 := h.ne1, ne2 := h.ne2, ne3 := h.ne3, ne4 := h.ne4, ne5 := h.ne5, ne6 := h.ne6, kb := fun b hb => Nat.lt_of_lt_of_le (h.kb b hb) (Nat.le_trans u.size (Nat.le_trans u2.size (Nat.le_trans u3.size u4.size))), ko := h.ko, nx := h.nx, ny := h.ny, nm := h.nm, nk := h.nk, up := ?_, lb := (((h.lb.up u).fr2 u2 z1 z2).up u3).fr2 u4 z3 z4, w0 := h.w0 }
  have q := h.up.trans u
  have a : Up W w2 := ⟨u2.os.trans q.os, u2.output.trans q.output, Nat.le_trans q.size u2.size, fun k hk => (u2.block k (Nat.lt_of_lt_of_le hk q.size) (by have := h.nx; omega) (by have := h.nm; omega)).trans (q.block k hk)⟩
  have c := a.trans u3
  exact ⟨u4.os.trans c.os, u4.output.trans c.output, Nat.le_trans c.size u4.size, fun k hk => (u4.block k (Nat.lt_of_lt_of_le hk c.size) (by have := h.ny; omega) (by have := h.nk; omega)).trans (c.block k hk)⟩
/-- a third one takes over from the second -/
theorem Cu.zed (h : Cu W K bx ba bk n gm gk p f w) (hn : n < 99990) (u : Up w w1) {bz : Nat} {r : St} (hz : w.heap.size ≤ bz) (pz : Cp w1 bz r) (o : r.Ok) :
    Calls Tryz.prog 24 #[.pointer (some ⟨bk, 0, none⟩), .pointer (some ⟨ba, 0, none⟩), .pointer (some ⟨bz, 0, none⟩)] w1 fun e w' => e = .returned (.bool true) ∧ ∃ K, Cu W K bx bz bk (n + 1 + 1 + 1) gm gk p f w' := by
  have hx := h.kb bx h.kx
  have hy := h.kb ba h.ky
  have hm := h.kb gm h.km
  have hk := h.kb gk h.kk
  have l3 := pz.lt
  have lW := h.up.size
  have lu := u.size
  have B : Bk (fun b => K b ∨ b = bz) bk n w1 := (h.bk.mono (fun b hb e => e.elim id (fun e => by omega))).up u
  refine (moved_any B (h.py.up u) pz h.inv h.rep o hn (Or.inl h.ky) (Or.inr rfl) (by omega) (fun b e => e.elim (fun e => by have := h.kb b e; omega) (fun e => by omega))).mono fun e w' ⟨h1, h2, h3, h4⟩ => ⟨h1, (fun b => K b ∨ b = bz), ?_⟩
  have px3 := h.px.up u
  have hs := h4.size
  have blk : ∀ b, b < w.heap.size → K b → w'.heap[b]? = w1.heap[b]? := fun b hb hk => h4.block b (by omega) ⟨Or.inl hk, by omega⟩
  refine { px := px3.ofB (blk bx hx h.kx), py := h2, mm := (h.mm.up u).of_block hs (blk gm hm h.km), mn := (h.mn.up u).of_block hs (blk gk hk h.kk), inv := h.inv, rep := h.rep, byt := h.byt, bk := h3, kx := Or.inl h.kx, ky := Or.inr rfl, km := Or.inl h.km, kk := Or.inl h.kk, ne1 := by omega, ne2 := h.ne2, ne3 := h.ne3, ne4 := by omega, ne5 := by omega, ne6 := h.ne6, kb := fun b e => ?_, ko := fun b hb => Or.inl (h.ko b hb), nx := h.nx, ny := by omega, nm := h.nm, nk := h.nk, up := ?_, lb := ?_, w0 := h.w0 }
  · rcases e with e | e
    · have := h.kb b e
      omega
    · omega
  · have U := h.up.trans u
    exact ⟨h4.os.trans U.os, h4.output.trans U.output, Nat.le_trans U.size h4.size, fun b hb => (blk b (by omega) (h.ko b hb)).trans (U.block b hb)⟩
  · have L := h.lb.up u
    refine ⟨Nat.lt_of_lt_of_le L.1 hs, fun i hi => ?_⟩
    rw [← L.2 i hi]
    unfold World.cell?
    rw [show (w'.heap[(⟨0, i, none⟩ : Addr).block]?) = w1.heap[(⟨0, i, none⟩ : Addr).block]? from blk 0 (by have := h.w0; omega) (h.ko 0 h.w0)]
end Go.Proofs.YtlgfpddiebdmaaaGreatDoor
/- What is loaded goes on within its bounds, plainly. No condition. -/
namespace Go.Proofs.YtlgfpddiebdmaaaGreatDoor
open Go.RowKit
set_option linter.unusedVariables false
def bgOf (x : Nat → Int) : St :=
  { r := fun k => if k < 8 then x (k + 1) else 0, sp := wordP (x 10) (x 9), pc := wordP (x 12) (x 11), ime := x 13 % 2 == 1, state := x 14, due := x 13 / 2 % 2 == 1, twice := x 13 / 4 % 2 == 1,
    phase := if x 15 = 2 then 2 else 0, code := 0, done := 0, rd := zf, many := 0, asked := 0 }
theorem bgOf_bgn (x : Nat → Int) : Bgn x (bgOf x) := ⟨fun k hk => if_pos hk, rfl, rfl, rfl, rfl, rfl, rfl, rfl, rfl, rfl, rfl, rfl, rfl⟩
theorem bgOf_okw {x : Nat → Int} (hx : ∀ k, 0 ≤ x k ∧ x k ≤ 255) : (bgOf x).Okw := by
  refine ⟨fun k => ?_, wordP_b _ _ (hx _) (hx _), wordP_b _ _ (hx _) (hx _), hx _⟩
  show 0 ≤ (if k < 8 then x (k + 1) else 0) ∧ (if k < 8 then x (k + 1) else 0) ≤ 255
  split
  · exact hx _
  · decide
theorem snd_sn {x : Nat → Int} {c : St} (B : Bgn x c) (h : c.snd = true) : Sn c := by
  have hw := snd_wth h
  have hp : c.phase ≠ 1 := by rw [B.phase]; split <;> decide
  refine ⟨hw.1, fun e => ?_, fun e => ⟨(snd_two h e).1, (snd_two h e).2.1⟩, fun e => absurd e hp⟩
  unfold St.snd at h
  revert h e
  cases c.due <;> cases c.twice <;> cases c.ime <;> simp
theorem fol_sn (x : Nat → Int) (hx : ∀ k, 0 ≤ x k ∧ x k ≤ 255) : ∀ n c, Mid c → Sn c → Sn (fol x n c)
  | 0, c, _, h => h
  | n + 1, c, m, h => by
    show Sn (if c.done < x 17 ∧ c.over c.row = false then fol x n (c.act (x (18 + c.many.toNat)) (x 21 % 32)) else c)
    split
    · rename_i hc
      exact fol_sn x hx n _ (m.act hc.2 _ _ (hx _)).1 (h.act m.run _ _)
    · exact h
theorem ld_inv {x : Nat → Int} {c t : St} (hx : ∀ k, 0 ≤ x k ∧ x k ≤ 255) (B : Bgn x c) (o : c.Okw) (h : ldP x c = some t) : t.Inv ∧ Sn t := by
  unfold ldP at h
  split at h
  · rename_i hc
    obtain ⟨h1, h2, h3⟩ := hc
    have v := B.inv o h1
    have e := Option.some.inj h
    rw [← e]
    refine ⟨(folR_ok hx B v h1).2 h2, ?_⟩
    have s := snd_sn B h1
    unfold folR
    by_cases h15 : x 15 = 1
    · rw [if_pos h15]
      by_cases h0 : c.state = 0
      · rw [if_pos h0]
        obtain ⟨a1, a2, a3, a4, a5⟩ := act_ok (x 16) 0 c v h0 (hx 16)
        exact fol_sn x hx 6 _ ⟨a1, a2, a3, a5, a4⟩ (s.act h0 _ _)
      · rw [if_neg h0]; exact s
    · rw [if_neg h15]
      by_cases hp : c.phase = 0
      · rw [if_pos hp]; exact s
      · rw [if_neg hp]
        have h2' : c.phase = 2 := by have := B.phase; split at this <;> omega
        exact fol_sn x hx 6 _ ⟨v.ok, v.md, v.ask, (snd_two h1 h2').2.1, hp⟩ s
  · cases h
/-- how many cycles there may be to the next instruction's first -/
def St.rank (s : St) : Int := if s.phase = 0 then 0 else if s.phase = 2 then 5 - s.done else 10 - s.done
theorem rank_b {s : St} (o : s.Ok) : 0 ≤ s.rank ∧ s.rank ≤ 10 := by
  have := o.done
  unfold St.rank
  split
  · decide
  split <;> omega
theorem look_rank (s : St) (hp : s.phase = 0) (l : Int) : (s.look l).phase = 0 ∨ (s.look l).rank = 5 := by
  unfold St.look
  split
  · exact Or.inl hp
  split
  · exact Or.inr rfl
  · exact Or.inl hp
theorem rank_tick {s : St} (v : s.Inv) (sn : Sn s) (d l : Int) : (s.tick d l).1.phase = 0 ∨ (s.phase = 0 ∧ (s.tick d l).1.rank ≤ 10) ∨ (s.phase ≠ 0 ∧ (s.tick d l).1.rank + 1 ≤ s.rank) := by
  have hb := v.ok.phase
  unfold St.tick
  by_cases hs : s.state = 0
  · rw [if_neg (by simp [hs])]
    obtain ⟨h1, h2, h3, h4, h5⟩ := act_ok (d % 256) (l % 32) s v hs (by omega)
    have hu : (s.phase = 0 ∧ (s.act (d % 256) (l % 32)).phase = 1 ∧ (s.act (d % 256) (l % 32)).done = 0) ∨ (s.phase ≠ 0 ∧ (s.act (d % 256) (l % 32)).phase = s.phase ∧ (s.act (d % 256) (l % 32)).done = s.done + 1 ∧ s.done ≤ 4) := by
      rcases next_live s v hs with ⟨hp, hn⟩ | ⟨hp, hn, hdn, _⟩
      · refine Or.inl ⟨hp, ?_⟩
        unfold St.act
        rw [if_pos hn]
        exact ⟨rfl, rfl⟩
      · exact Or.inr ⟨hp, (act_keeps hs hp v _ _).2.2.1, act_done v hs hp _ _, hdn⟩
    generalize s.act (d % 256) (l % 32) = t at *
    unfold St.tick1
    by_cases ho : t.over t.row = true
    · rw [if_pos ho]
      show (if t.phase = 2 then doP t.row.d t else t.finish t.row (l % 32)).phase = 0 ∨ (s.phase = 0 ∧ (if t.phase = 2 then doP t.row.d t else t.finish t.row (l % 32)).rank ≤ 10) ∨ (s.phase ≠ 0 ∧ (if t.phase = 2 then doP t.row.d t else t.finish t.row (l % 32)).rank + 1 ≤ s.rank)
      by_cases h2p : t.phase = 2
      · rw [if_pos h2p]
        left
        rw [row_disp_d' t h2p]
        rfl
      · rw [if_neg h2p]
        unfold St.finish
        rcases look_rank _ (show (St.twices _ _).phase = 0 from rfl) (l % 32) with e | e
        · exact Or.inl e
        · rcases hu with ⟨a, b, c⟩ | ⟨a, b, c, e4⟩
          · exact Or.inr (Or.inl ⟨a, by rw [e]; decide⟩)
          · refine Or.inr (Or.inr ⟨a, ?_⟩)
            rw [e]
            have hs1 : s.phase = 1 := by omega
            unfold St.rank
            rw [if_neg a, if_neg (by omega)]
            omega
    · rw [if_neg ho]
      rcases hu with ⟨a, b, c⟩ | ⟨a, b, c, e4⟩
      · exact Or.inr (Or.inl ⟨a, (rank_b h1).2⟩)
      · refine Or.inr (Or.inr ⟨a, ?_⟩)
        show t.rank + 1 ≤ s.rank
        unfold St.rank
        rw [b, c]
        repeat' split
        all_goals omega
  · rw [if_pos hs]
    have hp : s.phase = 0 := by
      have : s.phase = 0 ∨ s.phase = 1 ∨ s.phase = 2 := by omega
      rcases this with e | e | e
      · exact e
      · exact absurd (sn.d1 e) hs
      · exact absurd (sn.d2 e).2 hs
    rcases look_rank s hp (l % 32) with e | e
    · exact Or.inl e
    · exact Or.inr (Or.inl ⟨hp, by rw [e]; decide⟩)
theorem toRg_ok {s : St} (o : s.Ok) (h : F16 s) : (toRg s).Ok := by
  refine ⟨?_, ?_, ?_, ?_, ?_, ?_, ?_, ?_, ?_, ?_, ?_, ?_⟩
  all_goals first | exact o.r _ | exact o.sp | exact o.pc | exact o.state | exact h
theorem at_idle {s : St} {k : Nat} (h : wantsK k = 0) : s.at k = 0 := by
  have : k = 0 ∨ k = 1 := by
    unfold wantsK at h
    split at h
    · cases h
    split at h
    · cases h
    · omega
  rcases this with rfl | rfl <;> rfl
theorem data_no {s : St} {k : Nat} (h : wantsK k ≠ 2) : s.data k = 0 := by
  have hk : k < 12 := by
    unfold wantsK at h
    split at h
    · exact absurd rfl h
    · omega
  unfold St.data
  repeat' split
  all_goals first | rfl | omega
end Go.Proofs.YtlgfpddiebdmaaaGreatDoor
/- CpuLoads: registers within their bounds; a memory of one literal piece. No condition. -/
namespace Go.Proofs.YtlgfpddiebdmaaaGreatDoor
open Go.RowKit
set_option linter.unusedVariables false
set_option maxRecDepth 100000 in
set_option maxHeartbeats 1000000 in
theorem inside_any (g : Rg) (o : g.Ok) (w : World) : Calls Tryz.prog 23 #[.agg g.cells] w fun e w' => e = .returned (.bool true) ∧ Up w w' := by
  obtain ⟨a, f, b, c, d, e, h, l, sp, pc, ime, st⟩ := g
  have G8 : Hid _ := get8i a f b c d e h l
  have B8 : Hid _ := get8b a f b c d e h l o.a o.f o.b o.c o.d o.e o.h o.l
  have hf16 := o.f16
  have hsp := o.sp
  have hpc := o.pc
  have hst := o.state
  have hf := o.f
  simp only at hf16 hsp hpc hst hf
  obtain ⟨hsp1, hsp2⟩ := hsp
  obtain ⟨hpc1, hpc2⟩ := hpc
  obtain ⟨hst1, hst2⟩ := hst
  have hft : f.tmod 16 = 0 := by rw [Int.tmod_eq_emod_of_nonneg hf.1]; exact hf16
  clear o hf hf16
  unfold Rg.cells
  have H0 : Hid (Up w (w.alloc (.cells #[.int .i64 a, .int .i64 f, .int .i64 b, .int .i64 c, .int .i64 d, .int .i64 e, .int .i64 h, .int .i64 l, .int .i64 sp, .int .i64 pc, .bool ime, .int .i64 st] 23)) ∧ (w.alloc (.cells #[.int .i64 a, .int .i64 f, .int .i64 b, .int .i64 c, .int .i64 d, .int .i64 e, .int .i64 h, .int .i64 l, .int .i64 sp, .int .i64 pc, .bool ime, .int .i64 st] 23)).heap[w.heap.size]? = some (.cells #[.int .i64 a, .int .i64 f, .int .i64 b, .int .i64 c, .int .i64 d, .int .i64 e, .int .i64 h, .int .i64 l, .int .i64 sp, .int .i64 pc, .bool ime, .int .i64 st] 23 (0, 0))) := ⟨(Up.refl w).alloc _, heap_alloc_new w _⟩
  go_enter Tryz.func23, Tryz.ntmps23
  have H1 : Hid (Up w ((w.alloc (.cells #[.int .i64 a, .int .i64 f, .int .i64 b, .int .i64 c, .int .i64 d, .int .i64 e, .int .i64 h, .int .i64 l, .int .i64 sp, .int .i64 pc, .bool ime, .int .i64 st] 23)).alloc (.cells #[.int .i64 a, .int .i64 f, .int .i64 b, .int .i64 c, .int .i64 d, .int .i64 e, .int .i64 h, .int .i64 l] 3)) ∧ ((w.alloc (.cells #[.int .i64 a, .int .i64 f, .int .i64 b, .int .i64 c, .int .i64 d, .int .i64 e, .int .i64 h, .int .i64 l, .int .i64 sp, .int .i64 pc, .bool ime, .int .i64 st] 23)).alloc (.cells #[.int .i64 a, .int .i64 f, .int .i64 b, .int .i64 c, .int .i64 d, .int .i64 e, .int .i64 h, .int .i64 l] 3)).heap[w.heap.size]? = some (.cells #[.int .i64 a, .int .i64 f, .int .i64 b, .int .i64 c, .int .i64 d, .int .i64 e, .int .i64 h, .int .i64 l, .int .i64 sp, .int .i64 pc, .bool ime, .int .i64 st] 23 (0, 0)) ∧ ((w.alloc (.cells #[.int .i64 a, .int .i64 f, .int .i64 b, .int .i64 c, .int .i64 d, .int .i64 e, .int .i64 h, .int .i64 l, .int .i64 sp, .int .i64 pc, .bool ime, .int .i64 st] 23)).alloc (.cells #[.int .i64 a, .int .i64 f, .int .i64 b, .int .i64 c, .int .i64 d, .int .i64 e, .int .i64 h, .int .i64 l] 3)).heap[w.heap.size + 1]? = some (.cells #[.int .i64 a, .int .i64 f, .int .i64 b, .int .i64 c, .int .i64 d, .int .i64 e, .int .i64 h, .int .i64 l] 3 (0, 0))) := ⟨H0.out.1.alloc _, (((Up.refl _).alloc _).block w.heap.size (heap_at H0.out.2)).trans H0.out.2, heap_new2 w _ _⟩
  clear H0
  go_wp2_with fail
  generalize World.alloc (World.alloc w _) _ = W at H1 ⊢
  have z1 : W.cell? ⟨w.heap.size, 1, none⟩ = some (.int .i64 f) := heap_cell H1.out.2.1 rfl
  have z8 : W.cell? ⟨w.heap.size, 8, none⟩ = some (.int .i64 sp) := heap_cell H1.out.2.1 rfl
  have z9 : W.cell? ⟨w.heap.size, 9, none⟩ = some (.int .i64 pc) := heap_cell H1.out.2.1 rfl
  have z11 : W.cell? ⟨w.heap.size, 11, none⟩ = some (.int .i64 st) := heap_cell H1.out.2.1 rfl
  go_loopw [4] (fun i wr => ∃ k : Nat, k ≤ 8 ∧ i = .int .i64 k ∧ wr = W) (fun i _ => 8 - (intOf i).toNat)
  case atStart => exact ⟨0, by omega, rfl, rfl⟩
  case round =>
    obtain ⟨k, hk, rfl, rfl⟩ := hrel
    by_cases hlt : k < 8
    · obtain ⟨x, hx⟩ : ∃ x, x = [a, f, b, c, d, e, h, l].getD k 0 := ⟨_, rfl⟩
      have kc : wr.cell? ⟨w.heap.size + 1, k, none⟩ = some (.int .i64 x) := by
        rw [cell_of_row _ _ _ _ _ _ H1.out.2.2, hx]
        exact G8.out k hlt
      have hb := B8.out k hlt
      rw [← hx] at hb
      have hx1 := hb.1
      have hx2 := hb.2
      clear hx hb
      have hki : (k : Int) < 8 := by omega
      go_wp2_with fail
      refine ⟨⟨k + 1, by omega, by first | rfl | (simp; done), trivial⟩, ?_⟩
      simp [intOf]
      omega
    · have hke : k = 8 := by omega
      subst hke
      go_wp2_with fail
      go_ret
      exact ⟨by first | rfl | (simp; done), H1.out.1⟩
end Go.Proofs.YtlgfpddiebdmaaaGreatDoor
