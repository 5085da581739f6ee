/- Any write. -/
import Derived.Test.YtnbhifbenfgeeaaPgF
namespace Go.Proofs.Ytnbhifbenfgeeaa
open Go.RowKit
set_option linter.unusedVariables false
variable {b : Nat} {p : Pic}
def Pic.wrL (p : Pic) (v : Int) : Pic := if p.has 128 = true ∧ (p.setR 0 v).has 128 = false then p.off v else p.setR 0 v
def Pic.wrR (p : Pic) (n : Nat) (v : Int) : Pic := if n = 0 then p.wrL v else if n = 1 then p.setR 1 (bits .and .u8 v 120) else if n = 4 ∨ n = 6 then p else p.setR n v
/-- what a write makes -/
def Pic.wr (p : Pic) (a x : Int) : Pic :=
  if p.locked a = true then p else if isV a = true then p.setV (a - 32768).toNat (cutB x) else if isO a = true then p.setO (a - 65024).toNat (cutB x) else if isR a = true then p.wrR (a - 65344).toNat (cutB x) else p
set_option maxRecDepth 100000 in
theorem wreg6_any (x : Int) (W : World) (h : PxAt W b p) :
    Calls Try.prog 46 #[.pointer (some ⟨b, 0, none⟩), .int .i64 6, .int .u8 x] W fun e w' => e = .returned (.tuple #[]) ∧ PxAt w' b p ∧ Fr b W w' := by
  go_enter Try.func46, Try.ntmps46
  go_wp2
  go_end0
  exact ⟨rfl, h, Fr.refl b W⟩
set_option maxRecDepth 100000 in
theorem lcdcOO_any (x : Int) (on : p.has 128 = true) (hx : (p.setR 0 x).has 128 = true) (W : World) (h : PxAt W b p) :
    Calls Try.prog 60 #[.pointer (some ⟨b, 0, none⟩), .int .u8 x] W fun e w' => e = .returned (.tuple #[]) ∧ PxAt w' b (p.setR 0 x) ∧ Fr b W w' := by
  have k : W.cell? ⟨b, 8352, none⟩ = some (.int .u8 (p.rg 0)) := h.reg 0 (by decide)
  have fz := h.fz 8352
  have HA : Hid (∀ W, PxAt W b p → Calls Try.prog 48 #[.pointer (some ⟨b, 0, none⟩), .int .u8 128] W fun e w' => e = .returned (.bool true) ∧ w' = W) := fun W h => on ▸ has_any 128 W h
  have HB : Hid (∀ W, PxAt W b (p.setR 0 x) → Calls Try.prog 48 #[.pointer (some ⟨b, 0, none⟩), .int .u8 128] W fun e w' => e = .returned (.bool true) ∧ w' = W) := fun W h => hx ▸ has_any 128 W h
  have HP : Hid (PxAt W b p) := h
  clear h on hx
  go_enter Try.func60, Try.ntmps60
  go_wp2_with fail
  refine (HA.out _ HP.out).mono ?_
  rintro e w' ⟨rfl, hw'⟩
  obtain rfl := hw'.symm
  go_wp2_with fail
  have h1 : PxAt (W.setCell ⟨b, 8352, none⟩ (.int .u8 x)) b (p.setR 0 x) := HP.out.set 8352 _ (fun j _ => Pic.cellR p 0 (by decide) x j)
  have F1 : Fr b W (W.setCell ⟨b, 8352, none⟩ (.int .u8 x)) := (Fr.refl b W).setCell
  generalize World.setCell W _ _ = w1 at h1 F1 ⊢
  have H1 : Hid _ := And.intro h1 F1
  clear h1 F1 HP HA k fz
  refine (HB.out _ H1.out.1).mono ?_
  rintro e w' ⟨rfl, hw'⟩
  obtain rfl := hw'.symm
  go_wp2_with fail
  go_end0
  exact ⟨rfl, H1.out⟩
set_option maxRecDepth 100000 in
theorem wreg0_any (x : Int) (W : World) (h : PxAt W b p) :
    Calls Try.prog 46 #[.pointer (some ⟨b, 0, none⟩), .int .i64 0, .int .u8 x] W fun e w' => e = .returned (.tuple #[]) ∧ PxAt w' b (p.wrL x) ∧ Fr b W w' := by
  unfold Pic.wrL
  cases on : p.has 128
  · rw [if_neg (by simp)]
    exact wreg0On_any x on W h
  · cases hx : (p.setR 0 x).has 128
    · rw [if_pos ⟨rfl, rfl⟩]
      exact wreg0Off_any x on hx W h
    · rw [if_neg (by simp)]
      have HS : Hid _ := lcdcOO_any x on hx W h
      clear h on hx
      go_enter Try.func46, Try.ntmps46
      go_wp2_with fail
      refine Calls.mono HS.out ?_
      rintro e w2 ⟨rfl, h2, F2⟩
      have H2 : Hid _ := And.intro h2 F2
      clear h2 F2
      go_wp2_with fail
      go_end0
      exact ⟨rfl, H2.out⟩
theorem wregN_any (n : Nat) (hn : n < 12) (x : Int) (W : World) (h : PxAt W b p) :
    Calls Try.prog 46 #[.pointer (some ⟨b, 0, none⟩), .int .i64 (n : Int), .int .u8 x] W fun e w' => e = .returned (.tuple #[]) ∧ PxAt w' b (p.wrR n x) ∧ Fr b W w' := by
  have : n = 0 ∨ n = 1 ∨ n = 4 ∨ n = 6 ∨ n = 5 ∨ (n < 12 ∧ n ≠ 0 ∧ n ≠ 1 ∧ n ≠ 4 ∧ n ≠ 5 ∧ n ≠ 6) := by omega
  unfold Pic.wrR
  rcases this with rfl | rfl | rfl | rfl | rfl | hn
  · rw [if_pos rfl]; exact wreg0_any x W h
  · rw [if_neg (by decide), if_pos rfl]; exact wreg1_any x W h
  · rw [if_neg (by decide), if_neg (by decide), if_pos (Or.inl rfl)]; exact wreg4_any x W h
  · rw [if_neg (by decide), if_neg (by decide), if_pos (Or.inr rfl)]; exact wreg6_any x W h
  · rw [if_neg (by decide), if_neg (by decide), if_neg (by decide)]; exact wreg5_any x W h
  · rw [if_neg (by omega), if_neg (by omega), if_neg (by omega)]; exact wregAny n hn x W h
set_option maxRecDepth 100000 in
theorem writeX_any (a x : Int) (hl : p.locked a = false) (hv : isV a = false) (ho : isO a = false) (hr : isR a = false) (W : World) (h : PxAt W b p) :
    Calls Try.prog 18 #[.pointer (some ⟨b, 0, none⟩), .int .i64 a, .int .i64 x] W fun e w' => e = .returned (.tuple #[]) ∧ w' = W := by
  have HL : Hid (∀ W, PxAt W b p → Calls Try.prog 42 #[.pointer (some ⟨b, 0, none⟩), .int .i64 a] W fun e w' => e = .returned (.bool false) ∧ w' = W) := fun W h => hl ▸ isLocked_any a W h
  have HV : Hid (∀ W, Calls Try.prog 43 #[.int .i64 a] W fun e w' => e = .returned (.bool false) ∧ w' = W) := fun W => by have := isVram_any a W; rw [hv] at this; exact this
  have HO : Hid (∀ W, Calls Try.prog 44 #[.int .i64 a] W fun e w' => e = .returned (.bool false) ∧ w' = W) := fun W => by have := isOam_any a W; rw [ho] at this; exact this
  have HR : Hid (∀ W, Calls Try.prog 45 #[.int .i64 a] W fun e w' => e = .returned (.bool false) ∧ w' = W) := fun W => by have := isRegister_any a W; rw [hr] at this; exact this
  have HP : Hid (PxAt W b p) := h
  clear h hl hv ho hr
  go_enter Try.func18, Try.ntmps18
  go_wp2_with fail
  refine (HL.out _ HP.out).mono ?_
  rintro e w' ⟨rfl, hw'⟩
  obtain rfl := hw'.symm
  go_wp2_with fail
  refine (HV.out _).mono ?_
  rintro e w' ⟨rfl, hw'⟩
  obtain rfl := hw'.symm
  go_wp2_with fail
  refine (HO.out _).mono ?_
  rintro e w' ⟨rfl, hw'⟩
  obtain rfl := hw'.symm
  go_wp2_with fail
  refine (HR.out _).mono ?_
  rintro e w' ⟨rfl, hw'⟩
  obtain rfl := hw'.symm
  go_wp2_with fail
  go_end0
  exact ⟨rfl, rfl⟩
theorem isV_b {a : Int} (h : isV a = true) : 32768 ≤ a ∧ a < 40960 := by unfold isV at h; simpa using h
theorem isO_b {a : Int} (h : isO a = true) : 65024 ≤ a ∧ a < 65184 := by unfold isO at h; simpa using h
theorem isR_b {a : Int} (h : isR a = true) : 65344 ≤ a ∧ a < 65356 := by unfold isR at h; simpa using h
theorem write_any (a x : Int) (W : World) (h : PxAt W b p) :
    Calls Try.prog 18 #[.pointer (some ⟨b, 0, none⟩), .int .i64 a, .int .i64 x] W fun e w' => e = .returned (.tuple #[]) ∧ PxAt w' b (p.wr a x) ∧ Fr b W w' := by
  unfold Pic.wr
  by_cases hl : p.locked a = true
  · rw [if_pos hl]
    exact (writeL_any a x hl W h).mono fun e w' ⟨h1, h2⟩ => ⟨h1, by rw [h2]; exact h, by rw [h2]; exact Fr.refl b W⟩
  · rw [if_neg hl]
    have hl : p.locked a = false := by simpa using hl
    by_cases hv : isV a = true
    · rw [if_pos hv]
      have := isV_b hv
      exact writeV_any (a - 32768).toNat (by omega) a x (by omega) hl W h
    · rw [if_neg hv]
      by_cases ho : isO a = true
      · rw [if_pos ho]
        have := isO_b ho
        exact writeO_any (a - 65024).toNat (by omega) a x (by omega) hl W h
      · rw [if_neg ho]
        by_cases hr : isR a = true
        · rw [if_pos hr]
          have := isR_b hr
          exact writeR_any (a - 65344).toNat (by omega) a x (by omega) W h (fun W hp => wregN_any _ (by omega) _ W hp)
        · rw [if_neg hr]
          exact (writeX_any a x hl (by simpa using hv) (by simpa using ho) (by simpa using hr) W h).mono fun e w' ⟨h1, h2⟩ => ⟨h1, by rw [h2]; exact h, by rw [h2]; exact Fr.refl b W⟩
theorem and120 : ∀ x : Int, 0 ≤ x → x ≤ 255 → bits .andNot .u8 (bits .and .u8 x 120) 120 = 0 ∧ 0 ≤ bits .and .u8 x 120 ∧ bits .and .u8 x 120 ≤ 255 := byteAll (by decide +kernel)
theorem Sane.setV (h : Sane p) (n : Nat) (x : Int) : Sane (p.setV n (cutB x)) :=
  ⟨h.inn.setV n _ (cutB_b x), h.c0, h.c9, h.c4, h.ly, h.st, h.dm, h.off, h.r0, h.rl, h.rm, h.ml, h.dz, h.d3, h.s3⟩
theorem Sane.setO (h : Sane p) (n : Nat) (x : Int) : Sane (p.setO n (cutB x)) :=
  ⟨h.inn.setO n _ (cutB_b x), h.c0, h.c9, h.c4, h.ly, h.st, h.dm, h.off, h.r0, h.rl, h.rm, h.ml, h.dz, h.d3, h.s3⟩
/-- a register that nothing else hangs on -/
theorem Sane.setR (h : Sane p) (n : Nat) (x : Int) (hx : 0 ≤ x ∧ x ≤ 255) (hn : n ≠ 4 ∧ n ≠ 6) (h1 : n = 1 → bits .andNot .u8 x 120 = 0) (h0 : n = 0 → (p.setR 0 x).has 128 = false → p.has 128 = false) : Sane (p.setR n x) := by
  have e4 : (p.setR n x).rg 4 = p.rg 4 := by show (if 4 = n then x else p.rg 4) = _; rw [if_neg (fun e => hn.1 e.symm)]
  have e6 : (p.setR n x).rg 6 = p.rg 6 := by show (if 6 = n then x else p.rg 6) = _; rw [if_neg (fun e => hn.2 e.symm)]
  have el : (p.setR n x).lines = p.lines := lines_of e4 rfl
  refine ⟨h.inn.setR n x hx, h.c0, h.c9, h.c4, by rw [e4]; exact h.ly, ?_, by rw [e6]; exact h.dm, fun o => ?_, h.r0, by rw [el]; exact h.rl, h.rm, by rw [e4]; exact h.ml, fun k hk hl => h.dz k hk (by rw [el] at hl; exact hl), h.d3, h.s3⟩
  · show bits .andNot .u8 (if 1 = n then x else p.rg 1) 120 = 0
    by_cases e : n = 1
    · rw [if_pos e.symm]; exact h1 e
    · rw [if_neg (fun a => e a.symm)]; exact h.st
  · rw [e4]
    refine h.off ?_
    by_cases e : n = 0
    · subst e
      exact h0 rfl o
    · have : (p.setR n x).has 128 = p.has 128 := by
        unfold Pic.has
        show (bits .and .u8 (if 0 = n then x else p.rg 0) 128 != 0) = _
        rw [if_neg (fun a => e a.symm)]
      rw [← this]
      exact o
theorem Sane.offed (h : Sane p) (x : Int) (hx : 0 ≤ x ∧ x ≤ 255) : Sane (p.off x) := by
  have i := (h.inn.setR 0 x hx).setR 4 0 (by decide)
  have el : (p.off x).lines = 0 := by
    unfold Pic.lines
    show (if 144 ≤ (0 : Int) then 0 else if 252 ≤ (0 : Int) then (0 : Int).toNat + 1 else (0 : Int).toNat) = 0
    decide
  have ez : ∀ k, k < 23040 → (p.off x).dr k = 0 := fun k hk => by
    show (if k < 23040 then (0 : Int) else _) = 0
    rw [if_pos hk]
  have es : ∀ k, k < 23040 → (p.off x).sh k = 0 := fun k hk => by
    show (if k < 23040 then (0 : Int) else _) = 0
    rw [if_pos hk]
  refine ⟨⟨i.vr, i.oa, i.rg⟩, show (0 : Int) ≤ 0 by decide, show (0 : Int) ≤ 452 by decide, show (0 : Int) % 4 = 0 by decide, show (0 : Int) ≤ 153 by decide, h.st, h.dm, fun _ => ⟨rfl, rfl, es⟩, show (0 : Int) ≤ 0 by decide, ?_, fun m => absurd (show (0 : Int) < 0 from m) (by decide), fun m => ?_, fun k hk _ => ez k hk, fun k hk => by rw [ez k hk]; decide, fun k hk => by rw [es k hk]; decide⟩
  · rw [el]
    show (0 : Int) ≤ ((0 : Nat) : Int)
    decide
  · have m2 : false = true := m
    cases m2
theorem Sane.wrL (h : Sane p) (x : Int) (hx : 0 ≤ x ∧ x ≤ 255) : Sane (p.wrL x) := by
  unfold Pic.wrL
  split
  · exact h.offed x hx
  · rename_i hc
    refine h.setR 0 x hx ⟨by decide, by decide⟩ (fun e => absurd e (by decide)) (fun _ o => ?_)
    cases on : p.has 128
    · rfl
    · exact absurd ⟨on, o⟩ hc
theorem Sane.wrR (h : Sane p) (n : Nat) (x : Int) (hx : 0 ≤ x ∧ x ≤ 255) : Sane (p.wrR n x) := by
  unfold Pic.wrR
  split
  · exact h.wrL x hx
  · rename_i n0
    split
    · have := and120 x hx.1 hx.2
      exact h.setR 1 _ this.2 ⟨by decide, by decide⟩ (fun _ => this.1) (fun e => absurd e (by decide))
    · rename_i n1
      split
      · exact h
      · rename_i n46
        exact h.setR n x hx ⟨fun e => n46 (Or.inl e), fun e => n46 (Or.inr e)⟩ (fun e => absurd e n1) (fun e => absurd e n0)
theorem Sane.wr (h : Sane p) (a x : Int) : Sane (p.wr a x) := by
  unfold Pic.wr
  split
  · exact h
  · split
    · exact h.setV _ x
    · split
      · exact h.setO _ x
      · split
        · exact h.wrR _ _ (cutB_b x)
        · exact h
theorem newPic_sane : Sane newPic := by
  have e4 : newPic.rg 4 = 0 := by decide
  have el : newPic.lines = 0 := by unfold Pic.lines; decide
  have i : newPic.In := by
    refine ⟨fun k => ?_, fun k => ?_, ?_⟩
    · exact (show (0 : Int) ≤ 0 ∧ (0 : Int) ≤ 255 by decide)
    · exact (show (0 : Int) ≤ 0 ∧ (0 : Int) ≤ 255 by decide)
    · have z : zeroPic.In := ⟨fun _ => (show (0 : Int) ≤ 0 ∧ (0 : Int) ≤ 255 by decide), fun _ => (show (0 : Int) ≤ 0 ∧ (0 : Int) ≤ 255 by decide), fun _ => (show (0 : Int) ≤ 0 ∧ (0 : Int) ≤ 255 by decide)⟩
      exact (((((((((((((z.setR 0 145 (by decide)).setR 1 0 (by decide)).setR 2 0 (by decide)).setR 3 0 (by decide)).setR 4 0 (by decide)).setR 5 0 (by decide)).setR 6 0 (by decide)).setR 7 252 (by decide)).setR 8 255 (by decide)).setR 9 255 (by decide)).setR 10 0 (by decide)).setR 11 0 (by decide)).rg)
  exact ⟨i, by decide, by decide, by decide, by decide, by decide, by decide, fun o => absurd o (by decide), by decide, by rw [el]; decide, fun m => absurd m (by decide), fun m => absurd m (by decide), fun k _ _ => rfl, fun k _ => (show (0 : Int) ≤ 0 ∧ (0 : Int) ≤ 3 by decide), fun k _ => (show (0 : Int) ≤ 0 ∧ (0 : Int) ≤ 3 by decide)⟩
end Go.Proofs.Ytnbhifbenfgeeaa
