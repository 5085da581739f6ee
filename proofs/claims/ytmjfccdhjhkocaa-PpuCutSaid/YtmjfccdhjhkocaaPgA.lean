/- A sprite's row, low and high ones. -/
import Derived.Test.YtmjfccdhjhkocaaPsR
namespace Go.Proofs.Ytmjfccdhjhkocaa
open Go.RowKit
set_option linter.unusedVariables false
variable {b : Nat} {p : Pic}
def Pic.sprW (p : Pic) (s : Spr) : Int := if bits .and .u8 s.flg 64 = 0 then p.rg 4 + 16 - s.row else p.sprH - 1 - (p.rg 4 + 16 - s.row)
/-- where the row of a sprite's tile lies that a line has -/
def Pic.sprA (p : Pic) (s : Spr) : Nat := if p.has 4 = true then ((s.tile - s.tile % 2 + p.sprW s / 8) * 16).toNat + 2 * (p.sprW s % 8).toNat else (s.tile * 16).toNat + 2 * (p.sprW s).toNat
theorem andNot1 : ∀ x : Int, 0 ≤ x → x ≤ 255 → bits .andNot .i64 x 1 = x - x % 2 := byteAll (by decide +kernel)
set_option maxRecDepth 100000 in
set_option maxHeartbeats 1000000 in
theorem spriteRowH_any (i : p.In) (s : Spr) (hs : s.In) (h4 : p.has 4 = true) (q0 : 0 ≤ p.rg 4 + 16 - s.row) (q1 : p.rg 4 + 16 - s.row ≤ 15) (W : World) (h : PxAt W b p) : Calls Try.prog 84 #[.pointer (some ⟨b, 0, none⟩), s.val] W fun e w' => e = .returned (.tuple #[.int .u8 (p.vr (p.sprA s)), .int .u8 (p.vr (p.sprA s + 1))]) ∧ Up W w' := by
  have hH : p.sprH = 16 := by unfold Pic.sprH; rw [h4]; rfl
  have HR : Hid (∀ W, PxAt W b p → Calls Try.prog 90 #[.pointer (some ⟨b, 0, none⟩), s.val] W fun e w' => e = .returned (.int .i64 (p.rg 4 + 16 - s.row)) ∧ Up W w') := fun W h => rowIn_any i s hs W h
  have HA : Hid (∀ W, PxAt W b p → Calls Try.prog 48 #[.pointer (some ⟨b, 0, none⟩), .int .u8 4] W fun e w' => e = .returned (.bool true) ∧ w' = W) := fun W h => h4 ▸ has_any 4 W h
  have HH : Hid (∀ W, PxAt W b p → Calls Try.prog 91 #[.pointer (some ⟨b, 0, none⟩)] W fun e w' => e = .returned (.int .i64 16) ∧ w' = W) := fun W h => hH ▸ spriteHigh_any W h
  have st := hs.t
  have HN : Hid (bits .andNot .i64 s.tile 1 = s.tile - s.tile % 2) := andNot1 _ st.1 st.2
  have HT : Hid (∀ (r : Nat) W, r < 16 → PxAt W b p → Calls Try.prog 88 #[.pointer (some ⟨b, 0, none⟩), .int .i64 ((bits .andNot .i64 s.tile 1 + (r : Int) / 8) * 16), .int .i64 ((r : Int) % 8)] W fun e w' => e = .returned (.tuple #[.int .u8 (p.vr (((s.tile - s.tile % 2 + (r : Int) / 8) * 16).toNat + 2 * ((r : Int) % 8).toNat)), .int .u8 (p.vr (((s.tile - s.tile % 2 + (r : Int) / 8) * 16).toNat + 2 * ((r : Int) % 8).toNat + 1))]) ∧ ∃ n, w' = W.drewN n) := fun r W hr h => by
    rw [HN.out]
    obtain ⟨a, ha⟩ : ∃ a : Nat, (s.tile - s.tile % 2 + (r : Int) / 8) * 16 = (a : Int) := ⟨((s.tile - s.tile % 2 + (r : Int) / 8) * 16).toNat, by omega⟩
    obtain ⟨c, hc⟩ : ∃ c : Nat, (r : Int) % 8 = (c : Int) := ⟨r % 8, by omega⟩
    rw [ha, hc, Int.toNat_natCast, Int.toNat_natCast]
    exact tileRow_any a c (by omega) (by omega) W h
  have HP : Hid (PxAt W b p) := h
  have hl := h.lt
  have bt : 0 ≤ bits .andNot .i64 s.tile 1 ∧ bits .andNot .i64 s.tile 1 ≤ 255 := by rw [HN.out]; omega
  obtain ⟨bt0, bt1⟩ := bt
  unfold Pic.sprA Pic.sprW
  rw [if_pos h4, hH]
  obtain ⟨st0, st1⟩ := st
  generalize hq : p.rg 4 + 16 - s.row = Q at *
  clear h i hs h4 hq hH
  unfold Spr.val at *
  obtain ⟨Qn, rfl⟩ := Int.eq_ofNat_of_zero_le q0
  have HC : Hid (∀ w', Up (W.alloc (Obj.cells #[.int .u8 s.row, .int .u8 s.col, .int .u8 s.tile, .int .u8 s.flg] 100)) w' → w'.cell? ⟨W.heap.size, 2, none⟩ = some (.int .u8 s.tile) ∧ w'.cell? ⟨W.heap.size, 3, none⟩ = some (.int .u8 s.flg) ∧ PxAt w' b p) := fun w' u => by
    have hb := (u.block W.heap.size (by simp)).trans (heap_alloc_new W _)
    exact ⟨by rw [cell_of_row _ _ _ _ _ _ hb]; rfl, by rw [cell_of_row _ _ _ _ _ _ hb]; rfl, (HP.out.up ((Up.refl W).alloc _)).up u⟩
  have HU : Hid (Up W (W.alloc (Obj.cells #[.int .u8 s.row, .int .u8 s.col, .int .u8 s.tile, .int .u8 s.flg] 100))) := (Up.refl W).alloc _
  by_cases e : bits .and .u8 s.flg 64 = 0
  · rw [if_pos e]
    have d : (bits .and .u8 s.flg 64 != 0) = false := by rw [e]; rfl
    have HT1 : Hid (∀ W, PxAt W b p → _) := fun W (h : PxAt W b p) => HT.out Qn W (by omega) h
    clear e HN
    go_enter Try.func84, Try.ntmps84
    go_wp2_with fail
    generalize World.alloc W _ = W1 at HC HU ⊢
    generalize W.heap.size = sb at HC ⊢
    refine (HR.out _ (HC.out _ (Up.refl _)).2.2).mono ?_
    rintro e w2 ⟨rfl, u2⟩
    obtain ⟨k2, k3, hp2⟩ := HC.out _ u2
    have H2 : Hid (PxAt w2 b p ∧ Up W w2) := ⟨hp2, HU.out.trans u2⟩
    clear u2 hp2
    go_wp2_with fail
    refine (HA.out _ H2.out.1).mono ?_
    rintro e w' ⟨rfl, hw'⟩
    obtain rfl := hw'.symm
    go_wp2_with fail
    refine (HT1.out _ H2.out.1).mono ?_
    rintro e w3 ⟨rfl, n3, rfl⟩
    go_wp2_with fail
    go_ret2
    exact ⟨by first | rfl | (simp; done), H2.out.2.trans (Up.drewN _ n3)⟩
  · rw [if_neg e]
    have d : (bits .and .u8 s.flg 64 != 0) = true := bne_iff_ne.2 e
    obtain ⟨Mn, hM⟩ : ∃ Mn : Nat, Mn = 15 - Qn := ⟨_, rfl⟩
    have e7 : (16 - 1 - (Qn : Int)) = (Mn : Int) := by omega
    rw [e7]
    have e8 : (15 - (Qn : Int)) = (Mn : Int) := by omega
    have HT1 : Hid (∀ W, PxAt W b p → _) := fun W (h : PxAt W b p) => HT.out Mn W (by omega) h
    have hMb : (Mn : Int) ≤ 15 := by omega
    clear e hM HN
    go_enter Try.func84, Try.ntmps84
    go_wp2_with fail
    generalize World.alloc W _ = W1 at HC HU ⊢
    generalize W.heap.size = sb at HC ⊢
    refine (HR.out _ (HC.out _ (Up.refl _)).2.2).mono ?_
    rintro e w2 ⟨rfl, u2⟩
    obtain ⟨k2, k3, hp2⟩ := HC.out _ u2
    have H2 : Hid (PxAt w2 b p ∧ Up W w2) := ⟨hp2, HU.out.trans u2⟩
    clear u2 hp2
    go_wp2_with fail
    refine (HH.out _ H2.out.1).mono ?_
    rintro e w' ⟨rfl, hw'⟩
    obtain rfl := hw'.symm
    go_wp2_with fail
    refine (HA.out _ H2.out.1).mono ?_
    rintro e w' ⟨rfl, hw'⟩
    obtain rfl := hw'.symm
    go_wp2_with fail
    refine (HT1.out _ H2.out.1).mono ?_
    rintro e w3 ⟨rfl, n3, rfl⟩
    go_wp2_with fail
    go_ret2
    exact ⟨by first | rfl | (simp; done), H2.out.2.trans (Up.drewN _ n3)⟩
theorem spriteRowG_any (i : p.In) (s : Spr) (hs : s.In) (on : p.onLine s = true) (W : World) (h : PxAt W b p) : Calls Try.prog 84 #[.pointer (some ⟨b, 0, none⟩), s.val] W fun e w' => e = .returned (.tuple #[.int .u8 (p.vr (p.sprA s)), .int .u8 (p.vr (p.sprA s + 1))]) ∧ Up W w' := by
  unfold Pic.onLine at on
  simp at on
  obtain ⟨o1, o2⟩ := on
  cases h4 : p.has 4
  · have hH : p.sprH = 8 := by unfold Pic.sprH; rw [h4]; rfl
    rw [hH] at o2
    have := spriteRow_any i s hs h4 (by omega) (by omega) W h
    have e : p.sprA s = (s.tile * 16).toNat + 2 * p.sprR s := by
      unfold Pic.sprA Pic.sprW Pic.sprR
      rw [h4, if_neg (by decide), hH]
      rfl
    rw [e]
    exact this
  · have hH : p.sprH = 16 := by unfold Pic.sprH; rw [h4]; rfl
    rw [hH] at o2
    exact spriteRowH_any i s hs h4 (by omega) (by omega) W h
end Go.Proofs.Ytmjfccdhjhkocaa
