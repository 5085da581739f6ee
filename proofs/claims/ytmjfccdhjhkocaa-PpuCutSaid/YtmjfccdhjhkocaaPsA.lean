/- Sprites: small calls. -/
import Derived.Test.YtmjfccdhjhkocaaPxZ
namespace Go.Proofs.Ytmjfccdhjhkocaa
open Go.RowKit
set_option linter.unusedVariables false
variable {b : Nat} {p : Pic}
/-- a sprite, by its bytes -/
structure Spr where
  row : Int
  col : Int
  tile : Int
  flg : Int
structure Spr.In (s : Spr) : Prop where
  r : 0 ≤ s.row ∧ s.row ≤ 255
  c : 0 ≤ s.col ∧ s.col ≤ 255
  t : 0 ≤ s.tile ∧ s.tile ≤ 255
  f : 0 ≤ s.flg ∧ s.flg ≤ 255
def Spr.val (s : Spr) : Value := .agg #[.int .u8 s.row, .int .u8 s.col, .int .u8 s.tile, .int .u8 s.flg]
set_option maxRecDepth 100000 in
theorem rowIn_any (i : p.In) (s : Spr) (hs : s.In) (W : World) (h : PxAt W b p) : Calls Try.prog 90 #[.pointer (some ⟨b, 0, none⟩), s.val] W fun e w' => e = .returned (.int .i64 (p.rg 4 + 16 - s.row)) ∧ Up W w' := by
  have k4 : W.cell? ⟨b, 8356, none⟩ = some (.int .u8 (p.rg 4)) := h.reg 4 (by decide)
  obtain ⟨l0, l1⟩ := i.rg 4
  obtain ⟨⟨r0, r1⟩, _, _, _⟩ := hs
  unfold Spr.val
  have k4a : (W.alloc (Obj.cells #[.int .u8 s.row, .int .u8 s.col, .int .u8 s.tile, .int .u8 s.flg] 100)).cell? ⟨b, 8356, none⟩ = some (.int .u8 (p.rg 4)) := (((Up.refl W).alloc _).cell h.lt).trans k4
  have hb : (W.alloc (Obj.cells #[.int .u8 s.row, .int .u8 s.col, .int .u8 s.tile, .int .u8 s.flg] 100)).heap[W.heap.size]? = some (.cells #[.int .u8 s.row, .int .u8 s.col, .int .u8 s.tile, .int .u8 s.flg] 100 (0, 0)) := heap_alloc_new W _
  have k0 : (W.alloc (Obj.cells #[.int .u8 s.row, .int .u8 s.col, .int .u8 s.tile, .int .u8 s.flg] 100)).cell? ⟨W.heap.size, 0, none⟩ = some (.int .u8 s.row) := by rw [cell_of_row _ _ _ _ _ _ hb]; rfl
  have HU : Hid (Up W (W.alloc (Obj.cells #[.int .u8 s.row, .int .u8 s.col, .int .u8 s.tile, .int .u8 s.flg] 100))) := (Up.refl W).alloc _
  clear i k4 h hb
  go_enter Try.func90, Try.ntmps90
  go_wp2_with fail
  generalize World.alloc W _ = W1 at k4a k0 HU ⊢
  go_quiet (fail)
  go_wp2_with fail
  go_ret
  exact ⟨by first | rfl | exact ret1 (by omega), HU.out.trans (Up.drewN _ _)⟩
def Pic.sprH (p : Pic) : Int := if p.has 4 = true then 16 else 8
set_option maxRecDepth 100000 in
theorem spriteHigh_any (W : World) (h : PxAt W b p) : Calls Try.prog 91 #[.pointer (some ⟨b, 0, none⟩)] W fun e w' => e = .returned (.int .i64 p.sprH) ∧ w' = W := by
  have HA : Hid (∀ W, PxAt W b p → Calls Try.prog 48 #[.pointer (some ⟨b, 0, none⟩), .int .u8 4] W fun e w' => e = .returned (.bool (p.has 4)) ∧ w' = W) := fun W h => has_any 4 W h
  have H : Hid (PxAt W b p) := h
  clear h
  unfold Pic.sprH
  generalize p.has 4 = B at *
  cases B <;>
  · go_enter Try.func91, Try.ntmps91
    go_wp2_with fail
    refine (HA.out _ H.out).mono ?_
    rintro e w' ⟨rfl, hw'⟩
    obtain rfl := hw'.symm
    go_wp2_with fail
    go_ret
    exact ⟨rfl, rfl⟩
def Spr.bit (s : Spr) (i : Int) : Int := if bits .and .u8 s.flg 32 = 0 then 7 - i else i
set_option maxRecDepth 100000 in
theorem bitAt_any (s : Spr) (hs : s.In) (i : Int) (h0 : 0 ≤ i) (h1 : i ≤ 7) (W : World) : Calls Try.prog 86 #[s.val, .int .i64 i] W fun e w' => e = .returned (.int .u8 (s.bit i)) ∧ Up W w' := by
  unfold Spr.val Spr.bit
  by_cases e : bits .and .u8 s.flg 32 = 0
  · rw [if_pos e]
    have d : (bits .and .u8 s.flg 32 != 0) = false := by rw [e]; rfl
    clear e
    go_enter Try.func86, Try.ntmps86
    go_wp2_with fail
    go_ret
    exact ⟨by first | rfl | exact ret1 (by omega), (Up.refl W).alloc _⟩
  · rw [if_neg e]
    have d : (bits .and .u8 s.flg 32 != 0) = true := bne_iff_ne.2 e
    clear e
    go_enter Try.func86, Try.ntmps86
    go_wp2_with fail
    go_ret
    exact ⟨by first | rfl | exact ret1 (by omega), (Up.refl W).alloc _⟩
def Pic.sprC (p : Pic) (s : Spr) : Int := if bits .and .u8 s.flg 16 = 0 then p.rg 8 else p.rg 9
set_option maxRecDepth 100000 in
theorem coloursOf_any (s : Spr) (W : World) (h : PxAt W b p) : Calls Try.prog 87 #[.pointer (some ⟨b, 0, none⟩), s.val] W fun e w' => e = .returned (.int .u8 (p.sprC s)) ∧ Up W w' := by
  have h8 : W.cell? ⟨b, 8360, none⟩ = some (.int .u8 (p.rg 8)) := h.reg 8 (by decide)
  have h9 : W.cell? ⟨b, 8361, none⟩ = some (.int .u8 (p.rg 9)) := h.reg 9 (by decide)
  have hl := h.lt
  unfold Spr.val Pic.sprC
  by_cases e : bits .and .u8 s.flg 16 = 0
  · rw [if_pos e]
    have d : (bits .and .u8 s.flg 16 != 0) = false := by rw [e]; rfl
    clear e
    go_enter Try.func87, Try.ntmps87
    go_wp2_with fail
    go_ret
    exact ⟨rfl, (Up.refl W).alloc _⟩
  · rw [if_neg e]
    have d : (bits .and .u8 s.flg 16 != 0) = true := bne_iff_ne.2 e
    clear e
    go_enter Try.func87, Try.ntmps87
    go_wp2_with fail
    go_ret
    exact ⟨rfl, (Up.refl W).alloc _⟩
/-- the row of a sprite's tile that a line has, low sprites -/
def Pic.sprR (p : Pic) (s : Spr) : Nat := (if bits .and .u8 s.flg 64 = 0 then p.rg 4 + 16 - s.row else 7 - (p.rg 4 + 16 - s.row)).toNat
set_option maxRecDepth 100000 in
set_option maxHeartbeats 1000000 in
theorem spriteRow_any (i : p.In) (s : Spr) (hs : s.In) (h4 : p.has 4 = false) (q0 : 0 ≤ p.rg 4 + 16 - s.row) (q1 : p.rg 4 + 16 - s.row ≤ 7) (W : World) (h : PxAt W b p) : Calls Try.prog 84 #[.pointer (some ⟨b, 0, none⟩), s.val] W fun e w' => e = .returned (.tuple #[.int .u8 (p.vr ((s.tile * 16).toNat + 2 * p.sprR s)), .int .u8 (p.vr ((s.tile * 16).toNat + 2 * p.sprR s + 1))]) ∧ Up W w' := by
  have HR : Hid (∀ W, PxAt W b p → Calls Try.prog 90 #[.pointer (some ⟨b, 0, none⟩), s.val] W fun e w' => e = .returned (.int .i64 (p.rg 4 + 16 - s.row)) ∧ Up W w') := fun W h => rowIn_any i s hs W h
  have HA : Hid (∀ W, PxAt W b p → Calls Try.prog 48 #[.pointer (some ⟨b, 0, none⟩), .int .u8 4] W fun e w' => e = .returned (.bool false) ∧ w' = W) := fun W h => h4 ▸ has_any 4 W h
  have HH : Hid (∀ W, PxAt W b p → Calls Try.prog 91 #[.pointer (some ⟨b, 0, none⟩)] W fun e w' => e = .returned (.int .i64 8) ∧ w' = W) := fun W h => by
    have := spriteHigh_any W h
    unfold Pic.sprH at this
    rw [h4] at this
    exact this
  have st := hs.t
  obtain ⟨t, ht⟩ := Int.eq_ofNat_of_zero_le st.1
  have HT : Hid (∀ (r : Nat) W, r < 8 → PxAt W b p → Calls Try.prog 88 #[.pointer (some ⟨b, 0, none⟩), .int .i64 (s.tile * 16), .int .i64 (r : Int)] W fun e w' => e = .returned (.tuple #[.int .u8 (p.vr ((s.tile * 16).toNat + 2 * r)), .int .u8 (p.vr ((s.tile * 16).toNat + 2 * r + 1))]) ∧ ∃ n, w' = W.drewN n) := fun r W hr h => by
    have e1 : s.tile * 16 = ((t * 16 : Nat) : Int) := by rw [ht]; omega
    rw [e1, Int.toNat_natCast]
    exact tileRow_any (t * 16) r (by omega) hr W h
  have HP : Hid (PxAt W b p) := h
  have hl := h.lt
  unfold Pic.sprR
  obtain ⟨st0, st1⟩ := st
  generalize hq : p.rg 4 + 16 - s.row = Q at *
  clear h i hs h4 ht hq
  unfold Spr.val at *
  obtain ⟨Qn, rfl⟩ := Int.eq_ofNat_of_zero_le q0
  by_cases e : bits .and .u8 s.flg 64 = 0
  · rw [if_pos e, Int.toNat_natCast]
    have d : (bits .and .u8 s.flg 64 != 0) = false := by rw [e]; rfl
    have em : (Qn : Int) % 8 = (Qn : Int) := by omega
    have HT1 : Hid (∀ W, PxAt W b p → _) := fun W (h : PxAt W b p) => HT.out Qn W (by omega) h
    clear e
    have HC : Hid (∀ w', Up (W.alloc (Obj.cells #[.int .u8 s.row, .int .u8 s.col, .int .u8 s.tile, .int .u8 s.flg] 100)) w' → w'.cell? ⟨W.heap.size, 2, none⟩ = some (.int .u8 s.tile) ∧ w'.cell? ⟨W.heap.size, 3, none⟩ = some (.int .u8 s.flg) ∧ PxAt w' b p) := fun w' u => by
      have hb := (u.block W.heap.size (by simp)).trans (heap_alloc_new W _)
      exact ⟨by rw [cell_of_row _ _ _ _ _ _ hb]; rfl, by rw [cell_of_row _ _ _ _ _ _ hb]; rfl, (HP.out.up ((Up.refl W).alloc _)).up u⟩
    have HU : Hid (Up W (W.alloc (Obj.cells #[.int .u8 s.row, .int .u8 s.col, .int .u8 s.tile, .int .u8 s.flg] 100))) := (Up.refl W).alloc _
    go_enter Try.func84, Try.ntmps84
    go_wp2_with fail
    generalize World.alloc W _ = W1 at HC HU ⊢
    generalize W.heap.size = sb at HC ⊢
    refine (HR.out _ (HC.out _ (Up.refl _)).2.2).mono ?_
    rintro e w2 ⟨rfl, u2⟩
    obtain ⟨k2, k3, hp2⟩ := HC.out _ u2
    have H2 : Hid (PxAt w2 b p ∧ Up W w2) := ⟨hp2, HU.out.trans u2⟩
    clear u2 hp2
    go_wp2_with fail
    refine (HA.out _ H2.out.1).mono ?_
    rintro e w' ⟨rfl, hw'⟩
    obtain rfl := hw'.symm
    go_wp2_with fail
    refine (HT1.out _ H2.out.1).mono ?_
    rintro e w3 ⟨rfl, n3, rfl⟩
    go_wp2_with fail
    go_ret2
    exact ⟨by first | rfl | (simp; done), H2.out.2.trans (Up.drewN _ n3)⟩
  · rw [if_neg e]
    have d : (bits .and .u8 s.flg 64 != 0) = true := bne_iff_ne.2 e
    obtain ⟨Mn, hM⟩ : ∃ Mn : Nat, Mn = 7 - Qn := ⟨_, rfl⟩
    have e7 : (7 - (Qn : Int)) = (Mn : Int) := by omega
    rw [e7, Int.toNat_natCast]
    have em : (Mn : Int) % 8 = (Mn : Int) := by omega
    have e8 : (8 - 1 - (Qn : Int)) = (Mn : Int) := by omega
    have HT1 : Hid (∀ W, PxAt W b p → _) := fun W (h : PxAt W b p) => HT.out Mn W (by omega) h
    clear e hM
    have HC : Hid (∀ w', Up (W.alloc (Obj.cells #[.int .u8 s.row, .int .u8 s.col, .int .u8 s.tile, .int .u8 s.flg] 100)) w' → w'.cell? ⟨W.heap.size, 2, none⟩ = some (.int .u8 s.tile) ∧ w'.cell? ⟨W.heap.size, 3, none⟩ = some (.int .u8 s.flg) ∧ PxAt w' b p) := fun w' u => by
      have hb := (u.block W.heap.size (by simp)).trans (heap_alloc_new W _)
      exact ⟨by rw [cell_of_row _ _ _ _ _ _ hb]; rfl, by rw [cell_of_row _ _ _ _ _ _ hb]; rfl, (HP.out.up ((Up.refl W).alloc _)).up u⟩
    have HU : Hid (Up W (W.alloc (Obj.cells #[.int .u8 s.row, .int .u8 s.col, .int .u8 s.tile, .int .u8 s.flg] 100))) := (Up.refl W).alloc _
    go_enter Try.func84, Try.ntmps84
    go_wp2_with fail
    generalize World.alloc W _ = W1 at HC HU ⊢
    generalize W.heap.size = sb at HC ⊢
    refine (HR.out _ (HC.out _ (Up.refl _)).2.2).mono ?_
    rintro e w2 ⟨rfl, u2⟩
    obtain ⟨k2, k3, hp2⟩ := HC.out _ u2
    have H2 : Hid (PxAt w2 b p ∧ Up W w2) := ⟨hp2, HU.out.trans u2⟩
    clear u2 hp2
    go_wp2_with fail
    refine (HH.out _ H2.out.1).mono ?_
    rintro e w' ⟨rfl, hw'⟩
    obtain rfl := hw'.symm
    go_wp2_with fail
    refine (HA.out _ H2.out.1).mono ?_
    rintro e w' ⟨rfl, hw'⟩
    obtain rfl := hw'.symm
    go_wp2_with fail
    refine (HT1.out _ H2.out.1).mono ?_
    rintro e w3 ⟨rfl, n3, rfl⟩
    go_wp2_with fail
    go_ret2
    exact ⟨by first | rfl | (simp; done), H2.out.2.trans (Up.drewN _ n3)⟩
end Go.Proofs.Ytmjfccdhjhkocaa
