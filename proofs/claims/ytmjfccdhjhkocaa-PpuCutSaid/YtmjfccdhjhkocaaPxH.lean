/- The picture's small calls for a tick and for a line. -/
import Derived.Test.YtmjfccdhjhkocaaPxG
namespace Go.Proofs.Ytmjfccdhjhkocaa
open Go.RowKit
set_option linter.unusedVariables false
variable {b : Nat} {p : Pic}
def Pic.matches (p : Pic) : Bool := p.rg 4 == p.rg 5
theorem matches_any (W : World) (h : PxAt W b p) : Calls Try.prog 69 #[.pointer (some ⟨b, 0, none⟩)] W fun e w' => e = .returned (.bool p.matches) ∧ ∃ n, w' = W.drewN n := by
  have k4 : W.cell? ⟨b, 8356, none⟩ = some (.int .u8 (p.rg 4)) := h.reg 4 (by decide)
  have k5 : W.cell? ⟨b, 8357, none⟩ = some (.int .u8 (p.rg 5)) := h.reg 5 (by decide)
  unfold Pic.matches
  clear h
  go_enter Try.func69, Try.ntmps69
  go_wp2_with fail
  go_quiet (fail)
  go_wp2_with fail
  go_ret
  exact ⟨by first | rfl | exact retB (by simp [*]), _, rfl⟩
def Pic.mapBy (p : Pic) (m : Int) : Int := if p.has m = true then 7168 else 6144
theorem mapBy_any (m : Int) (W : World) (h : PxAt W b p) : Calls Try.prog 79 #[.pointer (some ⟨b, 0, none⟩), .int .u8 m] W fun e w' => e = .returned (.int .i64 (p.mapBy m)) ∧ w' = W := by
  have HA : Hid (∀ W, PxAt W b p → Calls Try.prog 48 #[.pointer (some ⟨b, 0, none⟩), .int .u8 m] W fun e w' => e = .returned (.bool (p.has m)) ∧ w' = W) := fun W h => has_any m W h
  have H : Hid (PxAt W b p) := h
  clear h
  unfold Pic.mapBy
  generalize p.has m = B at *
  cases B <;>
  · go_enter Try.func79, Try.ntmps79
    go_wp2_with fail
    refine (HA.out _ H.out).mono ?_
    rintro e w' ⟨rfl, hw'⟩
    obtain rfl := hw'.symm
    go_wp2_with fail
    go_ret
    exact ⟨rfl, rfl⟩
def Pic.tileAt (p : Pic) (t : Int) : Int := if p.has 16 = true then t * 16 else 4096 + IntKind.i8.wrap t * 16
theorem tileAt_any (t : Int) (h0 : 0 ≤ t) (h1 : t ≤ 255) (W : World) (h : PxAt W b p) : Calls Try.prog 89 #[.pointer (some ⟨b, 0, none⟩), .int .u8 t] W fun e w' => e = .returned (.int .i64 (p.tileAt t)) ∧ w' = W := by
  have HA : Hid (∀ W, PxAt W b p → Calls Try.prog 48 #[.pointer (some ⟨b, 0, none⟩), .int .u8 16] W fun e w' => e = .returned (.bool (p.has 16)) ∧ w' = W) := fun W h => has_any 16 W h
  have H : Hid (PxAt W b p) := h
  clear h
  have es := signed t h0 h1
  have s0 : -128 ≤ IntKind.i8.wrap t ∧ IntKind.i8.wrap t ≤ 127 := by rw [es]; split <;> omega
  obtain ⟨s1, s2⟩ := s0
  clear es
  unfold Pic.tileAt
  generalize p.has 16 = B at *
  cases B <;>
  · go_enter Try.func89, Try.ntmps89
    go_wp2_with fail
    refine (HA.out _ H.out).mono ?_
    rintro e w' ⟨rfl, hw'⟩
    obtain rfl := hw'.symm
    go_wp2_with fail
    go_ret
    exact ⟨rfl, rfl⟩
theorem Pic.tileAt_b (p : Pic) (t : Int) (h0 : 0 ≤ t) (h1 : t ≤ 255) : 0 ≤ p.tileAt t ∧ p.tileAt t ≤ 6128 := by
  unfold Pic.tileAt
  rw [signed t h0 h1]
  split
  · omega
  · split <;> omega
def colourI (c n : Int) : Int := bits .and .u8 (c / 2 ^ (2 * n).toNat) 3
theorem colour_any (c n : Int) (h0 : 0 ≤ n) (h1 : n ≤ 3) (hc : 0 ≤ c) (hd : c ≤ 255) (W : World) : Calls Try.prog 73 #[.int .u8 c, .int .u8 n] W fun e w' => e = .returned (.int .u8 (colourI c n)) ∧ w' = W := by
  have hn : n = 0 ∨ n = 1 ∨ n = 2 ∨ n = 3 := by omega
  unfold colourI
  rcases hn with rfl | rfl | rfl | rfl <;>
  · go_enter Try.func73, Try.ntmps73
    go_wp2
    go_ret
    exact ⟨by first | rfl | exact ret1 (by simp), rfl⟩
def numberI (l h k : Int) : Int := bits .or .u8 (bits .and .u8 (l / 2 ^ k.toNat) 1) (bits .and .u8 (h / 2 ^ k.toNat) 1 * 2 % 256)
theorem and1_b : ∀ x : Int, 0 ≤ x → x ≤ 255 → 0 ≤ bits .and .u8 x 1 ∧ bits .and .u8 x 1 ≤ 1 := byteAll (by decide +kernel)
theorem case8i {k : Int} (h : 0 ≤ k) (h1 : k ≤ 7) : k = 0 ∨ k = 1 ∨ k = 2 ∨ k = 3 ∨ k = 4 ∨ k = 5 ∨ k = 6 ∨ k = 7 := by omega
theorem number_any (l h k : Int) (h0 : 0 ≤ k) (h1 : k ≤ 7) (a0 : 0 ≤ l) (a1 : l ≤ 255) (b0 : 0 ≤ h) (b1 : h ≤ 255) (W : World) : Calls Try.prog 85 #[.int .u8 l, .int .u8 h, .int .u8 k] W fun e w' => e = .returned (.int .u8 (numberI l h k)) ∧ w' = W := by
  unfold numberI
  rcases case8i h0 h1 with rfl | rfl | rfl | rfl | rfl | rfl | rfl | rfl <;>
  · go_enter Try.func85, Try.ntmps85
    go_wp2
    go_ret
    exact ⟨by first | rfl | exact ret1 (by simp), rfl⟩
set_option maxRecDepth 100000 in
theorem tileRow_any (a r : Nat) (ha : a ≤ 8176) (hr : r < 8) (W : World) (h : PxAt W b p) : Calls Try.prog 88 #[.pointer (some ⟨b, 0, none⟩), .int .i64 (a : Int), .int .i64 (r : Int)] W fun e w' => e = .returned (.tuple #[.int .u8 (p.vr (a + 2 * r)), .int .u8 (p.vr (a + 2 * r + 1))]) ∧ ∃ n, w' = W.drewN n := by
  have k1 := h.vram (a + 2 * r) (by omega)
  have k2 := h.vram (a + 2 * r + 1) (by omega)
  have e1 : ((a : Int) + 2 * (r : Int)).toNat = a + 2 * r := by omega
  have e2 : ((a : Int) + 2 * (r : Int) + 1).toNat = a + 2 * r + 1 := by omega
  have H : Hid (PxAt W b p) := h
  clear h
  go_enter Try.func88, Try.ntmps88
  go_wp2_with fail
  go_quiet (fail)
  go_wp2_with fail
  go_ret2
  exact ⟨by first | rfl | (simp; done), _, rfl⟩
end Go.Proofs.Ytmjfccdhjhkocaa
