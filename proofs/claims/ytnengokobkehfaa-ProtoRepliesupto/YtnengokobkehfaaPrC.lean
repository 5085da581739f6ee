/- Proto: small calls over the translation. -/
import Derived.Test.YtnengokobkehfaaPrB
import Derived.Test.YtnengokobkehfaaPrR
import Derived.Test.YtnengokobkehfaaTabL
import Derived.WalkSmall
import Derived.WalkMore
import Derived.Recover
namespace Go.Proofs.Ytnengokobkehfaa
open Go.RowKit
set_option linter.unusedVariables false
variable {w w' W : World}
/-- n bytes in a block, from O on, as f says -/
structure Dt (w : World) (g O N : Nat) (f : Nat → Int) : Prop where
  cell : ∀ k, k < N → w.cell? ⟨g, O + k, none⟩ = some (.int .u8 (f k))
  u8 : F8 f
theorem Dt.up {g O N : Nat} {f : Nat → Int} (h : Dt w g O N f) (u : Up w w') : Dt w' g O N f :=
  ⟨fun k hk => (u.cell (World.block_lt_of_cell? _ _ (h.cell k hk))).trans (h.cell k hk), h.u8⟩
theorem wraps_i64 (n : Int) (h₀ : 0 ≤ n) (h₁ : n < 2 ^ 63) : IntKind.i64.wrap n = n := by
  simp [IntKind.wrap, IntKind.bits, IntKind.signed]
  omega
theorem or8 (m x : Int) (h0 : 0 ≤ m) (h1 : m < 4294967296) (h2 : 0 ≤ x) (h3 : x ≤ 255) : bits .or .i64 (m * 256) x = m * 256 + x :=
  bits_join .i64 63 (by decide) wraps_i64 8 (m * 256) x (by omega) (by omega) (by omega) h2 (by omega) (by omega)
set_option maxRecDepth 100000 in
set_option maxHeartbeats 400000 in
theorem numberOf_any {g O N : Nat} {f : Nat → Int} (o wd c : Nat) (hw : wd ≤ 4) (hN : o + wd ≤ N) (w : World) (h : Dt w g O N f) :
    Calls Try.prog 42 #[.slice (some ⟨g, O + o, none⟩) wd c] w fun e w' => e = .returned (.int .i64 (num f o wd)) ∧ w' = w := by
  have hwi : (wd : Int) ≤ 4 := by omega
  go_enter Try.func42, Try.ntmps42
  go_wp2
  go_loop [3, 8] (fun n i => ∃ k : Nat, k ≤ wd ∧ i = .int .i64 k ∧ n = .int .i64 (num f o k)) (fun _ i => wd - (intOf i).toNat)
  case atStart => exact ⟨0, Nat.zero_le _, rfl, rfl⟩
  case round =>
    obtain ⟨k, hk, rfl, rfl⟩ := hrel
    by_cases hlt : k < wd
    · have hc := h.cell (o + k) (by omega)
      rw [← Nat.add_assoc] at hc
      have h0 := num_lo h.u8 o k
      have h1 := num_hi4 h.u8 o k (by omega)
      have h2 := (h.u8 (o + k)).1
      have h3 := (h.u8 (o + k)).2
      have HE := or8 _ _ h0 h1 h2 h3
      go_wp2
      go_round
      case rel => exact ⟨k + 1, by omega, by go_num, by first | rw [HE]; rfl | rfl⟩
      case measure => simp [intOf]; omega
    · have e : k = wd := by omega
      subst e
      go_wp2
      go_ret
      exact ⟨rfl, rfl⟩
set_option maxRecDepth 100000 in
set_option maxHeartbeats 400000 in
theorem numberValue_any (n : Int) (w : World) :
    Calls Try.prog 23 #[.int .i64 n] w fun e w' => e = .returned (.agg #[.int .i64 n, .slice none 0 0]) ∧ Up w w' := by
  go_enter Try.func23, Try.ntmps23
  go_wp2
  exact bodyPost_ret (results_row rfl _ _ w.heap.size 59 #[.int .i64 n, .slice none 0 0] (0, 0) _ rfl (heap_alloc_new w _) Try.underlying59 (by kernel_rfl) (by kernel_rfl)) rfl ⟨rfl, (Up.refl w).alloc _⟩
set_option maxRecDepth 100000 in
set_option maxHeartbeats 400000 in
theorem listValue_any (a : Option Addr) (n c : Nat) (w : World) :
    Calls Try.prog 24 #[.slice a n c] w fun e w' => e = .returned (.agg #[.int .i64 n, .slice a n c]) ∧ Up w w' := by
  go_enter Try.func24, Try.ntmps24
  go_wp2
  exact bodyPost_ret (results_row rfl _ _ w.heap.size 59 #[.int .i64 n, .slice a n c] (0, 0) _ rfl (heap_alloc_new w _) Try.underlying59 (by kernel_rfl) (by kernel_rfl)) rfl ⟨rfl, (Up.refl w).alloc _⟩
/-- what somebody gives up with -/
def gaveV (x : Int) : List PanicEntry := [{ v := .iface 96 (.agg #[.int .i64 x]), recovered := false }]
set_option maxRecDepth 100000 in
set_option maxHeartbeats 400000 in
theorem giveUp_any (x : Int) (w : World) :
    Calls Try.prog 54 #[.int .i64 x] w fun e w' => e = .panicked (gaveV x) ∧ w' = w := by
  go_enter Try.func54, Try.ntmps54
  go_wp2
  exact ⟨rfl, rfl, rfl⟩
set_option maxRecDepth 100000 in
set_option maxHeartbeats 400000 in
theorem tenantOf_any (b : Nat) (w : World) (x : Value) (h : w.cell? ⟨b, 0, none⟩ = some x) :
    Calls Try.prog 30 #[.pointer (some ⟨b, 0, none⟩)] w fun e w' => e = .returned (.pointer (some ⟨b, 1, none⟩)) ∧ w' = w := by
  go_enter Try.func30, Try.ntmps30
  go_wp2
  go_ret
  exact ⟨rfl, rfl⟩
set_option maxRecDepth 100000 in
set_option maxHeartbeats 400000 in
theorem nameOf_any (b : Nat) (w : World) (x : Value) (h : w.cell? ⟨b, 0, none⟩ = some x) :
    Calls Try.prog 33 #[.pointer (some ⟨b, 0, none⟩)] w fun e w' => e = .returned (.pointer (some ⟨b, 3, none⟩)) ∧ w' = w := by
  go_enter Try.func33, Try.ntmps33
  go_wp2
  go_ret
  exact ⟨rfl, rfl⟩
set_option maxRecDepth 100000 in
set_option maxHeartbeats 400000 in
theorem nOf_any (b : Nat) (w : World) (x : Value) (h : w.cell? ⟨b, 0, none⟩ = some x) :
    Calls Try.prog 37 #[.pointer (some ⟨b, 0, none⟩)] w fun e w' => e = .returned (.pointer (some ⟨b, 5, none⟩)) ∧ w' = w := by
  go_enter Try.func37, Try.ntmps37
  go_wp2
  go_ret
  exact ⟨rfl, rfl⟩
set_option maxRecDepth 100000 in
set_option maxHeartbeats 400000 in
theorem mOf_any (b : Nat) (w : World) (x : Value) (h : w.cell? ⟨b, 0, none⟩ = some x) :
    Calls Try.prog 41 #[.pointer (some ⟨b, 0, none⟩)] w fun e w' => e = .returned (.pointer (some ⟨b, 7, none⟩)) ∧ w' = w := by
  go_enter Try.func41, Try.ntmps41
  go_wp2
  go_ret
  exact ⟨rfl, rfl⟩
set_option maxRecDepth 100000 in
set_option maxHeartbeats 400000 in
theorem dataOf_any (b : Nat) (w : World) (x : Value) (h : w.cell? ⟨b, 0, none⟩ = some x) :
    Calls Try.prog 36 #[.pointer (some ⟨b, 0, none⟩)] w fun e w' => e = .returned (.pointer (some ⟨b, 9, none⟩)) ∧ w' = w := by
  go_enter Try.func36, Try.ntmps36
  go_wp2
  go_ret
  exact ⟨rfl, rfl⟩
/-- a reader: n bytes at o are left -/
structure Rdr (w : World) (rb g o n c : Nat) : Prop where
  row : ∃ p, w.heap[rb]? = some (.cells #[.slice (some ⟨g, p, none⟩) n c] 88 (0, 0)) ∧ (0 < n → p = o)
  nc : n ≤ c
  cm : c ≤ maxLen
theorem Rdr.of_block {rb g o n c : Nat} (h : Rdr w rb g o n c) (e : w'.heap[rb]? = w.heap[rb]?) : Rdr w' rb g o n c :=
  ⟨let ⟨p, h1, h2⟩ := h.row; ⟨p, e.trans h1, h2⟩, h.nc, h.cm⟩
theorem Rdr.lt {rb g o n c : Nat} (h : Rdr w rb g o n c) : rb < w.heap.size := let ⟨_, h1, _⟩ := h.row; heap_at h1
theorem Rdr.up {rb g o n c : Nat} (h : Rdr w rb g o n c) (u : Up w w') : Rdr w' rb g o n c := h.of_block (u.block _ h.lt)
set_option maxRecDepth 100000 in
set_option maxHeartbeats 400000 in
theorem take_ok {rb g o n c : Nat} (m : Nat) (hm : m ≤ n) (w : World) (h : Rdr w rb g o n c) :
    Calls Try.prog 46 #[.pointer (some ⟨rb, 0, none⟩), .int .i64 m] w fun e w' => ∃ p, e = .returned (.slice (some ⟨g, p, none⟩) m c) ∧ (0 < m → p = o) ∧ Rdr w' rb g (o + m) (n - m) (c - m) ∧ Fr rb w w' := by
  obtain ⟨p, hr, hp⟩ := h.row
  have hc : w.cell? ⟨rb, 0, none⟩ = some (.slice (some ⟨g, p, none⟩) n c) := heap_cell hr rfl
  have hz : w.frozen? ⟨rb, 0, none⟩ = false := heap_fz hr
  have h1 := h.nc
  have h2 := h.cm
  have HM : Hid (c ≤ maxLen) := h2
  have HR : Hid (w.heap[rb]? = some (.cells #[.slice (some ⟨g, p, none⟩) n c] 88 (0, 0))) := hr
  have HP : Hid (0 < n → p = o) := hp
  clear hr hp h
  unfold maxLen at h2
  have hmi : (m : Int) ≤ n := by omega
  go_enter Try.func46, Try.ntmps46
  go_wp2
  · go_ret
    subst h
    refine ⟨p, rfl, fun hp => HP.out (by omega), ⟨⟨p, heap_setCell_same _ _ 0 _ _ _ HR.out, fun hp => ?_⟩, by omega, by unfold maxLen; omega⟩, (Fr.refl _ _).setCell⟩
    omega
  · go_ret
    exact ⟨p, rfl, fun hp => HP.out (by omega), ⟨⟨p + m, heap_setCell_same _ _ 0 _ _ _ HR.out, fun hp => by rw [HP.out (by omega)]⟩, by omega, by unfold maxLen; omega⟩, (Fr.refl _ _).setCell⟩
set_option maxRecDepth 100000 in
set_option maxHeartbeats 400000 in
theorem take_no {rb g o n c : Nat} (m : Nat) (hm : n < m) (w : World) (h : Rdr w rb g o n c) :
    Calls Try.prog 46 #[.pointer (some ⟨rb, 0, none⟩), .int .i64 m] w fun e w' => e = .panicked (gaveV 121) ∧ w' = w := by
  obtain ⟨p, hr, hp⟩ := h.row
  have hc : w.cell? ⟨rb, 0, none⟩ = some (.slice (some ⟨g, p, none⟩) n c) := heap_cell hr rfl
  clear hr hp h
  have hmi : (n : Int) < m := by omega
  go_enter Try.func46, Try.ntmps46
  go_wp2_with fail
  refine (giveUp_any 121 _).mono ?_
  rintro e w1 ⟨rfl, rfl⟩
  go_wp2
  exact ⟨rfl, rfl, rfl⟩
set_option maxRecDepth 100000 in
set_option maxHeartbeats 400000 in
theorem end_ok {rb g o c : Nat} (w : World) (h : Rdr w rb g o 0 c) :
    Calls Try.prog 55 #[.pointer (some ⟨rb, 0, none⟩)] w fun e w' => e = .returned (.tuple #[]) ∧ w' = w := by
  obtain ⟨p, hr, hp⟩ := h.row
  have hc : w.cell? ⟨rb, 0, none⟩ = some (.slice (some ⟨g, p, none⟩) 0 c) := heap_cell hr rfl
  clear hr hp h
  go_enter Try.func55, Try.ntmps55
  go_wp2
  go_end0
  exact ⟨rfl, rfl⟩
set_option maxRecDepth 100000 in
set_option maxHeartbeats 400000 in
theorem end_no {rb g o n c : Nat} (hn : 0 < n) (w : World) (h : Rdr w rb g o n c) :
    Calls Try.prog 55 #[.pointer (some ⟨rb, 0, none⟩)] w fun e w' => e = .panicked (gaveV 121) ∧ w' = w := by
  obtain ⟨p, hr, hp⟩ := h.row
  have hc : w.cell? ⟨rb, 0, none⟩ = some (.slice (some ⟨g, p, none⟩) n c) := heap_cell hr rfl
  clear hr hp h
  have hni : (0 : Int) < n := by omega
  go_enter Try.func55, Try.ntmps55
  go_wp2_with fail
  refine (giveUp_any 121 _).mono ?_
  rintro e w1 ⟨rfl, rfl⟩
  go_wp2
  exact ⟨rfl, rfl, rfl⟩
/-- part reads, and what becomes of a reader: it stays within the frame's bytes -/
structure Rs (w : World) (rb g O o e : Nat) (f : Nat → Int) : Prop where
  rd : ∃ c, Rdr w rb g (O + o) (e - o) c
  dt : Dt w g O e f
  oe : o ≤ e
  ne : g ≠ rb
theorem Rs.up {rb g O o e : Nat} {f : Nat → Int} (h : Rs w rb g O o e f) (u : Up w w') : Rs w' rb g O o e f :=
  ⟨let ⟨c, h1⟩ := h.rd; ⟨c, h1.up u⟩, h.dt.up u, h.oe, h.ne⟩
theorem Dt.fr {g O N b : Nat} {f : Nat → Int} (h : Dt w g O N f) (u : Fr b w w') (hb : g ≠ b) : Dt w' g O N f :=
  ⟨fun k hk => (u.cell (World.block_lt_of_cell? _ _ (h.cell k hk)) hb).trans (h.cell k hk), h.u8⟩
end Go.Proofs.Ytnengokobkehfaa
