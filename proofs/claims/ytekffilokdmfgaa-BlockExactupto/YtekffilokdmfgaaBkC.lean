/- Block: the law's own calls: same, filled, few. -/
import Derived.Test.YtekffilokdmfgaaBkB
namespace Go.Proofs.Ytekffilokdmfgaa
open Go.RowKit
set_option linter.unusedVariables false
variable {w w' W : World} {g n m o : Nat} {f f' : Nat → Int}
/-- a list of bytes, whatever its block -/
structure Lb (w : World) (v : Value) (n : Nat) (f : Nat → Int) : Prop where
  at' : ∃ (aa : Option Addr) (ab ao c : Nat), v = .slice aa n c ∧ n ≤ c ∧ c ≤ maxLen ∧ (0 < n → aa = some ⟨ab, ao, none⟩) ∧ ∀ k, k < n → w.cell? ⟨ab, ao + k, none⟩ = some (.int .u8 (f k))
theorem Lb.up {v : Value} (h : Lb w v n f) (u : Up w w') : Lb w' v n f := by
  obtain ⟨aa, ab, ao, c, h1, h2, h3, h4, h5⟩ := h.at'
  exact ⟨aa, ab, ao, c, h1, h2, h3, h4, fun k hk => (u.cell (World.block_lt_of_cell? _ _ (h5 k hk))).trans (h5 k hk)⟩
theorem Lb.congr {v : Value} (h : Lb w v n f) (e : ∀ k, k < n → f k = f' k) : Lb w v n f' := by
  obtain ⟨aa, ab, ao, c, h1, h2, h3, h4, h5⟩ := h.at'
  exact ⟨aa, ab, ao, c, h1, h2, h3, h4, fun k hk => by rw [← e k hk]; exact h5 k hk⟩
theorem Lb.nil (w : World) (f : Nat → Int) : Lb w (.slice none 0 0) 0 f := ⟨none, 0, 0, 0, rfl, Nat.le_refl _, Nat.zero_le _, fun h => absurd h (by decide), fun k hk => absurd hk (by omega)⟩
theorem By.lb {c : Nat} (h : By w g n f) (hc : n ≤ c) (hm : c ≤ maxLen) : Lb w (.slice (some ⟨g, 0, none⟩) n c) n f :=
  ⟨_, g, 0, c, rfl, hc, hm, fun _ => rfl, fun k hk => by rw [Nat.zero_add]; exact h.cell k hk⟩
set_option maxRecDepth 100000 in
set_option maxHeartbeats 1000000 in
/-- two lists that read the same -/
theorem same_yes {v1 v2 : Value} (h1 : Lb W v1 n f) (h2 : Lb W v2 n f) : Calls Try.prog 14 #[v1, v2] W fun e w' => e = .returned (.bool true) ∧ Up W w' := by
  obtain ⟨a1, b1, o1, c1, rfl, l1, m1, d1, k1⟩ := h1.at'
  obtain ⟨a2, b2, o2, c2, rfl, l2, m2, d2, k2⟩ := h2.at'
  have q1 : c1 ≤ 9223372036854775807 := by unfold maxLen at m1; omega
  have q2 : c2 ≤ 9223372036854775807 := by unfold maxLen at m2; omega
  have hnn : ((n : Int) == (n : Int)) = true := by simp
  clear h1 h2 m1 m2
  have H1 : Hid (0 < n → a1 = some ⟨b1, o1, none⟩) := d1
  have H2 : Hid (0 < n → a2 = some ⟨b2, o2, none⟩) := d2
  have H3 : Hid (∀ w, Up W w → ∀ k, k < n → w.cell? ⟨b1, o1 + k, none⟩ = some (.int .u8 (f k)) ∧ w.cell? ⟨b2, o2 + k, none⟩ = some (.int .u8 (f k))) := fun w u k hk => ⟨(u.cell (World.block_lt_of_cell? _ _ (k1 k hk))).trans (k1 k hk), (u.cell (World.block_lt_of_cell? _ _ (k2 k hk))).trans (k2 k hk)⟩
  have HU : Hid (Up W W) := Up.refl W
  clear d1 d2 k1 k2
  go_enter Try.func14, Try.ntmps14
  go_wp2_with fail
  go_loopw [5] (fun I wr => ∃ i : Nat, i ≤ n ∧ I = .int .i64 i ∧ Hid (Up W wr)) (fun I _ => n - (intOf I).toNat)
  case atStart => exact ⟨0, by omega, rfl, HU⟩
  case round =>
    clear HU
    obtain ⟨i, hi, rfl, HU⟩ := hrel
    by_cases hlt : i < n
    · have e1 : (i : Int) < (n : Int) := by omega
      obtain rfl := H1.out (by omega)
      obtain rfl := H2.out (by omega)
      have k1 := (H3.out _ HU.out i hlt).1
      have k2 := (H3.out _ HU.out i hlt).2
      clear H1 H2 H3
      go_wp2_with fail
      go_quiet (fail)
      have HV : Hid (Up W (wr.drewN nq)) := HU.out.trans (Up.drewN wr nq)
      clear HU
      go_wp2_with fail
      refine ⟨⟨i + 1, by omega, by first | rfl | (simp; done), HV⟩, ?_⟩
      simp [intOf]
      try omega
    · have e1 : ¬ (i : Int) < (n : Int) := by omega
      clear H1 H2 H3
      go_wp2_with fail
      go_ret
      exact ⟨by first | rfl | (simp; done), HU.out⟩
/-- a sector's bytes out of a number -/
def fillF (v : Int) (k : Nat) : Int := (v + (k : Int) * (v.tmod 7 + 1)) % 256
theorem tmod7 (v : Int) : -6 ≤ v.tmod 7 ∧ v.tmod 7 ≤ 6 := by
  have h := Int.tmod_lt_of_pos v (b := 7) (by decide)
  have h2 : -7 < v.tmod 7 := by
    have := Int.tmod_lt_of_pos (-v) (b := 7) (by decide)
    rw [Int.neg_tmod] at this
    omega
  omega
theorem wrap256 (x : Int) : IntKind.i64.wrap x % 256 = x % 256 := by
  rw [IntKind.wrap_i64]
  omega
set_option maxRecDepth 100000 in
set_option maxHeartbeats 1000000 in
theorem filled_any {v more : Int} {m : Nat} (hv : I64 v) (hm : 512 + more = (m : Int)) (hm2 : m ≤ 1048576) : Calls Try.prog 10 #[.int .i64 v, .int .i64 more] W (Cop W m (fillF v)) := by
  obtain ⟨v1, v2⟩ := hv
  obtain ⟨t1, t2⟩ := tmod7 v
  have hmk : ∀ w : World, (Instr.makeSlice 25 (.int .i64 (m : Int)) (.int .i64 (m : Int))).run Try.prog w = .ok (.slice (some ⟨w.heap.size, 0, none⟩) m m) (w.alloc (.cells (madeCells #[.int .u8 0] m) 5)) := fun w => by
    have := run_make (P := Try.prog) w 25 5 Try.t5 (.int .u8 0) Try.underlying25 (by kernel_rfl) rfl .i64 .i64 (m : Int) (m : Int) (by omega) (by omega) (by show (1 : Int) * (m : Int) ≤ 281474976710656; omega) (by omega)
    have e1 : (Value.int .u8 0).cells = #[Value.int .u8 0] := rfl
    have e2 : Try.t5.size = 1 := rfl
    rw [e1, e2] at this
    simpa using this
  have HM : Hid (m ≤ maxLen) := by show m ≤ maxLen; unfold maxLen; omega
  go_enter Try.func10, Try.ntmps10
  go_wp2_with fail
  have H0 : Hid (By (W.alloc (.cells (madeCells #[.int .u8 0] m) 5)) W.heap.size m (fun k => if k < 0 then fillF v k else 0) ∧ Up W (W.alloc (.cells (madeCells #[.int .u8 0] m) 5))) := ⟨(made_by W m 5).congr (fun k hk => by simp), (Up.refl W).alloc _⟩
  have HG : Hid (W.heap.size ≤ W.heap.size) := Nat.le_refl _
  clear hmk hm
  generalize World.alloc W _ = w0 at H0 ⊢
  generalize hg : W.heap.size = gg at H0 HG ⊢
  have HG2 : Hid (W.heap.size ≤ gg) := by rw [hg]; exact Nat.le_refl _
  clear HG hg
  go_loopw [6] (fun I wr => ∃ i : Nat, i ≤ m ∧ I = .int .i64 i ∧ Hid (By wr gg m (fun k => if k < i then fillF v k else 0) ∧ Up W wr)) (fun I _ => m - (intOf I).toNat)
  case atStart => exact ⟨0, by omega, rfl, H0⟩
  case round =>
    clear H0
    obtain ⟨i, hi, rfl, M0⟩ := hrel
    by_cases hlt : i < m
    · have e1 : (i : Int) < (m : Int) := by omega
      have kc := M0.out.1.cell i hlt
      have kz := M0.out.1.fz i
      have p1 : (i : Int) * (v.tmod 7 + 1) ≤ 7 * 1048576 := by
        have : (i : Int) * (v.tmod 7 + 1) ≤ (i : Int) * 7 := Int.mul_le_mul_of_nonneg_left (by omega) (by omega)
        omega
      have p2 : -(7 * 1048576) ≤ (i : Int) * (v.tmod 7 + 1) := by
        have : (i : Int) * (-7) ≤ (i : Int) * (v.tmod 7 + 1) := Int.mul_le_mul_of_nonneg_left (by omega) (by omega)
        omega
      have HB : Hid (By (wr.setCell ⟨gg, i, none⟩ (.int .u8 (wrap64 (v + ↑i * (v.tmod 7 + 1)) % 256))) gg m (fun k => if k < i + 1 then fillF v k else 0) ∧ Up W (wr.setCell ⟨gg, i, none⟩ (.int .u8 (wrap64 (v + ↑i * (v.tmod 7 + 1)) % 256)))) := by
        refine ⟨(M0.out.1.set i hlt _).congr (fun k hk => ?_), M0.out.2.setCell HG2.out _⟩
        by_cases e : k = i
        · subst e
          rw [putF_in _ _ (Nat.le_refl _) (by omega), if_pos (by omega)]
          unfold fillF
          rw [← wrap256 (v + _)]
          congr 1
          exact (IntWalk.i64_left _).symm
        · rw [putF_out _ _ (by omega)]
          by_cases e2 : k < i
          · rw [if_pos e2, if_pos (by omega)]
          · rw [if_neg e2, if_neg (by omega)]
      go_wp2_with fail
      refine ⟨⟨i + 1, by omega, by first | rfl | (simp; done), HB⟩, ?_⟩
      simp [intOf]
      try omega
    · have e1 : ¬ (i : Int) < (m : Int) := by omega
      have HE : Hid (By wr gg m (fillF v) ∧ Up W wr) := ⟨M0.out.1.congr (fun k hk => by rw [if_pos (by omega)]), M0.out.2⟩
      clear M0
      go_wp2_with fail
      go_ret
      exact ⟨gg, m, by first | rfl | (simp; done), HG2.out, HE.out.1, Nat.le_refl _, HM.out, HE.out.2⟩
end Go.Proofs.Ytekffilokdmfgaa
