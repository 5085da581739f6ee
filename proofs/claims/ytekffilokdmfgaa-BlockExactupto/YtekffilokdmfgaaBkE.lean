/- Block: the small calls. -/
import Derived.Test.YtekffilokdmfgaaBkD
namespace Go.Proofs.Ytekffilokdmfgaa
open Go.RowKit
set_option linter.unusedVariables false
variable {w w' W : World} {g n m o : Nat} {f f' : Nat → Int} {K K' : Nat → Prop} {sb : Nat} {A : Ad} {S : Sto}
/-- a store that was just made -/
def Sto.fresh (n : Nat) (f : Nat → Int) : Sto := ⟨n, f, f, [], -1⟩
theorem heap_alloc_lt (w : World) (o : Obj) : w.heap.size < (w.alloc o).heap.size := by simp
set_option maxRecDepth 100000 in
set_option maxHeartbeats 1000000 in
/-- a store of bytes that are there: block g lies outside K -/
theorem with_any {cap : Nat} (hg : By W g (512 * n) f) (hn1 : 1 ≤ n) (hn2 : n ≤ 4096) (hc1 : 512 * n ≤ cap) (hc2 : cap ≤ maxLen) (hk : ∀ b, K b → b < W.heap.size ∧ b ≠ g) :
    Calls Try.prog 32 #[.slice (some ⟨g, 0, none⟩) (512 * n) cap] W fun e w' => ∃ sb, e = .returned (.pointer (some ⟨sb, 0, none⟩)) ∧ StAt K w' sb (Sto.fresh n f) ∧ Up W w' := by
  have HC : Hid (Calls Try.prog 40 #[.slice (some ⟨g, 0, none⟩) (512 * n) cap] W (Cop W (512 * n) f)) := cloneM_any (by omega) (fun k hk => by rw [Nat.zero_add]; exact hg.cell k hk)
  have HE : Hid (∀ w1 fb fc, W.heap.size ≤ fb → By w1 fb (512 * n) f → 512 * n ≤ fc → fc ≤ maxLen → Up W w1 → StAt K (w1.alloc (.cells #[.slice (some ⟨g, 0, none⟩) (512 * n) cap, .slice (some ⟨fb, 0, none⟩) (512 * n) fc, .slice none 0 0, .int .i64 (-1)] 67)) w1.heap.size (Sto.fresh n f) ∧ Up W (w1.alloc (.cells #[.slice (some ⟨g, 0, none⟩) (512 * n) cap, .slice (some ⟨fb, 0, none⟩) (512 * n) fc, .slice none 0 0, .int .i64 (-1)] 67))) := fun w1 fb fc h1 h2 h3 h4 u => by
    have gl := hg.lt
    have fl := h2.lt
    have us := u.size
    have ua := (Up.refl w1).alloc (.cells #[.slice (some ⟨g, 0, none⟩) (512 * n) cap, .slice (some ⟨fb, 0, none⟩) (512 * n) fc, .slice none 0 0, .int .i64 (-1)] 67)
    have hz := heap_alloc_lt w1 (.cells #[.slice (some ⟨g, 0, none⟩) (512 * n) cap, .slice (some ⟨fb, 0, none⟩) (512 * n) fc, .slice none 0 0, .int .i64 (-1)] 67)
    refine ⟨⟨⟨g, cap, fb, fc, .slice none 0 0, []⟩, fun b hb ho => ?_, fun b hb => ?_, hn1, hn2, (by show (-1 : Int) ≤ -1; decide), (by show (-1 : Int) ≤ 9223372036854775807; decide), heap_alloc_new w1 _, (hg.up u).up ua, h2.up ua, hc1, hc2, h3, h4, rfl, ⟨rfl, Or.inl ⟨rfl, rfl⟩⟩, fun x hx => by (cases hx), ?_, ?_, ?_, ⟨by simp [Value.ownBlock], by simp [Value.ownBlock], by simp [Value.ownBlock]⟩, fun x hx => by (cases hx)⟩, u.alloc _⟩
    · have hkb := hk b hb
      rcases ho with e | e | e | e | ⟨x, hx, _⟩
      · omega
      · exact hkb.2 e
      · have e : b = fb := e
        omega
      · exact absurd e (by simp [Value.ownBlock])
      · cases hx
    · have hkb := hk b hb
      omega
    · show w1.heap.size ≠ g
      omega
    · show w1.heap.size ≠ fb
      omega
    · show g ≠ fb
      omega
  clear hg hk
  generalize 512 * n = N at *
  clear hn1 hn2
  go_enter Try.func32, Try.ntmps32
  go_wp2_with fail
  refine Calls.mono HC.out ?_
  rintro e w1 ⟨fb, fc, rfl, h1, h2, h3, h4, u⟩
  have H1 : Hid _ := HE.out w1 fb fc h1 h2 h3 h4 u
  clear h1 h2 h3 h4 u HE HC hc1 hc2
  go_wp2_with fail
  go_ret
  exact ⟨_, by first | rfl | (simp; done), H1.out⟩
set_option maxRecDepth 100000 in
set_option maxHeartbeats 1000000 in
theorem new_ok (hn1 : 1 ≤ n) (hn2 : n ≤ 4096) (hk : ∀ b, K b → b < W.heap.size) :
    Calls Try.prog 6 #[.int .i64 (n : Int)] W fun e w' => ∃ sb, e = .returned (.tuple #[.pointer (some ⟨sb, 0, none⟩), .int .i64 0]) ∧ StAt K w' sb (Sto.fresh n (fun _ => 0)) ∧ Up W w' := by
  have e1 : (n : Int) * 512 = ((512 * n : Nat) : Int) := by omega
  have hN : 512 * n ≤ 2097152 := by omega
  have hmk : ∀ w : World, (Instr.makeSlice 58 (.int .i64 ((512 * n : Nat) : Int)) (.int .i64 ((512 * n : Nat) : Int))).run Try.prog w = .ok (.slice (some ⟨w.heap.size, 0, none⟩) (512 * n) (512 * n)) (w.alloc (.cells (madeCells #[.int .u8 0] (512 * n)) 5)) := fun w => mkM w (512 * n) (by omega)
  have HW : Hid (∀ w, w = W.alloc (.cells (madeCells #[.int .u8 0] (512 * n)) 5) → Calls Try.prog 32 #[.slice (some ⟨W.heap.size, 0, none⟩) (512 * n) (512 * n)] w fun e w' => ∃ sb, e = .returned (.pointer (some ⟨sb, 0, none⟩)) ∧ StAt K w' sb (Sto.fresh n (fun _ => 0)) ∧ Up W w') := fun w hw => by
    subst hw
    have ua := (Up.refl W).alloc (.cells (madeCells #[.int .u8 0] (512 * n)) 5)
    have hz := heap_alloc_lt W (.cells (madeCells #[.int .u8 0] (512 * n)) 5)
    exact (with_any (K := K) (made_by W (512 * n) 5) hn1 hn2 (Nat.le_refl _) (by unfold maxLen; omega) (fun b hb => by have := hk b hb; omega)).mono fun e w' ⟨sb, h1, h2, h3⟩ => ⟨sb, h1, h2, ua.trans h3⟩
  have d1 : ¬ (n : Int) < 1 := by omega
  have d2 : ¬ (4096 : Int) < (n : Int) := by omega
  generalize 512 * n = N at *
  go_enter Try.func6, Try.ntmps6
  go_wp2_with fail
  refine (HW.out _ rfl).mono ?_
  rintro e w1 ⟨sb, rfl, h1, h2⟩
  have H1 : Hid _ := And.intro h1 h2
  clear h1 h2 HW hmk
  go_wp2_with fail
  go_ret2
  exact ⟨_, by first | rfl | (simp; done), H1.out⟩
set_option maxRecDepth 100000 in
theorem new_no {x : Int} (hx : I64 x) (h : x < 1 ∨ 4096 < x) :
    Calls Try.prog 6 #[.int .i64 x] W fun e w' => e = .returned (.tuple #[.pointer none, .int .i64 1]) ∧ w' = W := by
  obtain ⟨x1, x2⟩ := hx
  by_cases d1 : x < 1
  · clear h
    go_enter Try.func6, Try.ntmps6
    go_wp2_with fail
    go_ret2
    exact ⟨by first | rfl | (simp; done), rfl⟩
  · have d2 : (4096 : Int) < x := by omega
    clear h
    go_enter Try.func6, Try.ntmps6
    go_wp2_with fail
    go_ret2
    exact ⟨by first | rfl | (simp; done), rfl⟩
set_option maxRecDepth 100000 in
theorem sectors_any (h : StR K W sb A S) :
    Calls Try.prog 24 #[.pointer (some ⟨sb, 0, none⟩)] W fun e w' => e = .returned (.int .i64 (S.n : Int)) ∧ w' = W := by
  have k0 := h.cell.1
  have hn := h.n2
  have hc1 := h.nc1
  have hc2 : A.nc ≤ 9223372036854775807 := by have := h.nc2; unfold maxLen at this; omega
  have HM : Hid (∀ w, Calls Try.prog 39 #[.slice (some ⟨A.nb, 0, none⟩) (512 * S.n) A.nc] w fun e w' => e = .returned (.int .i64 (S.n : Int)) ∧ w' = w) := fun w => by
    have e1 : ((512 * S.n : Nat) : Int) / 512 = (S.n : Int) := by omega
    have hN : 512 * S.n ≤ 2097152 := by omega
    clear h k0
    generalize 512 * S.n = N at *
    go_enter Try.func39, Try.ntmps39
    go_wp2
    go_ret
    exact ⟨by first | rfl | (simp; done), rfl⟩
  clear h
  generalize 512 * S.n = N at *
  go_enter Try.func24, Try.ntmps24
  go_wp2_with fail
  refine (HM.out _).mono ?_
  rintro e w' ⟨rfl, hw'⟩
  obtain rfl := hw'.symm
  go_wp2_with fail
  go_ret
  exact ⟨by first | rfl | (simp; done), rfl⟩
set_option maxRecDepth 100000 in
theorem has_any (h : StR K W sb A S) {x : Int} (hx : I64 x) :
    Calls Try.prog 35 #[.pointer (some ⟨sb, 0, none⟩), .int .i64 x] W fun e w' => e = .returned (.bool (decide (0 ≤ x ∧ x < (S.n : Int)))) ∧ w' = W := by
  have HS : Hid (∀ w, w = W → Calls Try.prog 24 #[.pointer (some ⟨sb, 0, none⟩)] w fun e w' => e = .returned (.int .i64 (S.n : Int)) ∧ w' = w) := fun w hw => by subst hw; exact sectors_any h
  obtain ⟨x1, x2⟩ := hx
  have hn := h.n2
  clear h
  by_cases d1 : 0 ≤ x
  · by_cases d2 : x < (S.n : Int)
    · have e0 : decide (0 ≤ x ∧ x < (S.n : Int)) = true := decide_eq_true ⟨d1, d2⟩
      rw [e0]
      clear e0
      go_enter Try.func35, Try.ntmps35
      go_wp2_with fail
      refine (HS.out _ rfl).mono ?_
      rintro e w' ⟨rfl, hw'⟩
      obtain rfl := hw'.symm
      go_wp2_with fail
      go_ret
      exact ⟨by first | rfl | (simp; done), rfl⟩
    · have e0 : decide (0 ≤ x ∧ x < (S.n : Int)) = false := decide_eq_false (by omega)
      have d3 : decide (x < (S.n : Int)) = false := decide_eq_false d2
      rw [e0]
      clear e0
      go_enter Try.func35, Try.ntmps35
      go_wp2_with fail
      refine (HS.out _ rfl).mono ?_
      rintro e w' ⟨rfl, hw'⟩
      obtain rfl := hw'.symm
      go_wp2_with fail
      go_ret
      exact ⟨by first | rfl | (simp; done) | (simp; omega), rfl⟩
  · have e0 : decide (0 ≤ x ∧ x < (S.n : Int)) = false := decide_eq_false (by omega)
    rw [e0]
    clear e0
    go_enter Try.func35, Try.ntmps35
    go_wp2_with fail
    go_ret
    exact ⟨by first | rfl | (simp; done), rfl⟩
set_option maxRecDepth 100000 in
theorem pending_any (h : StR K W sb A S) :
    Calls Try.prog 26 #[.pointer (some ⟨sb, 0, none⟩)] W fun e w' => e = .returned (.int .i64 (S.pend.length : Int)) ∧ w' = W := by
  obtain ⟨pa, pc, hv, h1, h2⟩ := h.pv
  have k2 := h.cell.2.2.1
  rw [hv] at k2
  have hc2 : pc ≤ 9223372036854775807 := by unfold maxLen at h2; omega
  clear h hv h2
  generalize S.pend.length = L at *
  go_enter Try.func26, Try.ntmps26
  go_wp2
  go_ret
  exact ⟨by first | rfl | (simp; done), rfl⟩
set_option maxRecDepth 100000 in
theorem image_any (h : StR K W sb A S) :
    Calls Try.prog 28 #[.pointer (some ⟨sb, 0, none⟩)] W (Cop W (512 * S.n) S.now) := by
  have k0 := h.cell.1
  have hn := h.n2
  have HC : Hid (∀ w, w = W → Calls Try.prog 40 #[.slice (some ⟨A.nb, 0, none⟩) (512 * S.n) A.nc] w (Cop W (512 * S.n) S.now)) := fun w hw => by subst hw; exact cloneM_any (by omega) (fun k hk => by rw [Nat.zero_add]; exact h.now.cell k hk)
  clear h
  generalize 512 * S.n = N at *
  go_enter Try.func28, Try.ntmps28
  go_wp2_with fail
  refine (HC.out _ rfl).mono ?_
  rintro e w1 ⟨fb, fc, rfl, hh⟩
  have H1 : Hid _ := hh
  clear hh HC k0
  go_wp2_with fail
  go_ret
  exact ⟨_, _, by first | rfl | (simp; done), H1.out⟩
set_option maxRecDepth 100000 in
theorem read_ok (h : StR K W sb A S) {i : Nat} (hi : i < S.n) :
    Calls Try.prog 12 #[.pointer (some ⟨sb, 0, none⟩), .int .i64 (i : Int)] W fun e w' => ∃ g cap, e = .returned (.tuple #[.slice (some ⟨g, 0, none⟩) 512 cap, .int .i64 0]) ∧ W.heap.size ≤ g ∧ By w' g 512 (fun k => S.now (512 * i + k)) ∧ 512 ≤ cap ∧ cap ≤ maxLen ∧ Up W w' := by
  have k0 := h.cell.1
  have hn := h.n2
  have HH : Hid (∀ w, w = W → Calls Try.prog 35 #[.pointer (some ⟨sb, 0, none⟩), .int .i64 (i : Int)] w fun e w' => e = .returned (.bool true) ∧ w' = w) := fun w hw => by
    subst hw
    have := has_any h (x := (i : Int)) ⟨by omega, by omega⟩
    rw [decide_eq_true ⟨by omega, by omega⟩] at this
    exact this
  have HS : Hid (∀ w, w = W → Calls Try.prog 37 #[.slice (some ⟨A.nb, 0, none⟩) (512 * S.n) A.nc, .int .i64 (i : Int)] w fun e w' => e = .returned (.slice (some ⟨A.nb, 512 * i, none⟩) 512 512) ∧ w' = w) := fun w hw => sector_any hi hn h.nc1 h.nc2
  have HC : Hid (∀ w, w = W → Calls Try.prog 36 #[.slice (some ⟨A.nb, 512 * i, none⟩) 512 512] w (Cop W 512 (fun k => S.now (512 * i + k)))) := fun w hw => by subst hw; exact cloneB_any (by omega) (fun k hk => h.now.cell _ (by omega))
  clear h
  generalize 512 * S.n = N at *
  generalize 512 * i = I at *
  go_enter Try.func12, Try.ntmps12
  go_wp2_with fail
  refine (HH.out _ rfl).mono ?_
  rintro e w' ⟨rfl, hw'⟩
  obtain rfl := hw'.symm
  go_wp2_with fail
  refine (HS.out _ rfl).mono ?_
  rintro e w' ⟨rfl, hw'⟩
  obtain rfl := hw'.symm
  go_wp2_with fail
  refine (HC.out _ rfl).mono ?_
  rintro e w1 ⟨fb, fc, rfl, hh⟩
  have H1 : Hid _ := hh
  clear hh HC k0 HH HS
  go_wp2_with fail
  go_ret2
  exact ⟨_, _, by first | rfl | (simp; done), H1.out⟩
set_option maxRecDepth 100000 in
theorem read_no (h : StR K W sb A S) {x : Int} (hx : I64 x) (hno : x < 0 ∨ (S.n : Int) ≤ x) :
    Calls Try.prog 12 #[.pointer (some ⟨sb, 0, none⟩), .int .i64 x] W fun e w' => e = .returned (.tuple #[.slice none 0 0, .int .i64 1]) ∧ w' = W := by
  have HH : Hid (∀ w, w = W → Calls Try.prog 35 #[.pointer (some ⟨sb, 0, none⟩), .int .i64 x] w fun e w' => e = .returned (.bool false) ∧ w' = w) := fun w hw => by
    subst hw
    have := has_any h hx
    rw [decide_eq_false (by omega)] at this
    exact this
  clear h hno hx
  go_enter Try.func12, Try.ntmps12
  go_wp2_with fail
  refine (HH.out _ rfl).mono ?_
  rintro e w' ⟨rfl, hw'⟩
  obtain rfl := hw'.symm
  go_wp2_with fail
  go_ret2
  exact ⟨by first | rfl | (simp; done), rfl⟩
/-- what a limit makes -/
def Sto.limit (S : Sto) (x : Int) : Sto := { S with left := max x 0 }
set_option maxRecDepth 100000 in
theorem limit_any (h : StAt K W sb S) {x : Int} (hx : I64 x) :
    Calls Try.prog 22 #[.pointer (some ⟨sb, 0, none⟩), .int .i64 x] W fun e w' => e = .returned (.tuple #[]) ∧ StAt K w' sb (S.limit x) ∧ FK K W w' := by
  obtain ⟨A, h⟩ := h
  obtain ⟨x1, x2⟩ := hx
  have k3 := h.cell.2.2.2
  have z3 := h.fz 3
  have H1 : Hid _ := h.setLeft (max x 0) (by omega) (by omega)
  clear h
  go_enter Try.func22, Try.ntmps22
  go_wp2_with fail
  go_end0
  exact ⟨rfl, ⟨_, H1.out.1⟩, H1.out.2⟩
end Go.Proofs.Ytekffilokdmfgaa
