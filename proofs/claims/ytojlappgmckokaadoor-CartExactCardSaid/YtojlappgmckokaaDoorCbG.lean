/- Cart: may the RAM have these bytes? -/
import Derived.Test.YtojlappgmckokaaDoorCbF
namespace Go.Proofs.YtojlappgmckokaaDoor
open Go.Shelf Go.RowKit
set_option linter.unusedVariables false
set_option linter.unusedSimpArgs false
variable {w w' W : World} {b : Nat} {A : Ad} {C : Ct}
theorem an255 : ∀ x : Int, 0 ≤ x → x ≤ 255 → (bits .andNot .u8 x 255 != 0) = false := byteAll (by decide +kernel)
theorem an15 : ∀ x : Int, 0 ≤ x → x ≤ 255 → (bits .andNot .u8 x 15 != 0) = decide (15 < x) := byteAll (by decide +kernel)
theorem anK {kp : Nat} (hk : kp = 255 ∨ kp = 15) {x : Int} (h0 : 0 ≤ x) (h1 : x ≤ 255) : (bits .andNot .u8 x (kp : Int) != 0) = decide ((kp : Int) < x) := by
  rcases hk with rfl | rfl
  · rw [show ((255 : Nat) : Int) = 255 from rfl, an255 x h0 h1, decide_eq_false (by omega)]
  · exact an15 x h0 h1
set_option maxRecDepth 100000 in
set_option maxHeartbeats 1000000 in
theorem fits_0 {cb rb rc rm n c ab ao : Nat} {aa : Option Addr} {f : Nat → Int} {t : Bool} (k7 : W.cell? ⟨cb, 7, none⟩ = some (.slice (some ⟨rb, 0, none⟩) rm rc)) (k8 : W.cell? ⟨cb, 8, none⟩ = some (.iface 121 (.agg #[]))) (hL : Byts W aa ab ao n c f) (ht : t = true ↔ n = rm ∧ ∀ k, k < n → f k ≤ 255) (hrm : rm ≤ 131072) : Calls Tryd.prog 42 #[.pointer (some ⟨cb, 0, none⟩), .slice aa n c] W fun e w' => e = .returned (.bool t) ∧ Up W w' := by
  have lcm : c ≤ 9223372036854775807 := by have := hL.cm; unfold maxLen at this; omega
  have lnc := hL.lc
  by_cases hn : n = rm
  · subst hn
    have HKp : Hid (∀ w, Calls Tryd.prog 113 #[.agg #[]] w fun e w' => e = .returned (.int .u8 255) ∧ Up w w') := fun w => kept_0
    have HL : Hid (∀ w, Up W w → Byts w aa ab ao n c f) := fun w u => hL.upB u
    have HT : Hid (t = true ↔ ∀ k, k < n → f k ≤ 255) := ⟨fun h => (ht.1 h).2, fun h => ht.2 ⟨rfl, h⟩⟩
    clear hL ht
    go_enter Tryd.func42, Tryd.ntmps42
    go_wp2_with fail
    refine (HKp.out _).mono ?_
    rintro e w5 ⟨rfl, u5⟩
    have HU5 : Hid (Up W w5) := u5
    clear u5 k7 k8 HKp
    go_wp2_with fail
    go_loopw [23] (fun J wr => wr = w5 ∧ ∃ j : Nat, j ≤ n ∧ J = .int .i64 (j : Int) ∧ Hid (∀ k, k < j → f k ≤ 255)) (fun J _ => n - (intOf J).toNat)
    case atStart => exact ⟨rfl, 0, Nat.zero_le _, rfl, fun k hk => absurd hk (Nat.not_lt_zero k)⟩
    case round =>
      obtain ⟨hwr, j, hj, rfl, HJ⟩ := hrel
      subst hwr
      by_cases hlt : j < n
      · have e1 : (j : Int) < (n : Int) := by omega
        obtain rfl : aa = some ⟨ab, ao, none⟩ := (HL.out wr HU5.out).ad (by omega)
        have kc := (HL.out wr HU5.out).cell j hlt
        obtain ⟨x, hx, x0, x8⟩ : ∃ x, f j = x ∧ 0 ≤ x ∧ x ≤ 255 := ⟨_, rfl, ((HL.out wr HU5.out).u8 j).1, ((HL.out wr HU5.out).u8 j).2⟩
        have HX : Hid (f j = x) := hx
        rw [hx] at kc
        clear hx
        have hz : (bits .andNot .u8 x 255 != 0) = decide (255 < x) := anK (kp := 255) (by decide) x0 x8
        by_cases hb : x ≤ 255
        · rw [decide_eq_false (by omega)] at hz
          have HJ1 : Hid (∀ k, k < j + 1 → f k ≤ 255) := fun k hk => by
            by_cases hkj : k = j
            · rw [hkj, HX.out]; exact hb
            · exact HJ.out k (by omega)
          clear HJ HX hb
          go_wp2_with fail
          go_round
          case rel => exact ⟨by trivial, j + 1, by omega, by go_num, HJ1⟩
          case measure => simp [intOf]; omega
        · rw [decide_eq_true (by omega)] at hz
          have hf : t = false := by
            cases htt : t with
            | false => rfl
            | true =>
              have := HT.out.1 htt j hlt
              rw [HX.out] at this
              exact absurd this hb
          subst hf
          clear HJ HX hb HT
          go_wp2_with fail
          go_ret
          exact ⟨by first | rfl | (simp; done), HU5.out⟩
      · have e1 : ¬ (j : Int) < (n : Int) := by omega
        obtain rfl : j = n := by omega
        have hf : t = true := HT.out.2 HJ.out
        subst hf
        clear HJ HT
        go_wp2_with fail
        go_ret
        exact ⟨by first | rfl | (simp; done), HU5.out⟩
  · have hf : t = false := by
      cases htt : t with
      | false => rfl
      | true => exact absurd (ht.1 htt).1 hn
    subst hf
    have e1 : ((n : Int) != (rm : Int)) = true := by rw [bne_iff_ne]; omega
    clear hL ht hn
    go_enter Tryd.func42, Tryd.ntmps42
    go_wp2_with fail
    go_ret
    exact ⟨by first | rfl | (simp; done), Up.refl _⟩
set_option maxRecDepth 100000 in
set_option maxHeartbeats 1000000 in
theorem fits_1 {cb rb rc rm n c ab ao : Nat} {aa : Option Addr} {f : Nat → Int} {t : Bool} (k7 : W.cell? ⟨cb, 7, none⟩ = some (.slice (some ⟨rb, 0, none⟩) rm rc)) (k8 : W.cell? ⟨cb, 8, none⟩ = some (.iface 108 (.pointer (some ⟨b, 0, none⟩)))) (hL : Byts W aa ab ao n c f) (ht : t = true ↔ n = rm ∧ ∀ k, k < n → f k ≤ 255) (hrm : rm ≤ 131072) : Calls Tryd.prog 42 #[.pointer (some ⟨cb, 0, none⟩), .slice aa n c] W fun e w' => e = .returned (.bool t) ∧ Up W w' := by
  have lcm : c ≤ 9223372036854775807 := by have := hL.cm; unfold maxLen at this; omega
  have lnc := hL.lc
  by_cases hn : n = rm
  · subst hn
    have HKp : Hid (∀ w, Calls Tryd.prog 92 #[.pointer (some ⟨b, 0, none⟩)] w fun e w' => e = .returned (.int .u8 255) ∧ Up w w') := fun w => kept_1.mono fun e w' ⟨a1, a2⟩ => ⟨a1, by rw [a2]; exact Up.refl w⟩
    have HL : Hid (∀ w, Up W w → Byts w aa ab ao n c f) := fun w u => hL.upB u
    have HT : Hid (t = true ↔ ∀ k, k < n → f k ≤ 255) := ⟨fun h => (ht.1 h).2, fun h => ht.2 ⟨rfl, h⟩⟩
    clear hL ht
    go_enter Tryd.func42, Tryd.ntmps42
    go_wp2_with fail
    refine (HKp.out _).mono ?_
    rintro e w5 ⟨rfl, u5⟩
    have HU5 : Hid (Up W w5) := u5
    clear u5 k7 k8 HKp
    go_wp2_with fail
    go_loopw [23] (fun J wr => wr = w5 ∧ ∃ j : Nat, j ≤ n ∧ J = .int .i64 (j : Int) ∧ Hid (∀ k, k < j → f k ≤ 255)) (fun J _ => n - (intOf J).toNat)
    case atStart => exact ⟨rfl, 0, Nat.zero_le _, rfl, fun k hk => absurd hk (Nat.not_lt_zero k)⟩
    case round =>
      obtain ⟨hwr, j, hj, rfl, HJ⟩ := hrel
      subst hwr
      by_cases hlt : j < n
      · have e1 : (j : Int) < (n : Int) := by omega
        obtain rfl : aa = some ⟨ab, ao, none⟩ := (HL.out wr HU5.out).ad (by omega)
        have kc := (HL.out wr HU5.out).cell j hlt
        obtain ⟨x, hx, x0, x8⟩ : ∃ x, f j = x ∧ 0 ≤ x ∧ x ≤ 255 := ⟨_, rfl, ((HL.out wr HU5.out).u8 j).1, ((HL.out wr HU5.out).u8 j).2⟩
        have HX : Hid (f j = x) := hx
        rw [hx] at kc
        clear hx
        have hz : (bits .andNot .u8 x 255 != 0) = decide (255 < x) := anK (kp := 255) (by decide) x0 x8
        by_cases hb : x ≤ 255
        · rw [decide_eq_false (by omega)] at hz
          have HJ1 : Hid (∀ k, k < j + 1 → f k ≤ 255) := fun k hk => by
            by_cases hkj : k = j
            · rw [hkj, HX.out]; exact hb
            · exact HJ.out k (by omega)
          clear HJ HX hb
          go_wp2_with fail
          go_round
          case rel => exact ⟨by trivial, j + 1, by omega, by go_num, HJ1⟩
          case measure => simp [intOf]; omega
        · rw [decide_eq_true (by omega)] at hz
          have hf : t = false := by
            cases htt : t with
            | false => rfl
            | true =>
              have := HT.out.1 htt j hlt
              rw [HX.out] at this
              exact absurd this hb
          subst hf
          clear HJ HX hb HT
          go_wp2_with fail
          go_ret
          exact ⟨by first | rfl | (simp; done), HU5.out⟩
      · have e1 : ¬ (j : Int) < (n : Int) := by omega
        obtain rfl : j = n := by omega
        have hf : t = true := HT.out.2 HJ.out
        subst hf
        clear HJ HT
        go_wp2_with fail
        go_ret
        exact ⟨by first | rfl | (simp; done), HU5.out⟩
  · have hf : t = false := by
      cases htt : t with
      | false => rfl
      | true => exact absurd (ht.1 htt).1 hn
    subst hf
    have e1 : ((n : Int) != (rm : Int)) = true := by rw [bne_iff_ne]; omega
    clear hL ht hn
    go_enter Tryd.func42, Tryd.ntmps42
    go_wp2_with fail
    go_ret
    exact ⟨by first | rfl | (simp; done), Up.refl _⟩
set_option maxRecDepth 100000 in
set_option maxHeartbeats 1000000 in
theorem fits_2 {cb rb rc rm n c ab ao : Nat} {aa : Option Addr} {f : Nat → Int} {t : Bool} (k7 : W.cell? ⟨cb, 7, none⟩ = some (.slice (some ⟨rb, 0, none⟩) rm rc)) (k8 : W.cell? ⟨cb, 8, none⟩ = some (.iface 111 (.pointer (some ⟨b, 0, none⟩)))) (hL : Byts W aa ab ao n c f) (ht : t = true ↔ n = rm ∧ ∀ k, k < n → f k ≤ 15) (hrm : rm ≤ 131072) : Calls Tryd.prog 42 #[.pointer (some ⟨cb, 0, none⟩), .slice aa n c] W fun e w' => e = .returned (.bool t) ∧ Up W w' := by
  have lcm : c ≤ 9223372036854775807 := by have := hL.cm; unfold maxLen at this; omega
  have lnc := hL.lc
  by_cases hn : n = rm
  · subst hn
    have HKp : Hid (∀ w, Calls Tryd.prog 98 #[.pointer (some ⟨b, 0, none⟩)] w fun e w' => e = .returned (.int .u8 15) ∧ Up w w') := fun w => kept_2.mono fun e w' ⟨a1, a2⟩ => ⟨a1, by rw [a2]; exact Up.refl w⟩
    have HL : Hid (∀ w, Up W w → Byts w aa ab ao n c f) := fun w u => hL.upB u
    have HT : Hid (t = true ↔ ∀ k, k < n → f k ≤ 15) := ⟨fun h => (ht.1 h).2, fun h => ht.2 ⟨rfl, h⟩⟩
    clear hL ht
    go_enter Tryd.func42, Tryd.ntmps42
    go_wp2_with fail
    refine (HKp.out _).mono ?_
    rintro e w5 ⟨rfl, u5⟩
    have HU5 : Hid (Up W w5) := u5
    clear u5 k7 k8 HKp
    go_wp2_with fail
    go_loopw [23] (fun J wr => wr = w5 ∧ ∃ j : Nat, j ≤ n ∧ J = .int .i64 (j : Int) ∧ Hid (∀ k, k < j → f k ≤ 15)) (fun J _ => n - (intOf J).toNat)
    case atStart => exact ⟨rfl, 0, Nat.zero_le _, rfl, fun k hk => absurd hk (Nat.not_lt_zero k)⟩
    case round =>
      obtain ⟨hwr, j, hj, rfl, HJ⟩ := hrel
      subst hwr
      by_cases hlt : j < n
      · have e1 : (j : Int) < (n : Int) := by omega
        obtain rfl : aa = some ⟨ab, ao, none⟩ := (HL.out wr HU5.out).ad (by omega)
        have kc := (HL.out wr HU5.out).cell j hlt
        obtain ⟨x, hx, x0, x8⟩ : ∃ x, f j = x ∧ 0 ≤ x ∧ x ≤ 255 := ⟨_, rfl, ((HL.out wr HU5.out).u8 j).1, ((HL.out wr HU5.out).u8 j).2⟩
        have HX : Hid (f j = x) := hx
        rw [hx] at kc
        clear hx
        have hz : (bits .andNot .u8 x 15 != 0) = decide (15 < x) := anK (kp := 15) (by decide) x0 x8
        by_cases hb : x ≤ 15
        · rw [decide_eq_false (by omega)] at hz
          have HJ1 : Hid (∀ k, k < j + 1 → f k ≤ 15) := fun k hk => by
            by_cases hkj : k = j
            · rw [hkj, HX.out]; exact hb
            · exact HJ.out k (by omega)
          clear HJ HX hb
          go_wp2_with fail
          go_round
          case rel => exact ⟨by trivial, j + 1, by omega, by go_num, HJ1⟩
          case measure => simp [intOf]; omega
        · rw [decide_eq_true (by omega)] at hz
          have hf : t = false := by
            cases htt : t with
            | false => rfl
            | true =>
              have := HT.out.1 htt j hlt
              rw [HX.out] at this
              exact absurd this hb
          subst hf
          clear HJ HX hb HT
          go_wp2_with fail
          go_ret
          exact ⟨by first | rfl | (simp; done), HU5.out⟩
      · have e1 : ¬ (j : Int) < (n : Int) := by omega
        obtain rfl : j = n := by omega
        have hf : t = true := HT.out.2 HJ.out
        subst hf
        clear HJ HT
        go_wp2_with fail
        go_ret
        exact ⟨by first | rfl | (simp; done), HU5.out⟩
  · have hf : t = false := by
      cases htt : t with
      | false => rfl
      | true => exact absurd (ht.1 htt).1 hn
    subst hf
    have e1 : ((n : Int) != (rm : Int)) = true := by rw [bne_iff_ne]; omega
    clear hL ht hn
    go_enter Tryd.func42, Tryd.ntmps42
    go_wp2_with fail
    go_ret
    exact ⟨by first | rfl | (simp; done), Up.refl _⟩
set_option maxRecDepth 100000 in
set_option maxHeartbeats 1000000 in
theorem fits_3 {cb rb rc rm n c ab ao : Nat} {aa : Option Addr} {f : Nat → Int} {t : Bool} (k7 : W.cell? ⟨cb, 7, none⟩ = some (.slice (some ⟨rb, 0, none⟩) rm rc)) (k8 : W.cell? ⟨cb, 8, none⟩ = some (.iface 114 (.pointer (some ⟨b, 0, none⟩)))) (hL : Byts W aa ab ao n c f) (ht : t = true ↔ n = rm ∧ ∀ k, k < n → f k ≤ 255) (hrm : rm ≤ 131072) : Calls Tryd.prog 42 #[.pointer (some ⟨cb, 0, none⟩), .slice aa n c] W fun e w' => e = .returned (.bool t) ∧ Up W w' := by
  have lcm : c ≤ 9223372036854775807 := by have := hL.cm; unfold maxLen at this; omega
  have lnc := hL.lc
  by_cases hn : n = rm
  · subst hn
    have HKp : Hid (∀ w, Calls Tryd.prog 103 #[.pointer (some ⟨b, 0, none⟩)] w fun e w' => e = .returned (.int .u8 255) ∧ Up w w') := fun w => kept_3.mono fun e w' ⟨a1, a2⟩ => ⟨a1, by rw [a2]; exact Up.refl w⟩
    have HL : Hid (∀ w, Up W w → Byts w aa ab ao n c f) := fun w u => hL.upB u
    have HT : Hid (t = true ↔ ∀ k, k < n → f k ≤ 255) := ⟨fun h => (ht.1 h).2, fun h => ht.2 ⟨rfl, h⟩⟩
    clear hL ht
    go_enter Tryd.func42, Tryd.ntmps42
    go_wp2_with fail
    refine (HKp.out _).mono ?_
    rintro e w5 ⟨rfl, u5⟩
    have HU5 : Hid (Up W w5) := u5
    clear u5 k7 k8 HKp
    go_wp2_with fail
    go_loopw [23] (fun J wr => wr = w5 ∧ ∃ j : Nat, j ≤ n ∧ J = .int .i64 (j : Int) ∧ Hid (∀ k, k < j → f k ≤ 255)) (fun J _ => n - (intOf J).toNat)
    case atStart => exact ⟨rfl, 0, Nat.zero_le _, rfl, fun k hk => absurd hk (Nat.not_lt_zero k)⟩
    case round =>
      obtain ⟨hwr, j, hj, rfl, HJ⟩ := hrel
      subst hwr
      by_cases hlt : j < n
      · have e1 : (j : Int) < (n : Int) := by omega
        obtain rfl : aa = some ⟨ab, ao, none⟩ := (HL.out wr HU5.out).ad (by omega)
        have kc := (HL.out wr HU5.out).cell j hlt
        obtain ⟨x, hx, x0, x8⟩ : ∃ x, f j = x ∧ 0 ≤ x ∧ x ≤ 255 := ⟨_, rfl, ((HL.out wr HU5.out).u8 j).1, ((HL.out wr HU5.out).u8 j).2⟩
        have HX : Hid (f j = x) := hx
        rw [hx] at kc
        clear hx
        have hz : (bits .andNot .u8 x 255 != 0) = decide (255 < x) := anK (kp := 255) (by decide) x0 x8
        by_cases hb : x ≤ 255
        · rw [decide_eq_false (by omega)] at hz
          have HJ1 : Hid (∀ k, k < j + 1 → f k ≤ 255) := fun k hk => by
            by_cases hkj : k = j
            · rw [hkj, HX.out]; exact hb
            · exact HJ.out k (by omega)
          clear HJ HX hb
          go_wp2_with fail
          go_round
          case rel => exact ⟨by trivial, j + 1, by omega, by go_num, HJ1⟩
          case measure => simp [intOf]; omega
        · rw [decide_eq_true (by omega)] at hz
          have hf : t = false := by
            cases htt : t with
            | false => rfl
            | true =>
              have := HT.out.1 htt j hlt
              rw [HX.out] at this
              exact absurd this hb
          subst hf
          clear HJ HX hb HT
          go_wp2_with fail
          go_ret
          exact ⟨by first | rfl | (simp; done), HU5.out⟩
      · have e1 : ¬ (j : Int) < (n : Int) := by omega
        obtain rfl : j = n := by omega
        have hf : t = true := HT.out.2 HJ.out
        subst hf
        clear HJ HT
        go_wp2_with fail
        go_ret
        exact ⟨by first | rfl | (simp; done), HU5.out⟩
  · have hf : t = false := by
      cases htt : t with
      | false => rfl
      | true => exact absurd (ht.1 htt).1 hn
    subst hf
    have e1 : ((n : Int) != (rm : Int)) = true := by rw [bne_iff_ne]; omega
    clear hL ht hn
    go_enter Tryd.func42, Tryd.ntmps42
    go_wp2_with fail
    go_ret
    exact ⟨by first | rfl | (simp; done), Up.refl _⟩
set_option maxRecDepth 100000 in
set_option maxHeartbeats 1000000 in
theorem fits_5 {cb rb rc rm n c ab ao : Nat} {aa : Option Addr} {f : Nat → Int} {t : Bool} (k7 : W.cell? ⟨cb, 7, none⟩ = some (.slice (some ⟨rb, 0, none⟩) rm rc)) (k8 : W.cell? ⟨cb, 8, none⟩ = some (.iface 117 (.pointer (some ⟨b, 0, none⟩)))) (hL : Byts W aa ab ao n c f) (ht : t = true ↔ n = rm ∧ ∀ k, k < n → f k ≤ 255) (hrm : rm ≤ 131072) : Calls Tryd.prog 42 #[.pointer (some ⟨cb, 0, none⟩), .slice aa n c] W fun e w' => e = .returned (.bool t) ∧ Up W w' := by
  have lcm : c ≤ 9223372036854775807 := by have := hL.cm; unfold maxLen at this; omega
  have lnc := hL.lc
  by_cases hn : n = rm
  · subst hn
    have HKp : Hid (∀ w, Calls Tryd.prog 108 #[.pointer (some ⟨b, 0, none⟩)] w fun e w' => e = .returned (.int .u8 255) ∧ Up w w') := fun w => kept_5.mono fun e w' ⟨a1, a2⟩ => ⟨a1, by rw [a2]; exact Up.refl w⟩
    have HL : Hid (∀ w, Up W w → Byts w aa ab ao n c f) := fun w u => hL.upB u
    have HT : Hid (t = true ↔ ∀ k, k < n → f k ≤ 255) := ⟨fun h => (ht.1 h).2, fun h => ht.2 ⟨rfl, h⟩⟩
    clear hL ht
    go_enter Tryd.func42, Tryd.ntmps42
    go_wp2_with fail
    refine (HKp.out _).mono ?_
    rintro e w5 ⟨rfl, u5⟩
    have HU5 : Hid (Up W w5) := u5
    clear u5 k7 k8 HKp
    go_wp2_with fail
    go_loopw [23] (fun J wr => wr = w5 ∧ ∃ j : Nat, j ≤ n ∧ J = .int .i64 (j : Int) ∧ Hid (∀ k, k < j → f k ≤ 255)) (fun J _ => n - (intOf J).toNat)
    case atStart => exact ⟨rfl, 0, Nat.zero_le _, rfl, fun k hk => absurd hk (Nat.not_lt_zero k)⟩
    case round =>
      obtain ⟨hwr, j, hj, rfl, HJ⟩ := hrel
      subst hwr
      by_cases hlt : j < n
      · have e1 : (j : Int) < (n : Int) := by omega
        obtain rfl : aa = some ⟨ab, ao, none⟩ := (HL.out wr HU5.out).ad (by omega)
        have kc := (HL.out wr HU5.out).cell j hlt
        obtain ⟨x, hx, x0, x8⟩ : ∃ x, f j = x ∧ 0 ≤ x ∧ x ≤ 255 := ⟨_, rfl, ((HL.out wr HU5.out).u8 j).1, ((HL.out wr HU5.out).u8 j).2⟩
        have HX : Hid (f j = x) := hx
        rw [hx] at kc
        clear hx
        have hz : (bits .andNot .u8 x 255 != 0) = decide (255 < x) := anK (kp := 255) (by decide) x0 x8
        by_cases hb : x ≤ 255
        · rw [decide_eq_false (by omega)] at hz
          have HJ1 : Hid (∀ k, k < j + 1 → f k ≤ 255) := fun k hk => by
            by_cases hkj : k = j
            · rw [hkj, HX.out]; exact hb
            · exact HJ.out k (by omega)
          clear HJ HX hb
          go_wp2_with fail
          go_round
          case rel => exact ⟨by trivial, j + 1, by omega, by go_num, HJ1⟩
          case measure => simp [intOf]; omega
        · rw [decide_eq_true (by omega)] at hz
          have hf : t = false := by
            cases htt : t with
            | false => rfl
            | true =>
              have := HT.out.1 htt j hlt
              rw [HX.out] at this
              exact absurd this hb
          subst hf
          clear HJ HX hb HT
          go_wp2_with fail
          go_ret
          exact ⟨by first | rfl | (simp; done), HU5.out⟩
      · have e1 : ¬ (j : Int) < (n : Int) := by omega
        obtain rfl : j = n := by omega
        have hf : t = true := HT.out.2 HJ.out
        subst hf
        clear HJ HT
        go_wp2_with fail
        go_ret
        exact ⟨by first | rfl | (simp; done), HU5.out⟩
  · have hf : t = false := by
      cases htt : t with
      | false => rfl
      | true => exact absurd (ht.1 htt).1 hn
    subst hf
    have e1 : ((n : Int) != (rm : Int)) = true := by rw [bne_iff_ne]; omega
    clear hL ht hn
    go_enter Tryd.func42, Tryd.ntmps42
    go_wp2_with fail
    go_ret
    exact ⟨by first | rfl | (simp; done), Up.refl _⟩
/-- may these bytes be the RAM's? -/
def Ct.Fit (C : Ct) (n : Nat) (f : Nat → Int) : Prop := n = C.rm ∧ ∀ k, k < n → f k ≤ (C.m.kp : Int)
theorem CtAt.fits {n c ab ao : Nat} {aa : Option Addr} {f : Nat → Int} {t : Bool} (h : CtAt W A C) (hL : Byts W aa ab ao n c f) (ht : t = true ↔ C.Fit n f) : Calls Tryd.prog 42 #[.pointer (some ⟨A.cb, 0, none⟩), .slice aa n c] W fun e w' => e = .returned (.bool t) ∧ Up W w' := by
  have k7 : W.cell? ⟨A.cb, 7, none⟩ = some (.slice (some ⟨A.rb, 0, none⟩) C.rm A.rc) := heap_cell h.blk rfl
  have k8 : W.cell? ⟨A.cb, 8, none⟩ = some A.v := heap_cell h.blk rfl
  unfold Ct.Fit at ht
  rcases h.mp with ⟨hk, hv⟩ | ⟨hk, hv, hb⟩
  · rw [hv] at k8
    have e9 : C.m.kp = 255 := by unfold Mp.kp; rw [hk]; rfl
    rw [e9] at ht
    exact fits_0 k7 k8 hL ht h.rm
  · rcases hk with hk | hk | hk | hk
    · have e9 : C.m.kp = 255 := by unfold Mp.kp; rw [hk]; rfl
      rw [hv, hk] at k8
      rw [e9] at ht
      exact fits_1 k7 k8 hL ht h.rm
    · have e9 : C.m.kp = 15 := by unfold Mp.kp; rw [hk]; rfl
      rw [hv, hk] at k8
      rw [e9] at ht
      exact fits_2 k7 k8 hL ht h.rm
    · have e9 : C.m.kp = 255 := by unfold Mp.kp; rw [hk]; rfl
      rw [hv, hk] at k8
      rw [e9] at ht
      exact fits_3 k7 k8 hL ht h.rm
    · have e9 : C.m.kp = 255 := by unfold Mp.kp; rw [hk]; rfl
      rw [hv, hk] at k8
      rw [e9] at ht
      exact fits_5 k7 k8 hL ht h.rm
end Go.Proofs.YtojlappgmckokaaDoor
