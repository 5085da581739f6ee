/- PortsSets: the walk. -/
import Derived.Test.YteomldlmdpphaaaDoorPpR
namespace Go.Proofs.YteomldlmdpphaaaDoor
open Go.RowKit
set_option linter.unusedVariables false
variable {b : Nat} {p : Po}
theorem setsF : ∀ x : Int, 0 ≤ x → x ≤ 255 → x ≤ 31 → (bits .or .i64 x 1 = bits .or .u8 x 1 ∧ bits .or .i64 x 2 = bits .or .u8 x 2 ∧ bits .or .i64 x 4 = bits .or .u8 x 4 ∧ bits .or .i64 x 8 = bits .or .u8 x 8 ∧ bits .or .i64 x 16 = bits .or .u8 x 16)
    ∧ (bits .andNot .i64 x 1 = bits .andNot .u8 x 1 ∧ bits .andNot .i64 x 2 = bits .andNot .u8 x 2 ∧ bits .andNot .i64 x 4 = bits .andNot .u8 x 4 ∧ bits .andNot .i64 x 8 = bits .andNot .u8 x 8 ∧ bits .andNot .i64 x 16 = bits .andNot .u8 x 16) := byteAll (by decide +kernel)
theorem rd7 : ∀ x : Int, 0 ≤ x → x ≤ 255 → x ≤ 31 → bits .or .u8 x 224 = 224 + x := byteAll (by decide +kernel)
theorem Po.rd7 (o : p.Ok) : p.rd 7 = 224 + p.rq := Go.Proofs.YteomldlmdpphaaaDoor.rd7 p.rq o.rq.1 (by have := o.rq.2; omega) o.rq.2
set_option maxRecDepth 100000 in
set_option maxHeartbeats 4000000 in
theorem sets_walk {W : World} (hL : LaidP W) {aa : Option Addr} {ab ao len cap : Nat} {f : Nat → Nat → Int} (hA : Acts W aa ab ao len cap f) {sa : Option Addr} {sb so slen scap : Nat} {g : Nat → Nat → Int} (hS : Acts W sa sb so slen scap g) :
    Calls Tryd.prog 7 #[.slice aa len cap, .slice sa slen scap] W fun e w' => e = .returned (.bool true) ∧ Up W w' := by
  have HM : Hid _ := made_any hL hA
  have HS : Hid _ := hS
  have m1 := hS.lc
  have m2 : scap ≤ 9223372036854775807 := by have := hS.cm; unfold maxLen at this; omega
  generalize madeP len f = S at *
  obtain ⟨q, us⟩ := S
  dsimp only at *
  clear hL hA hS
  generalize hN : W.heap.size = N at *
  go_enter Tryd.func7, Tryd.ntmps7
  go_wp2_with fail
  refine Calls.mono HM.out ?_
  rintro e w1 ⟨rfl, h1⟩
  have P1 : Hid _ := h1
  clear h1 HM
  go_wp2_with fail
  refine (P1.out.reqs).mono ?_
  rintro e w' ⟨rfl, hw'⟩
  obtain rfl := hw'.symm
  go_wp2_with fail
  go_loopw [6, 7] (fun T I wr => ∃ (n : Nat) (q : Po), n ≤ slen ∧ n ≤ 100 ∧ I = .int .i64 n ∧ T = .int .i64 q.rq ∧ Hid (Pb W [] N q us wr)) (fun _ I _ => 100 - (intOf I).toNat)
  case atStart => exact ⟨0, q, by omega, by omega, rfl, rfl, P1⟩
  case round =>
    clear P1
    obtain ⟨n, q, hn, hn2, rfl, rfl, HP⟩ := hrel
    have o := HP.out.ok
    by_cases hl : n < slen
    · by_cases h2 : n < 100
      · have d1 : decide ((n : Int) < (slen : Int)) = true := decide_eq_true (by omega)
        have d2 : decide ((n : Int) < 100) = true := decide_eq_true (by omega)
        have hA := HS.out.up HP.out.up
        obtain rfl := hA.ad (by omega)
        have k0 : wr.cell? ⟨sb, so + n * 3, none⟩ = some (.int .i64 (g n 0)) := hA.cell n hl 0 (by decide)
        have k1 : wr.cell? ⟨sb, so + n * 3 + 1, none⟩ = some (.int .i64 (g n 1)) := hA.cell n hl 1 (by decide)
        have k2 : wr.cell? ⟨sb, so + n * 3 + 2, none⟩ = some (.int .i64 (g n 2)) := hA.cell n hl 2 (by decide)
        have HL : Hid (∀ W', Up W W' → W'.cell? ⟨sb, so + n * 3 + 2, none⟩ = some (.int .i64 (g n 2))) := fun W' u => (HS.out.up u).cell n hl 2 (by decide)
        have i0 := hA.i64 n 0
        have i1 := hA.i64 n 1
        have i2 := hA.i64 n 2
        have e1 : (n : Int) < (slen : Int) := by omega
        clear hA
        have HPk : Hid (∀ x m W, I64 x → 0 < m → m ≤ 65536 → Calls Tryd.prog 14 #[.int .i64 x, .int .i64 m] W fun e w' => e = .returned (.int .i64 (pickI x m)) ∧ w' = W) := fun x m W hx h0 h1 => pick_any x m W hx h0 (by omega)
        generalize g n 0 = X at *
        generalize g n 1 = Y at *
        generalize g n 2 = Z at *
        have y0 := pickI_lo Y 5 (by decide)
        have y1 := pickI_hi Y 5 (by decide)
        have x0 := pickI_lo X 3 (by decide)
        have x1 := pickI_hi X 3 (by decide)
        have hk : pickI Y 5 = 0 ∨ pickI Y 5 = 1 ∨ pickI Y 5 = 2 ∨ pickI Y 5 = 3 ∨ pickI Y 5 = 4 := by omega
        have hx : pickI X 3 = 0 ∨ pickI X 3 = 1 ∨ pickI X 3 = 2 := by omega
        clear x0 x1
        rcases hx with hx | hx | hx
        · have HX : Hid (∀ W, Calls Tryd.prog 14 #[.int .i64 X, .int .i64 3] W fun e w' => e = .returned (.int .i64 0) ∧ w' = W) := fun W => by have := HPk.out X 3 W i0 (by decide) (by decide); rw [hx] at this; exact this
          clear hx y0 y1
          rcases hk with hk | hk | hk | hk | hk
          · have HK : Hid (∀ W, Calls Tryd.prog 14 #[.int .i64 Y, .int .i64 5] W fun e w' => e = .returned (.int .i64 0) ∧ w' = W) := fun W => by have := HPk.out Y 5 W i1 (by decide) (by decide); rw [hk] at this; exact this
            have HC : Hid _ := HP.out.raise 0 (by decide) (by decide)
            have hs : bits .or .i64 q.rq 1 = (q.raise 0).rq := (setsF q.rq o.rq.1 (by have := o.rq.2; omega) o.rq.2).1.1
            clear hk HPk HP
            go_wp2_with fail
            refine (HK.out _).mono ?_
            rintro e w' ⟨rfl, hw'⟩
            obtain rfl := hw'.symm
            go_wp2_with fail
            refine (HX.out _).mono ?_
            rintro e w' ⟨rfl, hw'⟩
            obtain rfl := hw'.symm
            go_wp2_with fail
            refine Calls.mono HC.out ?_
            rintro e w2 ⟨rfl, h2⟩
            have P2 : Hid _ := h2
            have o2 := h2.ok
            clear h2 HC
            generalize (q.raise 0) = q2 at *
            go_wp2_with fail
            refine (P2.out.read 7 (by decide) (by decide)).mono ?_
            rintro e w3 ⟨rfl, h3⟩
            rw [Po.rd7 o2]
            have b0 := o2.rq.1
            have b1 := o2.rq.2
            have P3 : Hid _ := h3
            clear h3 P2 o2
            go_wp2_with fail
            refine (P3.out.reqs).mono ?_
            rintro e w' ⟨rfl, hw'⟩
            obtain rfl := hw'.symm
            go_wp2_with fail
            go_roundw
            case rel => exact ⟨n + 1, q2, by omega, by omega, rfl, rfl, P3⟩
            case measure => simp [intOf]; omega
          · have HK : Hid (∀ W, Calls Tryd.prog 14 #[.int .i64 Y, .int .i64 5] W fun e w' => e = .returned (.int .i64 1) ∧ w' = W) := fun W => by have := HPk.out Y 5 W i1 (by decide) (by decide); rw [hk] at this; exact this
            have HC : Hid _ := HP.out.raise 1 (by decide) (by decide)
            have hs : bits .or .i64 q.rq 2 = (q.raise 1).rq := (setsF q.rq o.rq.1 (by have := o.rq.2; omega) o.rq.2).1.2.1
            clear hk HPk HP
            go_wp2_with fail
            refine (HK.out _).mono ?_
            rintro e w' ⟨rfl, hw'⟩
            obtain rfl := hw'.symm
            go_wp2_with fail
            refine (HX.out _).mono ?_
            rintro e w' ⟨rfl, hw'⟩
            obtain rfl := hw'.symm
            go_wp2_with fail
            refine Calls.mono HC.out ?_
            rintro e w2 ⟨rfl, h2⟩
            have P2 : Hid _ := h2
            have o2 := h2.ok
            clear h2 HC
            generalize (q.raise 1) = q2 at *
            go_wp2_with fail
            refine (P2.out.read 7 (by decide) (by decide)).mono ?_
            rintro e w3 ⟨rfl, h3⟩
            rw [Po.rd7 o2]
            have b0 := o2.rq.1
            have b1 := o2.rq.2
            have P3 : Hid _ := h3
            clear h3 P2 o2
            go_wp2_with fail
            refine (P3.out.reqs).mono ?_
            rintro e w' ⟨rfl, hw'⟩
            obtain rfl := hw'.symm
            go_wp2_with fail
            go_roundw
            case rel => exact ⟨n + 1, q2, by omega, by omega, rfl, rfl, P3⟩
            case measure => simp [intOf]; omega
          · have HK : Hid (∀ W, Calls Tryd.prog 14 #[.int .i64 Y, .int .i64 5] W fun e w' => e = .returned (.int .i64 2) ∧ w' = W) := fun W => by have := HPk.out Y 5 W i1 (by decide) (by decide); rw [hk] at this; exact this
            have HC : Hid _ := HP.out.raise 2 (by decide) (by decide)
            have hs : bits .or .i64 q.rq 4 = (q.raise 2).rq := (setsF q.rq o.rq.1 (by have := o.rq.2; omega) o.rq.2).1.2.2.1
            clear hk HPk HP
            go_wp2_with fail
            refine (HK.out _).mono ?_
            rintro e w' ⟨rfl, hw'⟩
            obtain rfl := hw'.symm
            go_wp2_with fail
            refine (HX.out _).mono ?_
            rintro e w' ⟨rfl, hw'⟩
            obtain rfl := hw'.symm
            go_wp2_with fail
            refine Calls.mono HC.out ?_
            rintro e w2 ⟨rfl, h2⟩
            have P2 : Hid _ := h2
            have o2 := h2.ok
            clear h2 HC
            generalize (q.raise 2) = q2 at *
            go_wp2_with fail
            refine (P2.out.read 7 (by decide) (by decide)).mono ?_
            rintro e w3 ⟨rfl, h3⟩
            rw [Po.rd7 o2]
            have b0 := o2.rq.1
            have b1 := o2.rq.2
            have P3 : Hid _ := h3
            clear h3 P2 o2
            go_wp2_with fail
            refine (P3.out.reqs).mono ?_
            rintro e w' ⟨rfl, hw'⟩
            obtain rfl := hw'.symm
            go_wp2_with fail
            go_roundw
            case rel => exact ⟨n + 1, q2, by omega, by omega, rfl, rfl, P3⟩
            case measure => simp [intOf]; omega
          · have HK : Hid (∀ W, Calls Tryd.prog 14 #[.int .i64 Y, .int .i64 5] W fun e w' => e = .returned (.int .i64 3) ∧ w' = W) := fun W => by have := HPk.out Y 5 W i1 (by decide) (by decide); rw [hk] at this; exact this
            have HC : Hid _ := HP.out.raise 3 (by decide) (by decide)
            have hs : bits .or .i64 q.rq 8 = (q.raise 3).rq := (setsF q.rq o.rq.1 (by have := o.rq.2; omega) o.rq.2).1.2.2.2.1
            clear hk HPk HP
            go_wp2_with fail
            refine (HK.out _).mono ?_
            rintro e w' ⟨rfl, hw'⟩
            obtain rfl := hw'.symm
            go_wp2_with fail
            refine (HX.out _).mono ?_
            rintro e w' ⟨rfl, hw'⟩
            obtain rfl := hw'.symm
            go_wp2_with fail
            refine Calls.mono HC.out ?_
            rintro e w2 ⟨rfl, h2⟩
            have P2 : Hid _ := h2
            have o2 := h2.ok
            clear h2 HC
            generalize (q.raise 3) = q2 at *
            go_wp2_with fail
            refine (P2.out.read 7 (by decide) (by decide)).mono ?_
            rintro e w3 ⟨rfl, h3⟩
            rw [Po.rd7 o2]
            have b0 := o2.rq.1
            have b1 := o2.rq.2
            have P3 : Hid _ := h3
            clear h3 P2 o2
            go_wp2_with fail
            refine (P3.out.reqs).mono ?_
            rintro e w' ⟨rfl, hw'⟩
            obtain rfl := hw'.symm
            go_wp2_with fail
            go_roundw
            case rel => exact ⟨n + 1, q2, by omega, by omega, rfl, rfl, P3⟩
            case measure => simp [intOf]; omega
          · have HK : Hid (∀ W, Calls Tryd.prog 14 #[.int .i64 Y, .int .i64 5] W fun e w' => e = .returned (.int .i64 4) ∧ w' = W) := fun W => by have := HPk.out Y 5 W i1 (by decide) (by decide); rw [hk] at this; exact this
            have HC : Hid _ := HP.out.raise 4 (by decide) (by decide)
            have hs : bits .or .i64 q.rq 16 = (q.raise 4).rq := (setsF q.rq o.rq.1 (by have := o.rq.2; omega) o.rq.2).1.2.2.2.2
            clear hk HPk HP
            go_wp2_with fail
            refine (HK.out _).mono ?_
            rintro e w' ⟨rfl, hw'⟩
            obtain rfl := hw'.symm
            go_wp2_with fail
            refine (HX.out _).mono ?_
            rintro e w' ⟨rfl, hw'⟩
            obtain rfl := hw'.symm
            go_wp2_with fail
            refine Calls.mono HC.out ?_
            rintro e w2 ⟨rfl, h2⟩
            have P2 : Hid _ := h2
            have o2 := h2.ok
            clear h2 HC
            generalize (q.raise 4) = q2 at *
            go_wp2_with fail
            refine (P2.out.read 7 (by decide) (by decide)).mono ?_
            rintro e w3 ⟨rfl, h3⟩
            rw [Po.rd7 o2]
            have b0 := o2.rq.1
            have b1 := o2.rq.2
            have P3 : Hid _ := h3
            clear h3 P2 o2
            go_wp2_with fail
            refine (P3.out.reqs).mono ?_
            rintro e w' ⟨rfl, hw'⟩
            obtain rfl := hw'.symm
            go_wp2_with fail
            go_roundw
            case rel => exact ⟨n + 1, q2, by omega, by omega, rfl, rfl, P3⟩
            case measure => simp [intOf]; omega
        · have HX : Hid (∀ W, Calls Tryd.prog 14 #[.int .i64 X, .int .i64 3] W fun e w' => e = .returned (.int .i64 1) ∧ w' = W) := fun W => by have := HPk.out X 3 W i0 (by decide) (by decide); rw [hx] at this; exact this
          clear hx y0 y1
          rcases hk with hk | hk | hk | hk | hk
          · have HK : Hid (∀ W, Calls Tryd.prog 14 #[.int .i64 Y, .int .i64 5] W fun e w' => e = .returned (.int .i64 0) ∧ w' = W) := fun W => by have := HPk.out Y 5 W i1 (by decide) (by decide); rw [hk] at this; exact this
            have HC : Hid _ := HP.out.take 0 (by decide) (by decide)
            have hs : bits .andNot .i64 q.rq 1 = (q.take 0).rq := (setsF q.rq o.rq.1 (by have := o.rq.2; omega) o.rq.2).2.1
            clear hk HPk HP
            go_wp2_with fail
            refine (HK.out _).mono ?_
            rintro e w' ⟨rfl, hw'⟩
            obtain rfl := hw'.symm
            go_wp2_with fail
            refine (HX.out _).mono ?_
            rintro e w' ⟨rfl, hw'⟩
            obtain rfl := hw'.symm
            go_wp2_with fail
            refine Calls.mono HC.out ?_
            rintro e w2 ⟨rfl, h2⟩
            have P2 : Hid _ := h2
            have o2 := h2.ok
            clear h2 HC
            generalize (q.take 0) = q2 at *
            go_wp2_with fail
            refine (P2.out.read 7 (by decide) (by decide)).mono ?_
            rintro e w3 ⟨rfl, h3⟩
            rw [Po.rd7 o2]
            have b0 := o2.rq.1
            have b1 := o2.rq.2
            have P3 : Hid _ := h3
            clear h3 P2 o2
            go_wp2_with fail
            refine (P3.out.reqs).mono ?_
            rintro e w' ⟨rfl, hw'⟩
            obtain rfl := hw'.symm
            go_wp2_with fail
            go_roundw
            case rel => exact ⟨n + 1, q2, by omega, by omega, rfl, rfl, P3⟩
            case measure => simp [intOf]; omega
          · have HK : Hid (∀ W, Calls Tryd.prog 14 #[.int .i64 Y, .int .i64 5] W fun e w' => e = .returned (.int .i64 1) ∧ w' = W) := fun W => by have := HPk.out Y 5 W i1 (by decide) (by decide); rw [hk] at this; exact this
            have HC : Hid _ := HP.out.take 1 (by decide) (by decide)
            have hs : bits .andNot .i64 q.rq 2 = (q.take 1).rq := (setsF q.rq o.rq.1 (by have := o.rq.2; omega) o.rq.2).2.2.1
            clear hk HPk HP
            go_wp2_with fail
            refine (HK.out _).mono ?_
            rintro e w' ⟨rfl, hw'⟩
            obtain rfl := hw'.symm
            go_wp2_with fail
            refine (HX.out _).mono ?_
            rintro e w' ⟨rfl, hw'⟩
            obtain rfl := hw'.symm
            go_wp2_with fail
            refine Calls.mono HC.out ?_
            rintro e w2 ⟨rfl, h2⟩
            have P2 : Hid _ := h2
            have o2 := h2.ok
            clear h2 HC
            generalize (q.take 1) = q2 at *
            go_wp2_with fail
            refine (P2.out.read 7 (by decide) (by decide)).mono ?_
            rintro e w3 ⟨rfl, h3⟩
            rw [Po.rd7 o2]
            have b0 := o2.rq.1
            have b1 := o2.rq.2
            have P3 : Hid _ := h3
            clear h3 P2 o2
            go_wp2_with fail
            refine (P3.out.reqs).mono ?_
            rintro e w' ⟨rfl, hw'⟩
            obtain rfl := hw'.symm
            go_wp2_with fail
            go_roundw
            case rel => exact ⟨n + 1, q2, by omega, by omega, rfl, rfl, P3⟩
            case measure => simp [intOf]; omega
          · have HK : Hid (∀ W, Calls Tryd.prog 14 #[.int .i64 Y, .int .i64 5] W fun e w' => e = .returned (.int .i64 2) ∧ w' = W) := fun W => by have := HPk.out Y 5 W i1 (by decide) (by decide); rw [hk] at this; exact this
            have HC : Hid _ := HP.out.take 2 (by decide) (by decide)
            have hs : bits .andNot .i64 q.rq 4 = (q.take 2).rq := (setsF q.rq o.rq.1 (by have := o.rq.2; omega) o.rq.2).2.2.2.1
            clear hk HPk HP
            go_wp2_with fail
            refine (HK.out _).mono ?_
            rintro e w' ⟨rfl, hw'⟩
            obtain rfl := hw'.symm
            go_wp2_with fail
            refine (HX.out _).mono ?_
            rintro e w' ⟨rfl, hw'⟩
            obtain rfl := hw'.symm
            go_wp2_with fail
            refine Calls.mono HC.out ?_
            rintro e w2 ⟨rfl, h2⟩
            have P2 : Hid _ := h2
            have o2 := h2.ok
            clear h2 HC
            generalize (q.take 2) = q2 at *
            go_wp2_with fail
            refine (P2.out.read 7 (by decide) (by decide)).mono ?_
            rintro e w3 ⟨rfl, h3⟩
            rw [Po.rd7 o2]
            have b0 := o2.rq.1
            have b1 := o2.rq.2
            have P3 : Hid _ := h3
            clear h3 P2 o2
            go_wp2_with fail
            refine (P3.out.reqs).mono ?_
            rintro e w' ⟨rfl, hw'⟩
            obtain rfl := hw'.symm
            go_wp2_with fail
            go_roundw
            case rel => exact ⟨n + 1, q2, by omega, by omega, rfl, rfl, P3⟩
            case measure => simp [intOf]; omega
          · have HK : Hid (∀ W, Calls Tryd.prog 14 #[.int .i64 Y, .int .i64 5] W fun e w' => e = .returned (.int .i64 3) ∧ w' = W) := fun W => by have := HPk.out Y 5 W i1 (by decide) (by decide); rw [hk] at this; exact this
            have HC : Hid _ := HP.out.take 3 (by decide) (by decide)
            have hs : bits .andNot .i64 q.rq 8 = (q.take 3).rq := (setsF q.rq o.rq.1 (by have := o.rq.2; omega) o.rq.2).2.2.2.2.1
            clear hk HPk HP
            go_wp2_with fail
            refine (HK.out _).mono ?_
            rintro e w' ⟨rfl, hw'⟩
            obtain rfl := hw'.symm
            go_wp2_with fail
            refine (HX.out _).mono ?_
            rintro e w' ⟨rfl, hw'⟩
            obtain rfl := hw'.symm
            go_wp2_with fail
            refine Calls.mono HC.out ?_
            rintro e w2 ⟨rfl, h2⟩
            have P2 : Hid _ := h2
            have o2 := h2.ok
            clear h2 HC
            generalize (q.take 3) = q2 at *
            go_wp2_with fail
            refine (P2.out.read 7 (by decide) (by decide)).mono ?_
            rintro e w3 ⟨rfl, h3⟩
            rw [Po.rd7 o2]
            have b0 := o2.rq.1
            have b1 := o2.rq.2
            have P3 : Hid _ := h3
            clear h3 P2 o2
            go_wp2_with fail
            refine (P3.out.reqs).mono ?_
            rintro e w' ⟨rfl, hw'⟩
            obtain rfl := hw'.symm
            go_wp2_with fail
            go_roundw
            case rel => exact ⟨n + 1, q2, by omega, by omega, rfl, rfl, P3⟩
            case measure => simp [intOf]; omega
          · have HK : Hid (∀ W, Calls Tryd.prog 14 #[.int .i64 Y, .int .i64 5] W fun e w' => e = .returned (.int .i64 4) ∧ w' = W) := fun W => by have := HPk.out Y 5 W i1 (by decide) (by decide); rw [hk] at this; exact this
            have HC : Hid _ := HP.out.take 4 (by decide) (by decide)
            have hs : bits .andNot .i64 q.rq 16 = (q.take 4).rq := (setsF q.rq o.rq.1 (by have := o.rq.2; omega) o.rq.2).2.2.2.2.2
            clear hk HPk HP
            go_wp2_with fail
            refine (HK.out _).mono ?_
            rintro e w' ⟨rfl, hw'⟩
            obtain rfl := hw'.symm
            go_wp2_with fail
            refine (HX.out _).mono ?_
            rintro e w' ⟨rfl, hw'⟩
            obtain rfl := hw'.symm
            go_wp2_with fail
            refine Calls.mono HC.out ?_
            rintro e w2 ⟨rfl, h2⟩
            have P2 : Hid _ := h2
            have o2 := h2.ok
            clear h2 HC
            generalize (q.take 4) = q2 at *
            go_wp2_with fail
            refine (P2.out.read 7 (by decide) (by decide)).mono ?_
            rintro e w3 ⟨rfl, h3⟩
            rw [Po.rd7 o2]
            have b0 := o2.rq.1
            have b1 := o2.rq.2
            have P3 : Hid _ := h3
            clear h3 P2 o2
            go_wp2_with fail
            refine (P3.out.reqs).mono ?_
            rintro e w' ⟨rfl, hw'⟩
            obtain rfl := hw'.symm
            go_wp2_with fail
            go_roundw
            case rel => exact ⟨n + 1, q2, by omega, by omega, rfl, rfl, P3⟩
            case measure => simp [intOf]; omega
        · have HX : Hid (∀ W, Calls Tryd.prog 14 #[.int .i64 X, .int .i64 3] W fun e w' => e = .returned (.int .i64 2) ∧ w' = W) := fun W => by have := HPk.out X 3 W i0 (by decide) (by decide); rw [hx] at this; exact this
          have HK : Hid (∀ W, Calls Tryd.prog 14 #[.int .i64 Y, .int .i64 5] W fun e w' => e = .returned (.int .i64 (pickI Y 5)) ∧ w' = W) := fun W => HPk.out Y 5 W i1 (by decide) (by decide)
          have HZ : Hid (∀ W, Calls Tryd.prog 14 #[.int .i64 Z, .int .i64 256] W fun e w' => e = .returned (.int .i64 (pickI Z 256)) ∧ w' = W) := fun W => HPk.out Z 256 W i2 (by decide) (by decide)
          have z0 := pickI_lo Z 256 (by decide)
          have z1 := pickI_hi Z 256 (by decide)
          have HC : Hid _ := HP.out.write 7 (pickI Z 256) (by decide) (by decide) z0 (by omega)
          have hs : Hid ((q.wr 7 (pickI Z 256)).rq = pickI Z 256 % 32) := rfl
          clear hk HPk HP hx
          generalize pickI Y 5 = yy at *
          generalize pickI Z 256 = zz at *
          go_wp2_with fail
          refine (HK.out _).mono ?_
          rintro e w' ⟨rfl, hw'⟩
          obtain rfl := hw'.symm
          go_wp2_with fail
          refine (HX.out _).mono ?_
          rintro e w' ⟨rfl, hw'⟩
          obtain rfl := hw'.symm
          go_wp2_with fail
          refine (HZ.out _).mono ?_
          rintro e w' ⟨rfl, hw'⟩
          obtain rfl := hw'.symm
          go_wp2_with fail
          refine Calls.mono HC.out ?_
          rintro e w2 ⟨rfl, h2⟩
          have P2 : Hid _ := h2
          have o2 := h2.ok
          have k3 := HL.out _ h2.up
          clear h2 HC
          generalize (q.wr 7 zz) = q2 at *
          go_wp2_with fail
          refine (HZ.out _).mono ?_
          rintro e w' ⟨rfl, hw'⟩
          obtain rfl := hw'.symm
          go_wp2_with fail
          rw [← hs.out]
          refine (P2.out.read 7 (by decide) (by decide)).mono ?_
          rintro e w3 ⟨rfl, h3⟩
          rw [Po.rd7 o2]
          have b0 := o2.rq.1
          have b1 := o2.rq.2
          have P3 : Hid _ := h3
          clear h3 P2 o2
          go_wp2_with fail
          refine (P3.out.reqs).mono ?_
          rintro e w' ⟨rfl, hw'⟩
          obtain rfl := hw'.symm
          go_wp2_with fail
          go_roundw
          case rel => exact ⟨n + 1, q2, by omega, by omega, rfl, rfl, P3⟩
          case measure => simp [intOf]; omega
      · have d1 : decide ((n : Int) < (slen : Int)) = true := decide_eq_true (by omega)
        have d2 : decide ((n : Int) < 100) = false := decide_eq_false (by omega)
        go_wp2_with fail
        go_ret
        exact ⟨rfl, HP.out.up⟩
    · have d1 : decide ((n : Int) < (slen : Int)) = false := decide_eq_false (by omega)
      go_wp2_with fail
      go_ret
      exact ⟨rfl, HP.out.up⟩
end Go.Proofs.YteomldlmdpphaaaDoor
