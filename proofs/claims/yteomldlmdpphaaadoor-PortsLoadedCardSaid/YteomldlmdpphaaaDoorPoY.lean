/- How many clocks go by until something comes. -/
import Derived.Test.YteomldlmdpphaaaDoorPoW
namespace Go.Proofs.YteomldlmdpphaaaDoor
open Go.RowKit
set_option linter.unusedVariables false
variable {b : Nat} {p : Po}
def m1 (c l : Int) : Int := if 0 < l then min c l else c
def Po.soon (p : Po) (c : Int) : Nat → Int
  | 0 => c
  | 1 => m1 c p.al
  | 2 => m1 (m1 c p.al) p.until
  | _ => m1 (m1 (m1 c p.al) p.until) p.tr
def Po.lefts (p : Po) : Nat → Int
  | 0 => p.al
  | 1 => p.until
  | _ => p.tr
/-- the closures as they lie: what the calls of a Step share -/
structure Dues (b cp s1 s2 : Nat) (W : World) : Prop where
  c : W.cell? ⟨cp, 0, none⟩ = some (.pointer (some ⟨b, 0, none⟩))
  a : W.cell? ⟨s1, 0, none⟩ = some (.pointer (some ⟨b, 9, none⟩))
  a1 : W.cell? ⟨s1 + 1, 0, none⟩ = some (.func (.func 32) #[] #[.pointer (some ⟨cp, 0, none⟩)])
  t : W.cell? ⟨s2, 0, none⟩ = some (.pointer (some ⟨b, 10, none⟩))
  t1 : W.cell? ⟨s2 + 1, 0, none⟩ = some (.func (.func 38) #[] #[.pointer (some ⟨cp, 0, none⟩)])
theorem Dues.up {b cp s1 s2 : Nat} {W W' : World} (h : Dues b cp s1 s2 W) (u : Up W W') : Dues b cp s1 s2 W' :=
  ⟨(u.cell (World.block_lt_of_cell? _ _ h.c)).trans h.c, (u.cell (World.block_lt_of_cell? _ _ h.a)).trans h.a, (u.cell (World.block_lt_of_cell? _ _ h.a1)).trans h.a1, (u.cell (World.block_lt_of_cell? _ _ h.t)).trans h.t, (u.cell (World.block_lt_of_cell? _ _ h.t1)).trans h.t1⟩
def duL (cp s1 s2 : Nat) : Nat → Value
  | 0 => .func (.func 67) #[] #[.pointer (some ⟨s1, 0, none⟩)]
  | 1 => .func (.func 34) #[] #[.pointer (some ⟨cp, 0, none⟩)]
  | _ => .func (.func 67) #[] #[.pointer (some ⟨s2, 0, none⟩)]
def duP (cp s1 s2 : Nat) : Nat → Value
  | 0 => .func (.func 68) #[] #[.pointer (some ⟨s1, 0, none⟩), .pointer (some ⟨s1 + 1, 0, none⟩)]
  | 1 => .func (.func 36) #[] #[.pointer (some ⟨cp, 0, none⟩)]
  | _ => .func (.func 68) #[] #[.pointer (some ⟨s2, 0, none⟩), .pointer (some ⟨s2 + 1, 0, none⟩)]
set_option maxRecDepth 100000 in
set_option maxHeartbeats 1000000 in
theorem soonest_any (o : p.Ok) (D cp s1 s2 : Nat) (c : Int) (c0 : 0 ≤ c) (c1 : c ≤ 1000000) (v : Value) (W : World) (h : PoAt W b p v) (hL : LaidP W) (hD : Dues b cp s1 s2 W)
    (hd : ∀ j, j < 3 → W.cell? ⟨D, 2 * j, none⟩ = some (duL cp s1 s2 j) ∧ W.cell? ⟨D, 2 * j + 1, none⟩ = some (duP cp s1 s2 j)) :
    Calls Tryd.prog 40 #[.slice (some ⟨D, 0, none⟩) 3 3, .int .i64 c] W fun e w' => e = .returned (.int .i64 (p.soon c 3)) ∧ Up W w' := by
  have H : Hid (PoAt W b p v ∧ LaidP W ∧ Dues b cp s1 s2 W) := ⟨h, hL, hD⟩
  have HD : Hid _ := hd
  have lD : D < W.heap.size := World.block_lt_of_cell? _ _ (hd 0 (by decide)).1
  have HO : Hid _ := o
  clear h hL hD hd
  go_enter Tryd.func40, Tryd.ntmps40
  go_wp2_with fail
  go_loopw [1, 10] (fun C I wr => ∃ j : Nat, j ≤ 3 ∧ I = .int .i64 j ∧ C = .int .i64 (p.soon c j) ∧ Hid (Up W wr)) (fun _ I _ => 3 - (intOf I).toNat)
  case atStart => exact ⟨0, by omega, rfl, rfl, Up.refl W⟩
  case round =>
    obtain ⟨j, hj, rfl, rfl, hS⟩ := hrel
    by_cases hlt : j < 3
    · have d1 : decide ((j : Int) < 3) = true := decide_eq_true (by omega)
      have hji : (j : Int) < 3 := by omega
      have k0 : wr.cell? ⟨D, 2 * j, none⟩ = some (duL cp s1 s2 j) := (hS.out.cell lD).trans (HD.out j hlt).1
      have k1 : wr.cell? ⟨D, 2 * j + 1, none⟩ = some (duP cp s1 s2 j) := (hS.out.cell lD).trans (HD.out j hlt).2
      have hn : p.soon c (j + 1) = m1 (p.soon c j) (p.lefts j) := by
        have : j = 0 ∨ j = 1 ∨ j = 2 := by omega
        rcases this with rfl | rfl | rfl <;> rfl
      have HNx : Hid _ := hn
      clear hn
      have hj3 : j = 0 ∨ j = 1 ∨ j = 2 := by omega
      generalize p.soon c j = C at HNx ⊢
      rcases hj3 with rfl | rfl | rfl
      · have HC : Hid (∀ W', Up W W' → Calls Tryd.prog 67 #[.pointer (some ⟨s1, 0, none⟩)] W' fun e w' => e = .returned (.int .i64 p.al) ∧ w' = W') := fun W' u => left_any s1 0 9 p.al W' (H.out.2.2.up u).a ((H.out.1.up u).all.2.2.2.2.2.2.2.2.2.1)
        change wr.cell? ⟨D, 0, none⟩ = some (.func (.func 67) #[] #[.pointer (some ⟨s1, 0, none⟩)]) at k0
        change wr.cell? ⟨D, 1, none⟩ = some (.func (.func 68) #[] #[.pointer (some ⟨s1, 0, none⟩), .pointer (some ⟨s1 + 1, 0, none⟩)]) at k1
        go_wp2_with fail
        generalize hwa : World.alloc wr _ = wa
        have ua : Up W wa := by rw [← hwa]; exact hS.out.alloc _
        refine (HC.out wa ua).mono ?_
        rintro e w' ⟨rfl, hw'⟩
        obtain rfl := hw'.symm
        have HU : Hid (Up W wa) := ua
        have HN2 : Hid (p.soon c 1 = m1 C p.al) := HNx.out
        clear ua hwa k0 k1 HC HNx
        generalize p.al = X at HN2 ⊢
        by_cases hx : 0 < X
        · have dx : decide (0 < X) = true := decide_eq_true hx
          have HN3 : Hid (p.soon c 1 = min C X) := by show _ = _; rw [HN2.out]; unfold m1; rw [if_pos hx]
          clear HN2
          go_wp2_with fail
          go_roundw
          case rel => exact ⟨1, by omega, rfl, by rw [HN3.out], HU⟩
          case measure => simp [intOf]
        · have dx : decide (0 < X) = false := decide_eq_false hx
          have HN3 : Hid (p.soon c 1 = C) := by show _ = _; rw [HN2.out]; unfold m1; rw [if_neg hx]
          clear HN2
          go_wp2_with fail
          go_roundw
          case rel => exact ⟨1, by omega, rfl, by rw [HN3.out], HU⟩
          case measure => simp [intOf]
      · have HC : Hid (∀ W', Up W W' → Calls Tryd.prog 34 #[.pointer (some ⟨cp, 0, none⟩)] W' fun e w' => e = .returned (.int .i64 p.until) ∧ w' = W') := fun W' u => step2_any HO.out cp v W' (H.out.1.up u) (H.out.2.1.up u) (H.out.2.2.up u).c
        change wr.cell? ⟨D, 2, none⟩ = some (.func (.func 34) #[] #[.pointer (some ⟨cp, 0, none⟩)]) at k0
        change wr.cell? ⟨D, 3, none⟩ = some (.func (.func 36) #[] #[.pointer (some ⟨cp, 0, none⟩)]) at k1
        go_wp2_with fail
        generalize hwa : World.alloc wr _ = wa
        have ua : Up W wa := by rw [← hwa]; exact hS.out.alloc _
        refine (HC.out wa ua).mono ?_
        rintro e w' ⟨rfl, hw'⟩
        obtain rfl := hw'.symm
        have HU : Hid (Up W wa) := ua
        have HN2 : Hid (p.soon c 2 = m1 C p.until) := HNx.out
        clear ua hwa k0 k1 HC HNx
        generalize p.until = X at HN2 ⊢
        by_cases hx : 0 < X
        · have dx : decide (0 < X) = true := decide_eq_true hx
          have HN3 : Hid (p.soon c 2 = min C X) := by show _ = _; rw [HN2.out]; unfold m1; rw [if_pos hx]
          clear HN2
          go_wp2_with fail
          go_roundw
          case rel => exact ⟨2, by omega, rfl, by rw [HN3.out], HU⟩
          case measure => simp [intOf]
        · have dx : decide (0 < X) = false := decide_eq_false hx
          have HN3 : Hid (p.soon c 2 = C) := by show _ = _; rw [HN2.out]; unfold m1; rw [if_neg hx]
          clear HN2
          go_wp2_with fail
          go_roundw
          case rel => exact ⟨2, by omega, rfl, by rw [HN3.out], HU⟩
          case measure => simp [intOf]
      · have HC : Hid (∀ W', Up W W' → Calls Tryd.prog 67 #[.pointer (some ⟨s2, 0, none⟩)] W' fun e w' => e = .returned (.int .i64 p.tr) ∧ w' = W') := fun W' u => left_any s2 0 10 p.tr W' (H.out.2.2.up u).t ((H.out.1.up u).all.2.2.2.2.2.2.2.2.2.2.1)
        change wr.cell? ⟨D, 4, none⟩ = some (.func (.func 67) #[] #[.pointer (some ⟨s2, 0, none⟩)]) at k0
        change wr.cell? ⟨D, 5, none⟩ = some (.func (.func 68) #[] #[.pointer (some ⟨s2, 0, none⟩), .pointer (some ⟨s2 + 1, 0, none⟩)]) at k1
        go_wp2_with fail
        generalize hwa : World.alloc wr _ = wa
        have ua : Up W wa := by rw [← hwa]; exact hS.out.alloc _
        refine (HC.out wa ua).mono ?_
        rintro e w' ⟨rfl, hw'⟩
        obtain rfl := hw'.symm
        have HU : Hid (Up W wa) := ua
        have HN2 : Hid (p.soon c 3 = m1 C p.tr) := HNx.out
        clear ua hwa k0 k1 HC HNx
        generalize p.tr = X at HN2 ⊢
        by_cases hx : 0 < X
        · have dx : decide (0 < X) = true := decide_eq_true hx
          have HN3 : Hid (p.soon c 3 = min C X) := by show _ = _; rw [HN2.out]; unfold m1; rw [if_pos hx]
          clear HN2
          go_wp2_with fail
          go_roundw
          case rel => exact ⟨3, by omega, rfl, by rw [HN3.out], HU⟩
          case measure => simp [intOf]
        · have dx : decide (0 < X) = false := decide_eq_false hx
          have HN3 : Hid (p.soon c 3 = C) := by show _ = _; rw [HN2.out]; unfold m1; rw [if_neg hx]
          clear HN2
          go_wp2_with fail
          go_roundw
          case rel => exact ⟨3, by omega, rfl, by rw [HN3.out], HU⟩
          case measure => simp [intOf]
    · have hje : j = 3 := by omega
      subst hje
      go_wp2_with fail
      go_ret
      exact ⟨rfl, hS.out⟩
end Go.Proofs.YteomldlmdpphaaaDoor
