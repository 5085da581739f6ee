/- Acts on ports. -/
import Derived.Test.YteomldlmdpphaaaDoorPoZ
namespace Go.Proofs.YteomldlmdpphaaaDoor
open Go.RowKit
set_option linter.unusedVariables false
variable {b : Nat} {p : Po}
def I64 (x : Int) : Prop := -9223372036854775808 ≤ x ∧ x ≤ 9223372036854775807
theorem pick_any (c n : Int) (w : World) (hc : I64 c) (hn : 0 < n) (hn2 : n ≤ 1099511627776) :
    Calls Tryd.prog 14 #[.int .i64 c, .int .i64 n] w fun e w' => e = .returned (.int .i64 (pickI c n)) ∧ w' = w := by
  obtain ⟨hc1, hc2⟩ := hc
  by_cases h : c < 0
  · go_enter Tryd.func14, Tryd.ntmps14
    go_wp2
    go_ret
    exact ⟨ret1 (by unfold pickI; rw [if_pos h, ← Int.neg_tmod, Int.tmod_eq_emod_of_nonneg (by omega)]), rfl⟩
  · go_enter Tryd.func14, Tryd.ntmps14
    go_wp2
    go_ret
    exact ⟨ret1 (by unfold pickI; rw [if_neg (by omega)]), rfl⟩
/-- acts as they lie -/
structure Acts (W : World) (aa : Option Addr) (ab ao len cap : Nat) (f : Nat → Nat → Int) : Prop where
  lc : len ≤ cap
  cm : cap ≤ maxLen
  ad : 0 < len → aa = some ⟨ab, ao, none⟩
  i64 : ∀ k j, I64 (f k j)
  cell : ∀ k, k < len → ∀ j, j < 3 → W.cell? ⟨ab, ao + k * 3 + j, none⟩ = some (.int .i64 (f k j))
theorem Acts.up {W W' : World} {aa : Option Addr} {ab ao len cap : Nat} {f : Nat → Nat → Int} (h : Acts W aa ab ao len cap f) (u : Up W W') : Acts W' aa ab ao len cap f :=
  ⟨h.lc, h.cm, h.ad, h.i64, fun k hk j hj => (u.cell (World.block_lt_of_cell? _ _ (h.cell k hk j hj))).trans (h.cell k hk j hj)⟩
theorem lit8 (w wa : World) (T : Int) (h0 : 0 ≤ T) (h1 : T < 8) (h : (w.alloc (.cells #[.int .i64 65280, .int .i64 65281, .int .i64 65282, .int .i64 65284, .int .i64 65285, .int .i64 65286, .int .i64 65287, .int .i64 65295] 3)).drew = wa) : Up w wa ∧ wa.cell? ⟨w.heap.size, T.toNat, none⟩ = some (.int .i64 (adr T)) := by
  subst h
  refine ⟨((Up.refl w).alloc _).drew, ?_⟩
  show (w.alloc _).cell? _ = _
  rw [cell_of_row _ _ _ _ _ _ (heap_alloc_new w _)]
  have : T = 0 ∨ T = 1 ∨ T = 2 ∨ T = 3 ∨ T = 4 ∨ T = 5 ∨ T = 6 ∨ T = 7 := by omega
  rcases this with rfl | rfl | rfl | rfl | rfl | rfl | rfl | rfl <;> rfl
/-- one act -/
def actP (s : Po × List Int) (k a c : Int) : Po × List Int :=
  if pickI k 6 ≤ 1 then s.1.run s.2 (pickI a 5000) else if pickI k 6 ≤ 3 then (s.1.wr (pickI a 8) (pickI c 256), s.2) else if pickI k 6 = 4 then (s.1.keysThen { s.1 with bu := pickI a 256 }, s.2) else (s.1.take (pickI a 5), s.2)
def actsP (f : Nat → Nat → Int) (s : Po × List Int) : Nat → Po × List Int
  | 0 => s
  | n + 1 => actP (actsP f s n) (f n 0) (f n 1) (f n 2)
set_option maxRecDepth 100000 in
set_option maxHeartbeats 8000000 in
theorem Pb.acts {W0 W : World} {K : List (Nat × Obj)} {zs : List Int} (h : Pb W0 K b p zs W) {aa : Option Addr} {ab ao len cap : Nat} {f : Nat → Nat → Int} (hA : Acts W0 aa ab ao len cap f) :
    Calls Tryd.prog 26 #[.pointer (some ⟨b, 0, none⟩), .slice aa len cap] W fun e w' => e = .returned (.bool true) ∧ Pb W0 K b (actsP f (p, zs) (min len 200)).1 (actsP f (p, zs) (min len 200)).2 w' := by
  have H : Hid (Pb W0 K b p zs W) := h
  have HA : Hid (Acts W0 aa ab ao len cap f) := hA
  have m1 := hA.lc
  have m2 : cap ≤ 9223372036854775807 := by have := hA.cm; unfold maxLen at this; omega
  clear h hA
  go_enter Tryd.func26, Tryd.ntmps26
  go_wp2_with fail
  go_loopw [5] (fun I wr => ∃ n : Nat, n ≤ len ∧ n ≤ 200 ∧ I = .int .i64 n ∧ Hid (Pb W0 K b (actsP f (p, zs) n).1 (actsP f (p, zs) n).2 wr)) (fun I _ => 200 - (intOf I).toNat)
  case atStart => exact ⟨0, by omega, by omega, rfl, H⟩
  case round =>
    obtain ⟨n, hn, hn2, rfl, HP⟩ := hrel
    by_cases hl : n < len
    · by_cases h2 : n < 200
      · have d1 : decide ((n : Int) < (len : Int)) = true := decide_eq_true (by omega)
        have d2 : decide ((n : Int) < 200) = true := decide_eq_true (by omega)
        have hA := HA.out.up HP.out.up
        obtain rfl := hA.ad (by omega)
        have k0 : wr.cell? ⟨ab, ao + n * 3, none⟩ = some (.int .i64 (f n 0)) := hA.cell n hl 0 (by decide)
        have k1 : wr.cell? ⟨ab, ao + n * 3 + 1, none⟩ = some (.int .i64 (f n 1)) := hA.cell n hl 1 (by decide)
        have k2 : wr.cell? ⟨ab, ao + n * 3 + 2, none⟩ = some (.int .i64 (f n 2)) := hA.cell n hl 2 (by decide)
        have HL : Hid (∀ W', Up W0 W' → W'.cell? ⟨ab, ao + n * 3 + 1, none⟩ = some (.int .i64 (f n 1)) ∧ W'.cell? ⟨ab, ao + n * 3 + 2, none⟩ = some (.int .i64 (f n 2))) := fun W' u => ⟨(HA.out.up u).cell n hl 1 (by decide), (HA.out.up u).cell n hl 2 (by decide)⟩
        have i0 := hA.i64 n 0
        have i1 := hA.i64 n 1
        have i2 := hA.i64 n 2
        have e1 : (n : Int) < (len : Int) := by omega
        clear hA
        have HPk : Hid (∀ x m W, I64 x → 0 < m → m ≤ 65536 → Calls Tryd.prog 14 #[.int .i64 x, .int .i64 m] W fun e w' => e = .returned (.int .i64 (pickI x m)) ∧ w' = W) := fun x m W hx h0 h1 => pick_any x m W hx h0 (by omega)
        have HN : Hid (actsP f (p, zs) (n + 1) = actP (actsP f (p, zs) n) (f n 0) (f n 1) (f n 2)) := rfl
        generalize actsP f (p, zs) n = S at *
        generalize f n 0 = X at *
        generalize f n 1 = Y at *
        generalize f n 2 = Z at *
        obtain ⟨q, us⟩ := S
        dsimp only at *
        have g0 := pickI_lo X 6 (by decide)
        have g1 := pickI_hi X 6 (by decide)
        have hk : pickI X 6 = 0 ∨ pickI X 6 = 1 ∨ pickI X 6 = 2 ∨ pickI X 6 = 3 ∨ pickI X 6 = 4 ∨ pickI X 6 = 5 := by omega
        clear g0 g1
        rcases hk with hk | hk | hk | hk | hk | hk
        · have HK : Hid (∀ W, Calls Tryd.prog 14 #[.int .i64 X, .int .i64 6] W fun e w' => e = .returned (.int .i64 0) ∧ w' = W) := fun W => by have := HPk.out X 6 W i0 (by decide) (by decide); rw [hk] at this; exact this
          have HY : Hid (∀ W, Calls Tryd.prog 14 #[.int .i64 Y, .int .i64 5000] W fun e w' => e = .returned (.int .i64 (pickI Y 5000)) ∧ w' = W) := fun W => HPk.out Y 5000 W i1 (by decide) (by decide)
          have b0 := pickI_lo Y 5000 (by decide)
          have b1 := pickI_hi Y 5000 (by decide)
          have HE : Hid (actP (q, us) X Y Z = q.run us (pickI Y 5000)) := by show _ = _; unfold actP; rw [hk]; rfl
          have HC : Hid _ := HP.out.step (pickI Y 5000) b0 (by omega)
          clear hk HPk
          generalize pickI Y 5000 = T at *
          go_wp2_with fail
          refine (HK.out _).mono ?_
          rintro e w' ⟨rfl, hw'⟩
          obtain rfl := hw'.symm
          go_wp2_with fail
          refine (HY.out _).mono ?_
          rintro e w' ⟨rfl, hw'⟩
          obtain rfl := hw'.symm
          go_wp2_with fail
          refine Calls.mono HC.out ?_
          rintro e w2 ⟨rfl, h2⟩
          have P2 : Hid _ := h2
          clear h2 HC HY HK HP k0 k1 k2
          go_wp2_with fail
          refine ⟨⟨n + 1, by omega, by omega, rfl, ?_⟩, by simp [intOf]; omega⟩
          show Pb W0 K b (actsP f (p, zs) (n + 1)).1 (actsP f (p, zs) (n + 1)).2 w2
          rw [HN.out, HE.out]
          exact P2.out
        · have HK : Hid (∀ W, Calls Tryd.prog 14 #[.int .i64 X, .int .i64 6] W fun e w' => e = .returned (.int .i64 1) ∧ w' = W) := fun W => by have := HPk.out X 6 W i0 (by decide) (by decide); rw [hk] at this; exact this
          have HY : Hid (∀ W, Calls Tryd.prog 14 #[.int .i64 Y, .int .i64 5000] W fun e w' => e = .returned (.int .i64 (pickI Y 5000)) ∧ w' = W) := fun W => HPk.out Y 5000 W i1 (by decide) (by decide)
          have b0 := pickI_lo Y 5000 (by decide)
          have b1 := pickI_hi Y 5000 (by decide)
          have HE : Hid (actP (q, us) X Y Z = q.run us (pickI Y 5000)) := by show _ = _; unfold actP; rw [hk]; rfl
          have HC : Hid _ := HP.out.step (pickI Y 5000) b0 (by omega)
          clear hk HPk
          generalize pickI Y 5000 = T at *
          go_wp2_with fail
          refine (HK.out _).mono ?_
          rintro e w' ⟨rfl, hw'⟩
          obtain rfl := hw'.symm
          go_wp2_with fail
          refine (HY.out _).mono ?_
          rintro e w' ⟨rfl, hw'⟩
          obtain rfl := hw'.symm
          go_wp2_with fail
          refine Calls.mono HC.out ?_
          rintro e w2 ⟨rfl, h2⟩
          have P2 : Hid _ := h2
          clear h2 HC HY HK HP k0 k1 k2
          go_wp2_with fail
          refine ⟨⟨n + 1, by omega, by omega, rfl, ?_⟩, by simp [intOf]; omega⟩
          show Pb W0 K b (actsP f (p, zs) (n + 1)).1 (actsP f (p, zs) (n + 1)).2 w2
          rw [HN.out, HE.out]
          exact P2.out
        · have HK : Hid (∀ W, Calls Tryd.prog 14 #[.int .i64 X, .int .i64 6] W fun e w' => e = .returned (.int .i64 2) ∧ w' = W) := fun W => by have := HPk.out X 6 W i0 (by decide) (by decide); rw [hk] at this; exact this
          have HY : Hid (∀ W, Calls Tryd.prog 14 #[.int .i64 Y, .int .i64 8] W fun e w' => e = .returned (.int .i64 (pickI Y 8)) ∧ w' = W) := fun W => HPk.out Y 8 W i1 (by decide) (by decide)
          have HZ : Hid (∀ W, Calls Tryd.prog 14 #[.int .i64 Z, .int .i64 256] W fun e w' => e = .returned (.int .i64 (pickI Z 256)) ∧ w' = W) := fun W => HPk.out Z 256 W i2 (by decide) (by decide)
          have b0 := pickI_lo Y 8 (by decide)
          have b1 := pickI_hi Y 8 (by decide)
          have c0 := pickI_lo Z 256 (by decide)
          have c1 := pickI_hi Z 256 (by decide)
          have HE : Hid (actP (q, us) X Y Z = (q.wr (pickI Y 8) (pickI Z 256), us)) := by show _ = _; unfold actP; rw [hk]; rfl
          have HC : Hid (∀ W, Pb W0 K b q us W → Calls Tryd.prog 15 #[.pointer (some ⟨b, 0, none⟩), .int .i64 (adr (pickI Y 8)), .int .i64 (pickI Z 256)] W fun e w' => e = .returned (.int .i64 0) ∧ Pb W0 K b (q.wr (pickI Y 8) (pickI Z 256)) us w') := fun W hW => hW.write _ _ b0 (by omega) c0 (by omega)
          clear hk HPk
          generalize pickI Y 8 = T at *
          generalize pickI Z 256 = V at *
          go_wp2_with fail
          refine (HK.out _).mono ?_
          rintro e w' ⟨rfl, hw'⟩
          obtain rfl := hw'.symm
          go_wp2_with fail
          refine wp_region_held_drew (S := fun w' => w'.cell? ⟨ab, ao + n * 3 + 1, none⟩ = some (.int .i64 Y) ∧ w'.cell? ⟨ab, ao + n * 3 + 2, none⟩ = some (.int .i64 Z)) (by kernel_rfl) ?_ (fun hHeld => ?_)
          · exact ⟨k1, k2⟩
          have hHd := hHeld
          refine wpAnyH_take (i := 0) (v := ?_) (by simp only [List.getElem?_toArray, List.getElem?_cons_zero]; rfl) (by kernel_rfl) (by kernel_rfl) (by kernel_rfl) (by intro _ _ _ h; exact h) (Or.inl ⟨by rfl, ?_⟩) (by assumption) ?_
          rotate_left
          · (intro w hSw; (try dsimp only at hSw); go_simp <;> with_reducible rfl)
          try simp only [Act.put, List.setIfInBounds_toArray, List.set_cons_zero, List.set_cons_succ]
          refine wpAnyH_take (i := 2) (v := ?_) (by simp only [List.getElem?_toArray, List.getElem?_cons_succ, List.getElem?_cons_zero]; rfl) (by kernel_rfl) (by kernel_rfl) (by kernel_rfl) (by intro _ _ _ h; exact h) (Or.inl ⟨by rfl, ?_⟩) (by assumption) ?_
          rotate_left
          · (intro w hSw; (try dsimp only at hSw); go_simp <;> with_reducible rfl)
          try simp only [Act.put, List.setIfInBounds_toArray, List.set_cons_zero, List.set_cons_succ]
          refine wpAnyH_take (i := 3) (v := ?_) (by simp only [List.getElem?_toArray, List.getElem?_cons_succ, List.getElem?_cons_zero]; rfl) (by kernel_rfl) (by kernel_rfl) (by kernel_rfl) (by intro _ _ _ h; exact h) (Or.inl ⟨by rfl, ?_⟩) (by assumption) ?_
          rotate_left
          · (intro w hSw; (try dsimp only at hSw); go_simp <;> with_reducible rfl)
          try simp only [Act.put, List.setIfInBounds_toArray, List.set_cons_zero, List.set_cons_succ]
          refine wpAnyH_take (i := 4) (v := ?_) (by simp only [List.getElem?_toArray, List.getElem?_cons_succ, List.getElem?_cons_zero]; rfl) (by kernel_rfl) (by kernel_rfl) (by kernel_rfl) (by intro _ _ _ h; exact h) (Or.inl ⟨by rfl, ?_⟩) (by assumption) ?_
          rotate_left
          · (intro w hSw; (try dsimp only at hSw); go_simp <;> with_reducible rfl)
          try simp only [Act.put, List.setIfInBounds_toArray, List.set_cons_zero, List.set_cons_succ]
          refine wpAnyH_take (i := 5) (v := ?_) (by simp only [List.getElem?_toArray, List.getElem?_cons_succ, List.getElem?_cons_zero]; rfl) (by kernel_rfl) (by kernel_rfl) (by kernel_rfl) (by intro _ _ _ h; exact h) (Or.inl ⟨by rfl, ?_⟩) (by assumption) ?_
          rotate_left
          · (intro w hSw; (try dsimp only at hSw); go_simp <;> with_reducible rfl)
          try simp only [Act.put, List.setIfInBounds_toArray, List.set_cons_zero, List.set_cons_succ]
          refine wpAnyH_take (i := 6) (v := ?_) (by simp only [List.getElem?_toArray, List.getElem?_cons_succ, List.getElem?_cons_zero]; rfl) (by kernel_rfl) (by kernel_rfl) (by kernel_rfl) (by intro _ _ _ h; exact h) (Or.inl ⟨by rfl, ?_⟩) (by assumption) ?_
          rotate_left
          · (intro w hSw; (try dsimp only at hSw); go_simp <;> with_reducible rfl)
          try simp only [Act.put, List.setIfInBounds_toArray, List.set_cons_zero, List.set_cons_succ]
          refine wpAnyH_take (i := 10) (v := ?_) (by simp only [List.getElem?_toArray, List.getElem?_cons_succ, List.getElem?_cons_zero]; rfl) (by kernel_rfl) (by kernel_rfl) (by kernel_rfl) (by intro _ _ _ h; exact h) (Or.inl ⟨by rfl, ?_⟩) (by assumption) ?_
          rotate_left
          · (intro w hSw; (try dsimp only at hSw); go_simp <;> with_reducible rfl)
          try simp only [Act.put, List.setIfInBounds_toArray, List.set_cons_zero, List.set_cons_succ]
          refine wpAnyH_take (i := 11) (v := ?_) (by simp only [List.getElem?_toArray, List.getElem?_cons_succ, List.getElem?_cons_zero]; rfl) (by kernel_rfl) (by kernel_rfl) (by kernel_rfl) (by intro _ _ _ h; exact h) (Or.inl ⟨by rfl, ?_⟩) (by assumption) ?_
          rotate_left
          · (intro w hSw; (try dsimp only at hSw); go_simp <;> with_reducible rfl)
          try simp only [Act.put, List.setIfInBounds_toArray, List.set_cons_zero, List.set_cons_succ]
          refine wpAnyH_take (i := 12) (v := ?_) (by simp only [List.getElem?_toArray, List.getElem?_cons_succ, List.getElem?_cons_zero]; rfl) (by kernel_rfl) (by kernel_rfl) (by kernel_rfl) (by intro _ _ _ h; exact h) (Or.inl ⟨by rfl, ?_⟩) (by assumption) ?_
          rotate_left
          · (intro w hSw; (try dsimp only at hSw); go_simp <;> with_reducible rfl)
          try simp only [Act.put, List.setIfInBounds_toArray, List.set_cons_zero, List.set_cons_succ]
          refine wpAnyH_take (i := 13) (v := ?_) (by simp only [List.getElem?_toArray, List.getElem?_cons_succ, List.getElem?_cons_zero]; rfl) (by kernel_rfl) (by kernel_rfl) (by kernel_rfl) (by intro _ _ _ h; exact h) (Or.inl ⟨by rfl, ?_⟩) (by assumption) ?_
          rotate_left
          · (intro w hSw; (try dsimp only at hSw); go_simp <;> with_reducible rfl)
          try simp only [Act.put, List.setIfInBounds_toArray, List.set_cons_zero, List.set_cons_succ]
          refine wpAnyH_take (i := 14) (v := ?_) (by simp only [List.getElem?_toArray, List.getElem?_cons_succ, List.getElem?_cons_zero]; rfl) (by kernel_rfl) (by kernel_rfl) (by kernel_rfl) (by intro _ _ _ h; exact h) (Or.inl ⟨by rfl, ?_⟩) (by assumption) ?_
          rotate_left
          · (intro w hSw; (try dsimp only at hSw); go_simp <;> with_reducible rfl)
          try simp only [Act.put, List.setIfInBounds_toArray, List.set_cons_zero, List.set_cons_succ]
          refine wpAnyH_ready (rs := [1, 7]) (by kernel_rfl) (by simp) ?_
          refine AllReadyH.cons (by simp only [List.getElem?_toArray, List.getElem?_cons_succ, List.getElem?_cons_zero]; rfl) (fun Kq hK => ?_) ?_
          · go_simp
            generalize hwa : World.drew (World.alloc wr _) = wa
            obtain ⟨ua, hcl⟩ := lit8 wr wa T b0 b1 hwa
            have hHe : wa.cell? ⟨ab, ao + n * 3 + 1, none⟩ = some (.int .i64 Y) ∧ wa.cell? ⟨ab, ao + n * 3 + 2, none⟩ = some (.int .i64 Z) := ⟨(ua.cell (World.block_lt_of_cell? _ _ k1)).trans k1, (ua.cell (World.block_lt_of_cell? _ _ k2)).trans k2⟩
            clear hwa
            refine hK.out _ _ ?_ (fun _ => ?_)
            · exact hHe
            clear hK Kq
            try simp only [Act.put, List.setIfInBounds_toArray, List.set_cons_zero, List.set_cons_succ]
            refine wpAnyH_ready (rs := [7]) (by kernel_rfl) (by simp) ?_
            refine AllReadyH.cons (by simp only [List.getElem?_toArray, List.getElem?_cons_succ, List.getElem?_cons_zero]; rfl) (fun Kq hK => ?_) AllReadyH.nil
            go_simp
            refine (HY.out _).mono ?_
            rintro e w' ⟨rfl, hw'⟩
            obtain rfl := hw'.symm
            refine hK.out _ _ ?_ (fun _ => ?_)
            · exact hHe
            clear hK Kq
            try simp only [Act.put, List.setIfInBounds_toArray, List.set_cons_zero, List.set_cons_succ]
            refine wpAnyH_take (i := 8) (v := ?_) (by simp only [List.getElem?_toArray, List.getElem?_cons_succ, List.getElem?_cons_zero]; rfl) (by kernel_rfl) (by kernel_rfl) (by kernel_rfl) (by intro _ _ _ h; exact h) (Or.inl ⟨by rfl, ?_⟩) (by assumption) ?_
            rotate_left
            · (intro w hSw; (try dsimp only at hSw); go_simp <;> with_reducible rfl)
            try simp only [Act.put, List.setIfInBounds_toArray, List.set_cons_zero, List.set_cons_succ]
            refine wpAnyH_ready (rs := [9, 15]) (by kernel_rfl) (by simp) ?_
            refine AllReadyH.cons (by simp only [List.getElem?_toArray, List.getElem?_cons_succ, List.getElem?_cons_zero]; rfl) (fun Kq hK => ?_) ?_
            · go_simp
              refine hK.out _ _ ?_ (fun _ => ?_)
              · exact hHe
              clear hK Kq
              try simp only [Act.put, List.setIfInBounds_toArray, List.set_cons_zero, List.set_cons_succ]
              refine wpAnyH_ready (rs := [15]) (by kernel_rfl) (by simp) ?_
              refine AllReadyH.cons (by simp only [List.getElem?_toArray, List.getElem?_cons_succ, List.getElem?_cons_zero]; rfl) (fun Kq hK => ?_) AllReadyH.nil
              go_simp
              refine (HZ.out _).mono ?_
              rintro e w' ⟨rfl, hw'⟩
              obtain rfl := hw'.symm
              refine hK.out _ _ ?_ (fun _ => ?_)
              · exact hHe
              clear hK Kq
              try simp only [Act.put, List.setIfInBounds_toArray, List.set_cons_zero, List.set_cons_succ]
              refine wpAnyH_ready (rs := [16]) (by kernel_rfl) (by simp) ?_
              refine AllReadyH.cons (by simp only [List.getElem?_toArray, List.getElem?_cons_succ, List.getElem?_cons_zero]; rfl) (fun Kq hK => ?_) AllReadyH.nil
              go_simp
              refine (HC.out _ (HP.out.more ua)).mono ?_
              rintro e w2 ⟨rfl, h2⟩
              have P2 : Hid _ := h2
              refine hK.out _ _ ?_ (fun _ => ?_)
              · exact HL.out _ h2.up
              clear hK Kq h2
              try simp only [Act.put, List.setIfInBounds_toArray, List.set_cons_zero, List.set_cons_succ]
              refine wpAnyH_take (i := 17) (v := ?_) (by simp only [List.getElem?_toArray, List.getElem?_cons_succ, List.getElem?_cons_zero]; rfl) (by kernel_rfl) (by kernel_rfl) (by kernel_rfl) (by intro _ _ _ h; exact h) (Or.inl ⟨by rfl, ?_⟩) (by assumption) ?_
              rotate_left
              · (intro w hSw; (try dsimp only at hSw); go_simp <;> with_reducible rfl)
              try simp only [Act.put, List.setIfInBounds_toArray, List.set_cons_zero, List.set_cons_succ]
              refine wpAnyH_done (by kernel_rfl) ?_ _
              clear HC HY HZ HP k0 k1 k2 hHeld
              go_wp2_with fail
              refine ⟨⟨n + 1, by omega, by omega, rfl, ?_⟩, by simp [intOf]; omega⟩
              show Pb W0 K b (actsP f (p, zs) (n + 1)).1 (actsP f (p, zs) (n + 1)).2 w2
              rw [HN.out, HE.out]
              exact P2.out
            refine AllReadyH.cons (by simp only [List.getElem?_toArray, List.getElem?_cons_succ, List.getElem?_cons_zero]; rfl) (fun Kq hK => ?_) AllReadyH.nil
            go_simp
            refine (HZ.out _).mono ?_
            rintro e w' ⟨rfl, hw'⟩
            obtain rfl := hw'.symm
            refine hK.out _ _ ?_ (fun _ => ?_)
            · exact hHe
            clear hK Kq
            try simp only [Act.put, List.setIfInBounds_toArray, List.set_cons_zero, List.set_cons_succ]
            refine wpAnyH_ready (rs := [9]) (by kernel_rfl) (by simp) ?_
            refine AllReadyH.cons (by simp only [List.getElem?_toArray, List.getElem?_cons_succ, List.getElem?_cons_zero]; rfl) (fun Kq hK => ?_) AllReadyH.nil
            go_simp
            refine hK.out _ _ ?_ (fun _ => ?_)
            · exact hHe
            clear hK Kq
            try simp only [Act.put, List.setIfInBounds_toArray, List.set_cons_zero, List.set_cons_succ]
            refine wpAnyH_ready (rs := [16]) (by kernel_rfl) (by simp) ?_
            refine AllReadyH.cons (by simp only [List.getElem?_toArray, List.getElem?_cons_succ, List.getElem?_cons_zero]; rfl) (fun Kq hK => ?_) AllReadyH.nil
            go_simp
            refine (HC.out _ (HP.out.more ua)).mono ?_
            rintro e w2 ⟨rfl, h2⟩
            have P2 : Hid _ := h2
            refine hK.out _ _ ?_ (fun _ => ?_)
            · exact HL.out _ h2.up
            clear hK Kq h2
            try simp only [Act.put, List.setIfInBounds_toArray, List.set_cons_zero, List.set_cons_succ]
            refine wpAnyH_take (i := 17) (v := ?_) (by simp only [List.getElem?_toArray, List.getElem?_cons_succ, List.getElem?_cons_zero]; rfl) (by kernel_rfl) (by kernel_rfl) (by kernel_rfl) (by intro _ _ _ h; exact h) (Or.inl ⟨by rfl, ?_⟩) (by assumption) ?_
            rotate_left
            · (intro w hSw; (try dsimp only at hSw); go_simp <;> with_reducible rfl)
            try simp only [Act.put, List.setIfInBounds_toArray, List.set_cons_zero, List.set_cons_succ]
            refine wpAnyH_done (by kernel_rfl) ?_ _
            clear HC HY HZ HP k0 k1 k2 hHeld
            go_wp2_with fail
            refine ⟨⟨n + 1, by omega, by omega, rfl, ?_⟩, by simp [intOf]; omega⟩
            show Pb W0 K b (actsP f (p, zs) (n + 1)).1 (actsP f (p, zs) (n + 1)).2 w2
            rw [HN.out, HE.out]
            exact P2.out
          refine AllReadyH.cons (by simp only [List.getElem?_toArray, List.getElem?_cons_succ, List.getElem?_cons_zero]; rfl) (fun Kq hK => ?_) AllReadyH.nil
          go_simp
          refine (HY.out _).mono ?_
          rintro e w' ⟨rfl, hw'⟩
          obtain rfl := hw'.symm
          refine hK.out _ _ ?_ (fun _ => ?_)
          · exact hHd
          clear hK Kq
          try simp only [Act.put, List.setIfInBounds_toArray, List.set_cons_zero, List.set_cons_succ]
          refine wpAnyH_ready (rs := [1, 15]) (by kernel_rfl) (by simp) ?_
          refine AllReadyH.cons (by simp only [List.getElem?_toArray, List.getElem?_cons_succ, List.getElem?_cons_zero]; rfl) (fun Kq hK => ?_) ?_
          · go_simp
            generalize hwa : World.drew (World.alloc wr _) = wa
            obtain ⟨ua, hcl⟩ := lit8 wr wa T b0 b1 hwa
            have hHe : wa.cell? ⟨ab, ao + n * 3 + 1, none⟩ = some (.int .i64 Y) ∧ wa.cell? ⟨ab, ao + n * 3 + 2, none⟩ = some (.int .i64 Z) := ⟨(ua.cell (World.block_lt_of_cell? _ _ k1)).trans k1, (ua.cell (World.block_lt_of_cell? _ _ k2)).trans k2⟩
            clear hwa
            refine hK.out _ _ ?_ (fun _ => ?_)
            · exact hHe
            clear hK Kq
            try simp only [Act.put, List.setIfInBounds_toArray, List.set_cons_zero, List.set_cons_succ]
            refine wpAnyH_take (i := 8) (v := ?_) (by simp only [List.getElem?_toArray, List.getElem?_cons_succ, List.getElem?_cons_zero]; rfl) (by kernel_rfl) (by kernel_rfl) (by kernel_rfl) (by intro _ _ _ h; exact h) (Or.inl ⟨by rfl, ?_⟩) (by assumption) ?_
            rotate_left
            · (intro w hSw; (try dsimp only at hSw); go_simp <;> with_reducible rfl)
            try simp only [Act.put, List.setIfInBounds_toArray, List.set_cons_zero, List.set_cons_succ]
            refine wpAnyH_ready (rs := [9, 15]) (by kernel_rfl) (by simp) ?_
            refine AllReadyH.cons (by simp only [List.getElem?_toArray, List.getElem?_cons_succ, List.getElem?_cons_zero]; rfl) (fun Kq hK => ?_) ?_
            · go_simp
              refine hK.out _ _ ?_ (fun _ => ?_)
              · exact hHe
              clear hK Kq
              try simp only [Act.put, List.setIfInBounds_toArray, List.set_cons_zero, List.set_cons_succ]
              refine wpAnyH_ready (rs := [15]) (by kernel_rfl) (by simp) ?_
              refine AllReadyH.cons (by simp only [List.getElem?_toArray, List.getElem?_cons_succ, List.getElem?_cons_zero]; rfl) (fun Kq hK => ?_) AllReadyH.nil
              go_simp
              refine (HZ.out _).mono ?_
              rintro e w' ⟨rfl, hw'⟩
              obtain rfl := hw'.symm
              refine hK.out _ _ ?_ (fun _ => ?_)
              · exact hHe
              clear hK Kq
              try simp only [Act.put, List.setIfInBounds_toArray, List.set_cons_zero, List.set_cons_succ]
              refine wpAnyH_ready (rs := [16]) (by kernel_rfl) (by simp) ?_
              refine AllReadyH.cons (by simp only [List.getElem?_toArray, List.getElem?_cons_succ, List.getElem?_cons_zero]; rfl) (fun Kq hK => ?_) AllReadyH.nil
              go_simp
              refine (HC.out _ (HP.out.more ua)).mono ?_
              rintro e w2 ⟨rfl, h2⟩
              have P2 : Hid _ := h2
              refine hK.out _ _ ?_ (fun _ => ?_)
              · exact HL.out _ h2.up
              clear hK Kq h2
              try simp only [Act.put, List.setIfInBounds_toArray, List.set_cons_zero, List.set_cons_succ]
              refine wpAnyH_take (i := 17) (v := ?_) (by simp only [List.getElem?_toArray, List.getElem?_cons_succ, List.getElem?_cons_zero]; rfl) (by kernel_rfl) (by kernel_rfl) (by kernel_rfl) (by intro _ _ _ h; exact h) (Or.inl ⟨by rfl, ?_⟩) (by assumption) ?_
              rotate_left
              · (intro w hSw; (try dsimp only at hSw); go_simp <;> with_reducible rfl)
              try simp only [Act.put, List.setIfInBounds_toArray, List.set_cons_zero, List.set_cons_succ]
              refine wpAnyH_done (by kernel_rfl) ?_ _
              clear HC HY HZ HP k0 k1 k2 hHeld
              go_wp2_with fail
              refine ⟨⟨n + 1, by omega, by omega, rfl, ?_⟩, by simp [intOf]; omega⟩
              show Pb W0 K b (actsP f (p, zs) (n + 1)).1 (actsP f (p, zs) (n + 1)).2 w2
              rw [HN.out, HE.out]
              exact P2.out
            refine AllReadyH.cons (by simp only [List.getElem?_toArray, List.getElem?_cons_succ, List.getElem?_cons_zero]; rfl) (fun Kq hK => ?_) AllReadyH.nil
            go_simp
            refine (HZ.out _).mono ?_
            rintro e w' ⟨rfl, hw'⟩
            obtain rfl := hw'.symm
            refine hK.out _ _ ?_ (fun _ => ?_)
            · exact hHe
            clear hK Kq
            try simp only [Act.put, List.setIfInBounds_toArray, List.set_cons_zero, List.set_cons_succ]
            refine wpAnyH_ready (rs := [9]) (by kernel_rfl) (by simp) ?_
            refine AllReadyH.cons (by simp only [List.getElem?_toArray, List.getElem?_cons_succ, List.getElem?_cons_zero]; rfl) (fun Kq hK => ?_) AllReadyH.nil
            go_simp
            refine hK.out _ _ ?_ (fun _ => ?_)
            · exact hHe
            clear hK Kq
            try simp only [Act.put, List.setIfInBounds_toArray, List.set_cons_zero, List.set_cons_succ]
            refine wpAnyH_ready (rs := [16]) (by kernel_rfl) (by simp) ?_
            refine AllReadyH.cons (by simp only [List.getElem?_toArray, List.getElem?_cons_succ, List.getElem?_cons_zero]; rfl) (fun Kq hK => ?_) AllReadyH.nil
            go_simp
            refine (HC.out _ (HP.out.more ua)).mono ?_
            rintro e w2 ⟨rfl, h2⟩
            have P2 : Hid _ := h2
            refine hK.out _ _ ?_ (fun _ => ?_)
            · exact HL.out _ h2.up
            clear hK Kq h2
            try simp only [Act.put, List.setIfInBounds_toArray, List.set_cons_zero, List.set_cons_succ]
            refine wpAnyH_take (i := 17) (v := ?_) (by simp only [List.getElem?_toArray, List.getElem?_cons_succ, List.getElem?_cons_zero]; rfl) (by kernel_rfl) (by kernel_rfl) (by kernel_rfl) (by intro _ _ _ h; exact h) (Or.inl ⟨by rfl, ?_⟩) (by assumption) ?_
            rotate_left
            · (intro w hSw; (try dsimp only at hSw); go_simp <;> with_reducible rfl)
            try simp only [Act.put, List.setIfInBounds_toArray, List.set_cons_zero, List.set_cons_succ]
            refine wpAnyH_done (by kernel_rfl) ?_ _
            clear HC HY HZ HP k0 k1 k2 hHeld
            go_wp2_with fail
            refine ⟨⟨n + 1, by omega, by omega, rfl, ?_⟩, by simp [intOf]; omega⟩
            show Pb W0 K b (actsP f (p, zs) (n + 1)).1 (actsP f (p, zs) (n + 1)).2 w2
            rw [HN.out, HE.out]
            exact P2.out
          refine AllReadyH.cons (by simp only [List.getElem?_toArray, List.getElem?_cons_succ, List.getElem?_cons_zero]; rfl) (fun Kq hK => ?_) AllReadyH.nil
          go_simp
          refine (HZ.out _).mono ?_
          rintro e w' ⟨rfl, hw'⟩
          obtain rfl := hw'.symm
          refine hK.out _ _ ?_ (fun _ => ?_)
          · exact hHd
          clear hK Kq
          try simp only [Act.put, List.setIfInBounds_toArray, List.set_cons_zero, List.set_cons_succ]
          refine wpAnyH_ready (rs := [1]) (by kernel_rfl) (by simp) ?_
          refine AllReadyH.cons (by simp only [List.getElem?_toArray, List.getElem?_cons_succ, List.getElem?_cons_zero]; rfl) (fun Kq hK => ?_) AllReadyH.nil
          go_simp
          generalize hwa : World.drew (World.alloc wr _) = wa
          obtain ⟨ua, hcl⟩ := lit8 wr wa T b0 b1 hwa
          have hHe : wa.cell? ⟨ab, ao + n * 3 + 1, none⟩ = some (.int .i64 Y) ∧ wa.cell? ⟨ab, ao + n * 3 + 2, none⟩ = some (.int .i64 Z) := ⟨(ua.cell (World.block_lt_of_cell? _ _ k1)).trans k1, (ua.cell (World.block_lt_of_cell? _ _ k2)).trans k2⟩
          clear hwa
          refine hK.out _ _ ?_ (fun _ => ?_)
          · exact hHe
          clear hK Kq
          try simp only [Act.put, List.setIfInBounds_toArray, List.set_cons_zero, List.set_cons_succ]
          refine wpAnyH_take (i := 8) (v := ?_) (by simp only [List.getElem?_toArray, List.getElem?_cons_succ, List.getElem?_cons_zero]; rfl) (by kernel_rfl) (by kernel_rfl) (by kernel_rfl) (by intro _ _ _ h; exact h) (Or.inl ⟨by rfl, ?_⟩) (by assumption) ?_
          rotate_left
          · (intro w hSw; (try dsimp only at hSw); go_simp <;> with_reducible rfl)
          try simp only [Act.put, List.setIfInBounds_toArray, List.set_cons_zero, List.set_cons_succ]
          refine wpAnyH_ready (rs := [9]) (by kernel_rfl) (by simp) ?_
          refine AllReadyH.cons (by simp only [List.getElem?_toArray, List.getElem?_cons_succ, List.getElem?_cons_zero]; rfl) (fun Kq hK => ?_) AllReadyH.nil
          go_simp
          refine hK.out _ _ ?_ (fun _ => ?_)
          · exact hHe
          clear hK Kq
          try simp only [Act.put, List.setIfInBounds_toArray, List.set_cons_zero, List.set_cons_succ]
          refine wpAnyH_ready (rs := [16]) (by kernel_rfl) (by simp) ?_
          refine AllReadyH.cons (by simp only [List.getElem?_toArray, List.getElem?_cons_succ, List.getElem?_cons_zero]; rfl) (fun Kq hK => ?_) AllReadyH.nil
          go_simp
          refine (HC.out _ (HP.out.more ua)).mono ?_
          rintro e w2 ⟨rfl, h2⟩
          have P2 : Hid _ := h2
          refine hK.out _ _ ?_ (fun _ => ?_)
          · exact HL.out _ h2.up
          clear hK Kq h2
          try simp only [Act.put, List.setIfInBounds_toArray, List.set_cons_zero, List.set_cons_succ]
          refine wpAnyH_take (i := 17) (v := ?_) (by simp only [List.getElem?_toArray, List.getElem?_cons_succ, List.getElem?_cons_zero]; rfl) (by kernel_rfl) (by kernel_rfl) (by kernel_rfl) (by intro _ _ _ h; exact h) (Or.inl ⟨by rfl, ?_⟩) (by assumption) ?_
          rotate_left
          · (intro w hSw; (try dsimp only at hSw); go_simp <;> with_reducible rfl)
          try simp only [Act.put, List.setIfInBounds_toArray, List.set_cons_zero, List.set_cons_succ]
          refine wpAnyH_done (by kernel_rfl) ?_ _
          clear HC HY HZ HP k0 k1 k2 hHeld
          go_wp2_with fail
          refine ⟨⟨n + 1, by omega, by omega, rfl, ?_⟩, by simp [intOf]; omega⟩
          show Pb W0 K b (actsP f (p, zs) (n + 1)).1 (actsP f (p, zs) (n + 1)).2 w2
          rw [HN.out, HE.out]
          exact P2.out
        · have HK : Hid (∀ W, Calls Tryd.prog 14 #[.int .i64 X, .int .i64 6] W fun e w' => e = .returned (.int .i64 3) ∧ w' = W) := fun W => by have := HPk.out X 6 W i0 (by decide) (by decide); rw [hk] at this; exact this
          have HY : Hid (∀ W, Calls Tryd.prog 14 #[.int .i64 Y, .int .i64 8] W fun e w' => e = .returned (.int .i64 (pickI Y 8)) ∧ w' = W) := fun W => HPk.out Y 8 W i1 (by decide) (by decide)
          have HZ : Hid (∀ W, Calls Tryd.prog 14 #[.int .i64 Z, .int .i64 256] W fun e w' => e = .returned (.int .i64 (pickI Z 256)) ∧ w' = W) := fun W => HPk.out Z 256 W i2 (by decide) (by decide)
          have b0 := pickI_lo Y 8 (by decide)
          have b1 := pickI_hi Y 8 (by decide)
          have c0 := pickI_lo Z 256 (by decide)
          have c1 := pickI_hi Z 256 (by decide)
          have HE : Hid (actP (q, us) X Y Z = (q.wr (pickI Y 8) (pickI Z 256), us)) := by show _ = _; unfold actP; rw [hk]; rfl
          have HC : Hid (∀ W, Pb W0 K b q us W → Calls Tryd.prog 15 #[.pointer (some ⟨b, 0, none⟩), .int .i64 (adr (pickI Y 8)), .int .i64 (pickI Z 256)] W fun e w' => e = .returned (.int .i64 0) ∧ Pb W0 K b (q.wr (pickI Y 8) (pickI Z 256)) us w') := fun W hW => hW.write _ _ b0 (by omega) c0 (by omega)
          clear hk HPk
          generalize pickI Y 8 = T at *
          generalize pickI Z 256 = V at *
          go_wp2_with fail
          refine (HK.out _).mono ?_
          rintro e w' ⟨rfl, hw'⟩
          obtain rfl := hw'.symm
          go_wp2_with fail
          refine wp_region_held_drew (S := fun w' => w'.cell? ⟨ab, ao + n * 3 + 1, none⟩ = some (.int .i64 Y) ∧ w'.cell? ⟨ab, ao + n * 3 + 2, none⟩ = some (.int .i64 Z)) (by kernel_rfl) ?_ (fun hHeld => ?_)
          · exact ⟨k1, k2⟩
          have hHd := hHeld
          refine wpAnyH_take (i := 0) (v := ?_) (by simp only [List.getElem?_toArray, List.getElem?_cons_zero]; rfl) (by kernel_rfl) (by kernel_rfl) (by kernel_rfl) (by intro _ _ _ h; exact h) (Or.inl ⟨by rfl, ?_⟩) (by assumption) ?_
          rotate_left
          · (intro w hSw; (try dsimp only at hSw); go_simp <;> with_reducible rfl)
          try simp only [Act.put, List.setIfInBounds_toArray, List.set_cons_zero, List.set_cons_succ]
          refine wpAnyH_take (i := 2) (v := ?_) (by simp only [List.getElem?_toArray, List.getElem?_cons_succ, List.getElem?_cons_zero]; rfl) (by kernel_rfl) (by kernel_rfl) (by kernel_rfl) (by intro _ _ _ h; exact h) (Or.inl ⟨by rfl, ?_⟩) (by assumption) ?_
          rotate_left
          · (intro w hSw; (try dsimp only at hSw); go_simp <;> with_reducible rfl)
          try simp only [Act.put, List.setIfInBounds_toArray, List.set_cons_zero, List.set_cons_succ]
          refine wpAnyH_take (i := 3) (v := ?_) (by simp only [List.getElem?_toArray, List.getElem?_cons_succ, List.getElem?_cons_zero]; rfl) (by kernel_rfl) (by kernel_rfl) (by kernel_rfl) (by intro _ _ _ h; exact h) (Or.inl ⟨by rfl, ?_⟩) (by assumption) ?_
          rotate_left
          · (intro w hSw; (try dsimp only at hSw); go_simp <;> with_reducible rfl)
          try simp only [Act.put, List.setIfInBounds_toArray, List.set_cons_zero, List.set_cons_succ]
          refine wpAnyH_take (i := 4) (v := ?_) (by simp only [List.getElem?_toArray, List.getElem?_cons_succ, List.getElem?_cons_zero]; rfl) (by kernel_rfl) (by kernel_rfl) (by kernel_rfl) (by intro _ _ _ h; exact h) (Or.inl ⟨by rfl, ?_⟩) (by assumption) ?_
          rotate_left
          · (intro w hSw; (try dsimp only at hSw); go_simp <;> with_reducible rfl)
          try simp only [Act.put, List.setIfInBounds_toArray, List.set_cons_zero, List.set_cons_succ]
          refine wpAnyH_take (i := 5) (v := ?_) (by simp only [List.getElem?_toArray, List.getElem?_cons_succ, List.getElem?_cons_zero]; rfl) (by kernel_rfl) (by kernel_rfl) (by kernel_rfl) (by intro _ _ _ h; exact h) (Or.inl ⟨by rfl, ?_⟩) (by assumption) ?_
          rotate_left
          · (intro w hSw; (try dsimp only at hSw); go_simp <;> with_reducible rfl)
          try simp only [Act.put, List.setIfInBounds_toArray, List.set_cons_zero, List.set_cons_succ]
          refine wpAnyH_take (i := 6) (v := ?_) (by simp only [List.getElem?_toArray, List.getElem?_cons_succ, List.getElem?_cons_zero]; rfl) (by kernel_rfl) (by kernel_rfl) (by kernel_rfl) (by intro _ _ _ h; exact h) (Or.inl ⟨by rfl, ?_⟩) (by assumption) ?_
          rotate_left
          · (intro w hSw; (try dsimp only at hSw); go_simp <;> with_reducible rfl)
          try simp only [Act.put, List.setIfInBounds_toArray, List.set_cons_zero, List.set_cons_succ]
          refine wpAnyH_take (i := 10) (v := ?_) (by simp only [List.getElem?_toArray, List.getElem?_cons_succ, List.getElem?_cons_zero]; rfl) (by kernel_rfl) (by kernel_rfl) (by kernel_rfl) (by intro _ _ _ h; exact h) (Or.inl ⟨by rfl, ?_⟩) (by assumption) ?_
          rotate_left
          · (intro w hSw; (try dsimp only at hSw); go_simp <;> with_reducible rfl)
          try simp only [Act.put, List.setIfInBounds_toArray, List.set_cons_zero, List.set_cons_succ]
          refine wpAnyH_take (i := 11) (v := ?_) (by simp only [List.getElem?_toArray, List.getElem?_cons_succ, List.getElem?_cons_zero]; rfl) (by kernel_rfl) (by kernel_rfl) (by kernel_rfl) (by intro _ _ _ h; exact h) (Or.inl ⟨by rfl, ?_⟩) (by assumption) ?_
          rotate_left
          · (intro w hSw; (try dsimp only at hSw); go_simp <;> with_reducible rfl)
          try simp only [Act.put, List.setIfInBounds_toArray, List.set_cons_zero, List.set_cons_succ]
          refine wpAnyH_take (i := 12) (v := ?_) (by simp only [List.getElem?_toArray, List.getElem?_cons_succ, List.getElem?_cons_zero]; rfl) (by kernel_rfl) (by kernel_rfl) (by kernel_rfl) (by intro _ _ _ h; exact h) (Or.inl ⟨by rfl, ?_⟩) (by assumption) ?_
          rotate_left
          · (intro w hSw; (try dsimp only at hSw); go_simp <;> with_reducible rfl)
          try simp only [Act.put, List.setIfInBounds_toArray, List.set_cons_zero, List.set_cons_succ]
          refine wpAnyH_take (i := 13) (v := ?_) (by simp only [List.getElem?_toArray, List.getElem?_cons_succ, List.getElem?_cons_zero]; rfl) (by kernel_rfl) (by kernel_rfl) (by kernel_rfl) (by intro _ _ _ h; exact h) (Or.inl ⟨by rfl, ?_⟩) (by assumption) ?_
          rotate_left
          · (intro w hSw; (try dsimp only at hSw); go_simp <;> with_reducible rfl)
          try simp only [Act.put, List.setIfInBounds_toArray, List.set_cons_zero, List.set_cons_succ]
          refine wpAnyH_take (i := 14) (v := ?_) (by simp only [List.getElem?_toArray, List.getElem?_cons_succ, List.getElem?_cons_zero]; rfl) (by kernel_rfl) (by kernel_rfl) (by kernel_rfl) (by intro _ _ _ h; exact h) (Or.inl ⟨by rfl, ?_⟩) (by assumption) ?_
          rotate_left
          · (intro w hSw; (try dsimp only at hSw); go_simp <;> with_reducible rfl)
          try simp only [Act.put, List.setIfInBounds_toArray, List.set_cons_zero, List.set_cons_succ]
          refine wpAnyH_ready (rs := [1, 7]) (by kernel_rfl) (by simp) ?_
          refine AllReadyH.cons (by simp only [List.getElem?_toArray, List.getElem?_cons_succ, List.getElem?_cons_zero]; rfl) (fun Kq hK => ?_) ?_
          · go_simp
            generalize hwa : World.drew (World.alloc wr _) = wa
            obtain ⟨ua, hcl⟩ := lit8 wr wa T b0 b1 hwa
            have hHe : wa.cell? ⟨ab, ao + n * 3 + 1, none⟩ = some (.int .i64 Y) ∧ wa.cell? ⟨ab, ao + n * 3 + 2, none⟩ = some (.int .i64 Z) := ⟨(ua.cell (World.block_lt_of_cell? _ _ k1)).trans k1, (ua.cell (World.block_lt_of_cell? _ _ k2)).trans k2⟩
            clear hwa
            refine hK.out _ _ ?_ (fun _ => ?_)
            · exact hHe
            clear hK Kq
            try simp only [Act.put, List.setIfInBounds_toArray, List.set_cons_zero, List.set_cons_succ]
            refine wpAnyH_ready (rs := [7]) (by kernel_rfl) (by simp) ?_
            refine AllReadyH.cons (by simp only [List.getElem?_toArray, List.getElem?_cons_succ, List.getElem?_cons_zero]; rfl) (fun Kq hK => ?_) AllReadyH.nil
            go_simp
            refine (HY.out _).mono ?_
            rintro e w' ⟨rfl, hw'⟩
            obtain rfl := hw'.symm
            refine hK.out _ _ ?_ (fun _ => ?_)
            · exact hHe
            clear hK Kq
            try simp only [Act.put, List.setIfInBounds_toArray, List.set_cons_zero, List.set_cons_succ]
            refine wpAnyH_take (i := 8) (v := ?_) (by simp only [List.getElem?_toArray, List.getElem?_cons_succ, List.getElem?_cons_zero]; rfl) (by kernel_rfl) (by kernel_rfl) (by kernel_rfl) (by intro _ _ _ h; exact h) (Or.inl ⟨by rfl, ?_⟩) (by assumption) ?_
            rotate_left
            · (intro w hSw; (try dsimp only at hSw); go_simp <;> with_reducible rfl)
            try simp only [Act.put, List.setIfInBounds_toArray, List.set_cons_zero, List.set_cons_succ]
            refine wpAnyH_ready (rs := [9, 15]) (by kernel_rfl) (by simp) ?_
            refine AllReadyH.cons (by simp only [List.getElem?_toArray, List.getElem?_cons_succ, List.getElem?_cons_zero]; rfl) (fun Kq hK => ?_) ?_
            · go_simp
              refine hK.out _ _ ?_ (fun _ => ?_)
              · exact hHe
              clear hK Kq
              try simp only [Act.put, List.setIfInBounds_toArray, List.set_cons_zero, List.set_cons_succ]
              refine wpAnyH_ready (rs := [15]) (by kernel_rfl) (by simp) ?_
              refine AllReadyH.cons (by simp only [List.getElem?_toArray, List.getElem?_cons_succ, List.getElem?_cons_zero]; rfl) (fun Kq hK => ?_) AllReadyH.nil
              go_simp
              refine (HZ.out _).mono ?_
              rintro e w' ⟨rfl, hw'⟩
              obtain rfl := hw'.symm
              refine hK.out _ _ ?_ (fun _ => ?_)
              · exact hHe
              clear hK Kq
              try simp only [Act.put, List.setIfInBounds_toArray, List.set_cons_zero, List.set_cons_succ]
              refine wpAnyH_ready (rs := [16]) (by kernel_rfl) (by simp) ?_
              refine AllReadyH.cons (by simp only [List.getElem?_toArray, List.getElem?_cons_succ, List.getElem?_cons_zero]; rfl) (fun Kq hK => ?_) AllReadyH.nil
              go_simp
              refine (HC.out _ (HP.out.more ua)).mono ?_
              rintro e w2 ⟨rfl, h2⟩
              have P2 : Hid _ := h2
              refine hK.out _ _ ?_ (fun _ => ?_)
              · exact HL.out _ h2.up
              clear hK Kq h2
              try simp only [Act.put, List.setIfInBounds_toArray, List.set_cons_zero, List.set_cons_succ]
              refine wpAnyH_take (i := 17) (v := ?_) (by simp only [List.getElem?_toArray, List.getElem?_cons_succ, List.getElem?_cons_zero]; rfl) (by kernel_rfl) (by kernel_rfl) (by kernel_rfl) (by intro _ _ _ h; exact h) (Or.inl ⟨by rfl, ?_⟩) (by assumption) ?_
              rotate_left
              · (intro w hSw; (try dsimp only at hSw); go_simp <;> with_reducible rfl)
              try simp only [Act.put, List.setIfInBounds_toArray, List.set_cons_zero, List.set_cons_succ]
              refine wpAnyH_done (by kernel_rfl) ?_ _
              clear HC HY HZ HP k0 k1 k2 hHeld
              go_wp2_with fail
              refine ⟨⟨n + 1, by omega, by omega, rfl, ?_⟩, by simp [intOf]; omega⟩
              show Pb W0 K b (actsP f (p, zs) (n + 1)).1 (actsP f (p, zs) (n + 1)).2 w2
              rw [HN.out, HE.out]
              exact P2.out
            refine AllReadyH.cons (by simp only [List.getElem?_toArray, List.getElem?_cons_succ, List.getElem?_cons_zero]; rfl) (fun Kq hK => ?_) AllReadyH.nil
            go_simp
            refine (HZ.out _).mono ?_
            rintro e w' ⟨rfl, hw'⟩
            obtain rfl := hw'.symm
            refine hK.out _ _ ?_ (fun _ => ?_)
            · exact hHe
            clear hK Kq
            try simp only [Act.put, List.setIfInBounds_toArray, List.set_cons_zero, List.set_cons_succ]
            refine wpAnyH_ready (rs := [9]) (by kernel_rfl) (by simp) ?_
            refine AllReadyH.cons (by simp only [List.getElem?_toArray, List.getElem?_cons_succ, List.getElem?_cons_zero]; rfl) (fun Kq hK => ?_) AllReadyH.nil
            go_simp
            refine hK.out _ _ ?_ (fun _ => ?_)
            · exact hHe
            clear hK Kq
            try simp only [Act.put, List.setIfInBounds_toArray, List.set_cons_zero, List.set_cons_succ]
            refine wpAnyH_ready (rs := [16]) (by kernel_rfl) (by simp) ?_
            refine AllReadyH.cons (by simp only [List.getElem?_toArray, List.getElem?_cons_succ, List.getElem?_cons_zero]; rfl) (fun Kq hK => ?_) AllReadyH.nil
            go_simp
            refine (HC.out _ (HP.out.more ua)).mono ?_
            rintro e w2 ⟨rfl, h2⟩
            have P2 : Hid _ := h2
            refine hK.out _ _ ?_ (fun _ => ?_)
            · exact HL.out _ h2.up
            clear hK Kq h2
            try simp only [Act.put, List.setIfInBounds_toArray, List.set_cons_zero, List.set_cons_succ]
            refine wpAnyH_take (i := 17) (v := ?_) (by simp only [List.getElem?_toArray, List.getElem?_cons_succ, List.getElem?_cons_zero]; rfl) (by kernel_rfl) (by kernel_rfl) (by kernel_rfl) (by intro _ _ _ h; exact h) (Or.inl ⟨by rfl, ?_⟩) (by assumption) ?_
            rotate_left
            · (intro w hSw; (try dsimp only at hSw); go_simp <;> with_reducible rfl)
            try simp only [Act.put, List.setIfInBounds_toArray, List.set_cons_zero, List.set_cons_succ]
            refine wpAnyH_done (by kernel_rfl) ?_ _
            clear HC HY HZ HP k0 k1 k2 hHeld
            go_wp2_with fail
            refine ⟨⟨n + 1, by omega, by omega, rfl, ?_⟩, by simp [intOf]; omega⟩
            show Pb W0 K b (actsP f (p, zs) (n + 1)).1 (actsP f (p, zs) (n + 1)).2 w2
            rw [HN.out, HE.out]
            exact P2.out
          refine AllReadyH.cons (by simp only [List.getElem?_toArray, List.getElem?_cons_succ, List.getElem?_cons_zero]; rfl) (fun Kq hK => ?_) AllReadyH.nil
          go_simp
          refine (HY.out _).mono ?_
          rintro e w' ⟨rfl, hw'⟩
          obtain rfl := hw'.symm
          refine hK.out _ _ ?_ (fun _ => ?_)
          · exact hHd
          clear hK Kq
          try simp only [Act.put, List.setIfInBounds_toArray, List.set_cons_zero, List.set_cons_succ]
          refine wpAnyH_ready (rs := [1, 15]) (by kernel_rfl) (by simp) ?_
          refine AllReadyH.cons (by simp only [List.getElem?_toArray, List.getElem?_cons_succ, List.getElem?_cons_zero]; rfl) (fun Kq hK => ?_) ?_
          · go_simp
            generalize hwa : World.drew (World.alloc wr _) = wa
            obtain ⟨ua, hcl⟩ := lit8 wr wa T b0 b1 hwa
            have hHe : wa.cell? ⟨ab, ao + n * 3 + 1, none⟩ = some (.int .i64 Y) ∧ wa.cell? ⟨ab, ao + n * 3 + 2, none⟩ = some (.int .i64 Z) := ⟨(ua.cell (World.block_lt_of_cell? _ _ k1)).trans k1, (ua.cell (World.block_lt_of_cell? _ _ k2)).trans k2⟩
            clear hwa
            refine hK.out _ _ ?_ (fun _ => ?_)
            · exact hHe
            clear hK Kq
            try simp only [Act.put, List.setIfInBounds_toArray, List.set_cons_zero, List.set_cons_succ]
            refine wpAnyH_take (i := 8) (v := ?_) (by simp only [List.getElem?_toArray, List.getElem?_cons_succ, List.getElem?_cons_zero]; rfl) (by kernel_rfl) (by kernel_rfl) (by kernel_rfl) (by intro _ _ _ h; exact h) (Or.inl ⟨by rfl, ?_⟩) (by assumption) ?_
            rotate_left
            · (intro w hSw; (try dsimp only at hSw); go_simp <;> with_reducible rfl)
            try simp only [Act.put, List.setIfInBounds_toArray, List.set_cons_zero, List.set_cons_succ]
            refine wpAnyH_ready (rs := [9, 15]) (by kernel_rfl) (by simp) ?_
            refine AllReadyH.cons (by simp only [List.getElem?_toArray, List.getElem?_cons_succ, List.getElem?_cons_zero]; rfl) (fun Kq hK => ?_) ?_
            · go_simp
              refine hK.out _ _ ?_ (fun _ => ?_)
              · exact hHe
              clear hK Kq
              try simp only [Act.put, List.setIfInBounds_toArray, List.set_cons_zero, List.set_cons_succ]
              refine wpAnyH_ready (rs := [15]) (by kernel_rfl) (by simp) ?_
              refine AllReadyH.cons (by simp only [List.getElem?_toArray, List.getElem?_cons_succ, List.getElem?_cons_zero]; rfl) (fun Kq hK => ?_) AllReadyH.nil
              go_simp
              refine (HZ.out _).mono ?_
              rintro e w' ⟨rfl, hw'⟩
              obtain rfl := hw'.symm
              refine hK.out _ _ ?_ (fun _ => ?_)
              · exact hHe
              clear hK Kq
              try simp only [Act.put, List.setIfInBounds_toArray, List.set_cons_zero, List.set_cons_succ]
              refine wpAnyH_ready (rs := [16]) (by kernel_rfl) (by simp) ?_
              refine AllReadyH.cons (by simp only [List.getElem?_toArray, List.getElem?_cons_succ, List.getElem?_cons_zero]; rfl) (fun Kq hK => ?_) AllReadyH.nil
              go_simp
              refine (HC.out _ (HP.out.more ua)).mono ?_
              rintro e w2 ⟨rfl, h2⟩
              have P2 : Hid _ := h2
              refine hK.out _ _ ?_ (fun _ => ?_)
              · exact HL.out _ h2.up
              clear hK Kq h2
              try simp only [Act.put, List.setIfInBounds_toArray, List.set_cons_zero, List.set_cons_succ]
              refine wpAnyH_take (i := 17) (v := ?_) (by simp only [List.getElem?_toArray, List.getElem?_cons_succ, List.getElem?_cons_zero]; rfl) (by kernel_rfl) (by kernel_rfl) (by kernel_rfl) (by intro _ _ _ h; exact h) (Or.inl ⟨by rfl, ?_⟩) (by assumption) ?_
              rotate_left
              · (intro w hSw; (try dsimp only at hSw); go_simp <;> with_reducible rfl)
              try simp only [Act.put, List.setIfInBounds_toArray, List.set_cons_zero, List.set_cons_succ]
              refine wpAnyH_done (by kernel_rfl) ?_ _
              clear HC HY HZ HP k0 k1 k2 hHeld
              go_wp2_with fail
              refine ⟨⟨n + 1, by omega, by omega, rfl, ?_⟩, by simp [intOf]; omega⟩
              show Pb W0 K b (actsP f (p, zs) (n + 1)).1 (actsP f (p, zs) (n + 1)).2 w2
              rw [HN.out, HE.out]
              exact P2.out
            refine AllReadyH.cons (by simp only [List.getElem?_toArray, List.getElem?_cons_succ, List.getElem?_cons_zero]; rfl) (fun Kq hK => ?_) AllReadyH.nil
            go_simp
            refine (HZ.out _).mono ?_
            rintro e w' ⟨rfl, hw'⟩
            obtain rfl := hw'.symm
            refine hK.out _ _ ?_ (fun _ => ?_)
            · exact hHe
            clear hK Kq
            try simp only [Act.put, List.setIfInBounds_toArray, List.set_cons_zero, List.set_cons_succ]
            refine wpAnyH_ready (rs := [9]) (by kernel_rfl) (by simp) ?_
            refine AllReadyH.cons (by simp only [List.getElem?_toArray, List.getElem?_cons_succ, List.getElem?_cons_zero]; rfl) (fun Kq hK => ?_) AllReadyH.nil
            go_simp
            refine hK.out _ _ ?_ (fun _ => ?_)
            · exact hHe
            clear hK Kq
            try simp only [Act.put, List.setIfInBounds_toArray, List.set_cons_zero, List.set_cons_succ]
            refine wpAnyH_ready (rs := [16]) (by kernel_rfl) (by simp) ?_
            refine AllReadyH.cons (by simp only [List.getElem?_toArray, List.getElem?_cons_succ, List.getElem?_cons_zero]; rfl) (fun Kq hK => ?_) AllReadyH.nil
            go_simp
            refine (HC.out _ (HP.out.more ua)).mono ?_
            rintro e w2 ⟨rfl, h2⟩
            have P2 : Hid _ := h2
            refine hK.out _ _ ?_ (fun _ => ?_)
            · exact HL.out _ h2.up
            clear hK Kq h2
            try simp only [Act.put, List.setIfInBounds_toArray, List.set_cons_zero, List.set_cons_succ]
            refine wpAnyH_take (i := 17) (v := ?_) (by simp only [List.getElem?_toArray, List.getElem?_cons_succ, List.getElem?_cons_zero]; rfl) (by kernel_rfl) (by kernel_rfl) (by kernel_rfl) (by intro _ _ _ h; exact h) (Or.inl ⟨by rfl, ?_⟩) (by assumption) ?_
            rotate_left
            · (intro w hSw; (try dsimp only at hSw); go_simp <;> with_reducible rfl)
            try simp only [Act.put, List.setIfInBounds_toArray, List.set_cons_zero, List.set_cons_succ]
            refine wpAnyH_done (by kernel_rfl) ?_ _
            clear HC HY HZ HP k0 k1 k2 hHeld
            go_wp2_with fail
            refine ⟨⟨n + 1, by omega, by omega, rfl, ?_⟩, by simp [intOf]; omega⟩
            show Pb W0 K b (actsP f (p, zs) (n + 1)).1 (actsP f (p, zs) (n + 1)).2 w2
            rw [HN.out, HE.out]
            exact P2.out
          refine AllReadyH.cons (by simp only [List.getElem?_toArray, List.getElem?_cons_succ, List.getElem?_cons_zero]; rfl) (fun Kq hK => ?_) AllReadyH.nil
          go_simp
          refine (HZ.out _).mono ?_
          rintro e w' ⟨rfl, hw'⟩
          obtain rfl := hw'.symm
          refine hK.out _ _ ?_ (fun _ => ?_)
          · exact hHd
          clear hK Kq
          try simp only [Act.put, List.setIfInBounds_toArray, List.set_cons_zero, List.set_cons_succ]
          refine wpAnyH_ready (rs := [1]) (by kernel_rfl) (by simp) ?_
          refine AllReadyH.cons (by simp only [List.getElem?_toArray, List.getElem?_cons_succ, List.getElem?_cons_zero]; rfl) (fun Kq hK => ?_) AllReadyH.nil
          go_simp
          generalize hwa : World.drew (World.alloc wr _) = wa
          obtain ⟨ua, hcl⟩ := lit8 wr wa T b0 b1 hwa
          have hHe : wa.cell? ⟨ab, ao + n * 3 + 1, none⟩ = some (.int .i64 Y) ∧ wa.cell? ⟨ab, ao + n * 3 + 2, none⟩ = some (.int .i64 Z) := ⟨(ua.cell (World.block_lt_of_cell? _ _ k1)).trans k1, (ua.cell (World.block_lt_of_cell? _ _ k2)).trans k2⟩
          clear hwa
          refine hK.out _ _ ?_ (fun _ => ?_)
          · exact hHe
          clear hK Kq
          try simp only [Act.put, List.setIfInBounds_toArray, List.set_cons_zero, List.set_cons_succ]
          refine wpAnyH_take (i := 8) (v := ?_) (by simp only [List.getElem?_toArray, List.getElem?_cons_succ, List.getElem?_cons_zero]; rfl) (by kernel_rfl) (by kernel_rfl) (by kernel_rfl) (by intro _ _ _ h; exact h) (Or.inl ⟨by rfl, ?_⟩) (by assumption) ?_
          rotate_left
          · (intro w hSw; (try dsimp only at hSw); go_simp <;> with_reducible rfl)
          try simp only [Act.put, List.setIfInBounds_toArray, List.set_cons_zero, List.set_cons_succ]
          refine wpAnyH_ready (rs := [9]) (by kernel_rfl) (by simp) ?_
          refine AllReadyH.cons (by simp only [List.getElem?_toArray, List.getElem?_cons_succ, List.getElem?_cons_zero]; rfl) (fun Kq hK => ?_) AllReadyH.nil
          go_simp
          refine hK.out _ _ ?_ (fun _ => ?_)
          · exact hHe
          clear hK Kq
          try simp only [Act.put, List.setIfInBounds_toArray, List.set_cons_zero, List.set_cons_succ]
          refine wpAnyH_ready (rs := [16]) (by kernel_rfl) (by simp) ?_
          refine AllReadyH.cons (by simp only [List.getElem?_toArray, List.getElem?_cons_succ, List.getElem?_cons_zero]; rfl) (fun Kq hK => ?_) AllReadyH.nil
          go_simp
          refine (HC.out _ (HP.out.more ua)).mono ?_
          rintro e w2 ⟨rfl, h2⟩
          have P2 : Hid _ := h2
          refine hK.out _ _ ?_ (fun _ => ?_)
          · exact HL.out _ h2.up
          clear hK Kq h2
          try simp only [Act.put, List.setIfInBounds_toArray, List.set_cons_zero, List.set_cons_succ]
          refine wpAnyH_take (i := 17) (v := ?_) (by simp only [List.getElem?_toArray, List.getElem?_cons_succ, List.getElem?_cons_zero]; rfl) (by kernel_rfl) (by kernel_rfl) (by kernel_rfl) (by intro _ _ _ h; exact h) (Or.inl ⟨by rfl, ?_⟩) (by assumption) ?_
          rotate_left
          · (intro w hSw; (try dsimp only at hSw); go_simp <;> with_reducible rfl)
          try simp only [Act.put, List.setIfInBounds_toArray, List.set_cons_zero, List.set_cons_succ]
          refine wpAnyH_done (by kernel_rfl) ?_ _
          clear HC HY HZ HP k0 k1 k2 hHeld
          go_wp2_with fail
          refine ⟨⟨n + 1, by omega, by omega, rfl, ?_⟩, by simp [intOf]; omega⟩
          show Pb W0 K b (actsP f (p, zs) (n + 1)).1 (actsP f (p, zs) (n + 1)).2 w2
          rw [HN.out, HE.out]
          exact P2.out
        · have HK : Hid (∀ W, Calls Tryd.prog 14 #[.int .i64 X, .int .i64 6] W fun e w' => e = .returned (.int .i64 4) ∧ w' = W) := fun W => by have := HPk.out X 6 W i0 (by decide) (by decide); rw [hk] at this; exact this
          have HY : Hid (∀ W, Calls Tryd.prog 14 #[.int .i64 Y, .int .i64 256] W fun e w' => e = .returned (.int .i64 (pickI Y 256)) ∧ w' = W) := fun W => HPk.out Y 256 W i1 (by decide) (by decide)
          have b0 := pickI_lo Y 256 (by decide)
          have b1 := pickI_hi Y 256 (by decide)
          have HE : Hid (actP (q, us) X Y Z = (q.keysThen { q with bu := pickI Y 256 }, us)) := by show _ = _; unfold actP; rw [hk]; rfl
          have HC : Hid _ := HP.out.press (pickI Y 256) b0 (by omega)
          clear hk HPk
          generalize pickI Y 256 = T at *
          go_wp2_with fail
          refine (HK.out _).mono ?_
          rintro e w' ⟨rfl, hw'⟩
          obtain rfl := hw'.symm
          go_wp2_with fail
          refine (HY.out _).mono ?_
          rintro e w' ⟨rfl, hw'⟩
          obtain rfl := hw'.symm
          go_wp2_with fail
          refine Calls.mono HC.out ?_
          rintro e w2 ⟨rfl, h2⟩
          have P2 : Hid _ := h2
          clear h2 HC HY HK HP k0 k1 k2
          go_wp2_with fail
          refine ⟨⟨n + 1, by omega, by omega, rfl, ?_⟩, by simp [intOf]; omega⟩
          show Pb W0 K b (actsP f (p, zs) (n + 1)).1 (actsP f (p, zs) (n + 1)).2 w2
          rw [HN.out, HE.out]
          exact P2.out
        · have HK : Hid (∀ W, Calls Tryd.prog 14 #[.int .i64 X, .int .i64 6] W fun e w' => e = .returned (.int .i64 5) ∧ w' = W) := fun W => by have := HPk.out X 6 W i0 (by decide) (by decide); rw [hk] at this; exact this
          have HY : Hid (∀ W, Calls Tryd.prog 14 #[.int .i64 Y, .int .i64 5] W fun e w' => e = .returned (.int .i64 (pickI Y 5)) ∧ w' = W) := fun W => HPk.out Y 5 W i1 (by decide) (by decide)
          have b0 := pickI_lo Y 5 (by decide)
          have b1 := pickI_hi Y 5 (by decide)
          have HE : Hid (actP (q, us) X Y Z = (q.take (pickI Y 5), us)) := by show _ = _; unfold actP; rw [hk]; rfl
          have HC : Hid _ := HP.out.take (pickI Y 5) b0 (by omega)
          clear hk HPk
          generalize pickI Y 5 = T at *
          go_wp2_with fail
          refine (HK.out _).mono ?_
          rintro e w' ⟨rfl, hw'⟩
          obtain rfl := hw'.symm
          go_wp2_with fail
          refine (HY.out _).mono ?_
          rintro e w' ⟨rfl, hw'⟩
          obtain rfl := hw'.symm
          go_wp2_with fail
          refine Calls.mono HC.out ?_
          rintro e w2 ⟨rfl, h2⟩
          have P2 : Hid _ := h2
          clear h2 HC HY HK HP k0 k1 k2
          go_wp2_with fail
          refine ⟨⟨n + 1, by omega, by omega, rfl, ?_⟩, by simp [intOf]; omega⟩
          show Pb W0 K b (actsP f (p, zs) (n + 1)).1 (actsP f (p, zs) (n + 1)).2 w2
          rw [HN.out, HE.out]
          exact P2.out
      · have d1 : decide ((n : Int) < (len : Int)) = true := decide_eq_true (by omega)
        have d2 : decide ((n : Int) < 200) = false := decide_eq_false (by omega)
        have HM : Hid (min len 200 = n) := by show _ = _; omega
        go_wp2_with fail
        go_ret
        refine ⟨rfl, ?_⟩
        rw [HM.out]
        exact HP.out
    · have d1 : decide ((n : Int) < (len : Int)) = false := decide_eq_false (by omega)
      have HM : Hid (min len 200 = n) := by show _ = _; omega
      go_wp2_with fail
      go_ret
      refine ⟨rfl, ?_⟩
      rw [HM.out]
      exact HP.out
end Go.Proofs.YteomldlmdpphaaaDoor
