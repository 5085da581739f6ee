/- Two ports, and memory beside them that stays. -/
import Derived.Test.YteomldlmdpphaaaDoorPpH
namespace Go.Proofs.YteomldlmdpphaaaDoor
open Go.RowKit
set_option linter.unusedVariables false
variable {b : Nat} {p : Po}
theorem up_of_same {v : Value} {W w' : World} (h1 : PoAt W b p v) (h2 : PoAt w' b p v) (f : Fr b W w') : Up W w' :=
  ⟨f.os, f.output, f.size, fun k hk => by
    by_cases e : k = b
    · rw [e]; exact Eq.trans (show w'.heap[b]? = _ from h2) (show W.heap[b]? = _ from h1).symm
    · exact f.block k hk e⟩
theorem Pb.doesU {W0 : World} {K : List (Nat × Obj)} {zs : List Int} {W : World} {f : Nat} {args : Array Value} {r : Value} (h : Pb W0 K b p zs W)
    (D : ∀ v W, PoAt W b p v → LaidP W → Calls Tryd.prog f args W fun e w' => e = .returned r ∧ PoAt w' b p v ∧ Fr b W w') :
    Calls Tryd.prog f args W fun e w' => e = .returned r ∧ Up W w' := by
  obtain ⟨v, h1, h2, h3⟩ := h.row
  exact (D v W h1 h.laidW).mono fun e w' ⟨he, g1, g2⟩ => ⟨he, up_of_same h1 g1 g2⟩
theorem Pb.readU {W0 : World} {K : List (Nat × Obj)} {zs : List Int} {W : World} (h : Pb W0 K b p zs W) (n : Nat) (hn : n < 16) (a : Int) (ha : a = 65280 + (n : Int)) :
    Calls Tryd.prog 19 #[.pointer (some ⟨b, 0, none⟩), .int .i64 a] W fun e w' => e = .returned (.tuple #[.int .i64 (p.rv n), .int .i64 (reN n)]) ∧ Up W w' := by
  have o := h.ok
  have : n = 0 ∨ n = 1 ∨ n = 2 ∨ n = 3 ∨ n = 4 ∨ n = 5 ∨ n = 6 ∨ n = 7 ∨ n = 8 ∨ n = 9 ∨ n = 10 ∨ n = 11 ∨ n = 12 ∨ n = 13 ∨ n = 14 ∨ n = 15 := by omega
  subst ha
  rcases this with rfl | rfl | rfl | rfl | rfl | rfl | rfl | rfl | rfl | rfl | rfl | rfl | rfl | rfl | rfl | rfl
  · exact h.doesU fun v W h1 _ => read65280 o _ rfl (Po.rd_b o 0).1 (Po.rd_b o 0).2 v W h1
  · exact h.doesU fun v W h1 _ => read65281 o _ rfl (Po.rd_b o 1).1 (Po.rd_b o 1).2 v W h1
  · exact h.doesU fun v W h1 _ => read65282 o _ rfl (Po.rd_b o 2).1 (Po.rd_b o 2).2 v W h1
  · exact h.doesU fun v W h1 _ => read65283 v W h1
  · exact h.doesU fun v W h1 _ => read65284 o _ rfl (Po.rd_b o 3).1 (Po.rd_b o 3).2 v W h1
  · exact h.doesU fun v W h1 _ => read65285 o _ rfl (Po.rd_b o 4).1 (Po.rd_b o 4).2 v W h1
  · exact h.doesU fun v W h1 _ => read65286 o _ rfl (Po.rd_b o 5).1 (Po.rd_b o 5).2 v W h1
  · exact h.doesU fun v W h1 _ => read65287 o _ rfl (Po.rd_b o 6).1 (Po.rd_b o 6).2 v W h1
  · exact h.doesU fun v W h1 _ => read65288 v W h1
  · exact h.doesU fun v W h1 _ => read65289 v W h1
  · exact h.doesU fun v W h1 _ => read65290 v W h1
  · exact h.doesU fun v W h1 _ => read65291 v W h1
  · exact h.doesU fun v W h1 _ => read65292 v W h1
  · exact h.doesU fun v W h1 _ => read65293 v W h1
  · exact h.doesU fun v W h1 _ => read65294 v W h1
  · exact h.doesU fun v W h1 _ => read65295 o _ rfl (Po.rd_b o 7).1 (Po.rd_b o 7).2 v W h1
set_option maxRecDepth 100000 in
set_option maxHeartbeats 2000000 in
theorem Two.alikeU {W0 W : World} {bp bq : Nat} {p : Po} {zp zq : List Int} (h : Two W0 bp p zp bq p zq W) :
    Calls Tryd.prog 23 #[.pointer (some ⟨bp, 0, none⟩), .pointer (some ⟨bq, 0, none⟩)] W fun e w' => e = .returned (.bool true) ∧ Up W w' := by
  have H : Hid (Two W0 bp p zp bq p zq W) := h
  clear h
  go_enter Tryd.func23, Tryd.ntmps23
  go_wp2_with fail
  go_loopw [5] (fun I wr => ∃ n : Nat, n ≤ 16 ∧ I = .int .i64 (65280 + (n : Int)) ∧ Hid (Two W0 bp p zp bq p zq wr) ∧ Hid (Up W wr)) (fun I _ => 70000 - (intOf I).toNat)
  case atStart => exact ⟨0, by omega, rfl, H, Up.refl W⟩
  case round =>
    obtain ⟨n, hn, rfl, T, HU⟩ := hrel
    by_cases hl : n < 16
    · have d1 : decide ((65280 + (n : Int)) < 65296) = true := decide_eq_true (by omega)
      have n1 : (p.rv n != p.rv n) = false := by simp
      have n2 : (reN n != reN n) = false := by simp
      have H1 : Hid _ := T.out.fst.readU n hl (65280 + (n : Int)) rfl
      go_wp2_with fail
      refine Calls.mono H1.out ?_
      rintro e w1 ⟨rfl, k1⟩
      have T1 : Hid _ := T.out.more k1
      have HU1 : Hid _ := HU.out.trans k1
      have H2 : Hid _ := T1.out.symm.fst.readU n hl (65280 + (n : Int)) rfl
      clear k1 H1 HU
      go_wp2_with fail
      refine Calls.mono H2.out ?_
      rintro e w2 ⟨rfl, k2⟩
      have T2 : Hid _ := T1.out.more k2
      have HU2 : Hid _ := HU1.out.trans k2
      clear k2 H2 T1 HU1
      go_wp2_with fail
      refine ⟨⟨n + 1, by omega, ?_, T2, HU2⟩, ?_⟩
      · congr 1
      · simp [intOf]
        omega
    · have d1 : decide ((65280 + (n : Int)) < 65296) = false := decide_eq_false (by omega)
      have n1 : (p.rq == p.rq) = true := by simp
      go_wp2_with fail
      refine wp_region_held_drew (S := fun _ => True) (by kernel_rfl) trivial (fun hHeld => ?_)
      have T0 : Hid _ := T.out.more ((Up.refl wr).drew)
      have V0 : Hid _ := HU.out.trans ((Up.refl wr).drew)
      clear T HU
      refine wpAnyH_take (i := 0) (v := ?_) (by simp only [List.getElem?_toArray, List.getElem?_cons_zero]; rfl) (by kernel_rfl) (by kernel_rfl) (by kernel_rfl) (by intro _ _ _ h; exact h) (Or.inl ⟨by rfl, ?_⟩) (by assumption) ?_
      rotate_left
      · (intro w hSw; (try dsimp only at hSw); go_simp <;> with_reducible rfl)
      try simp only [Act.put, List.setIfInBounds_toArray, List.set_cons_zero, List.set_cons_succ]
      refine wpAnyH_take (i := 2) (v := ?_) (by simp only [List.getElem?_toArray, List.getElem?_cons_succ, List.getElem?_cons_zero]; rfl) (by kernel_rfl) (by kernel_rfl) (by kernel_rfl) (by intro _ _ _ h; exact h) (Or.inl ⟨by rfl, ?_⟩) (by assumption) ?_
      rotate_left
      · (intro w hSw; (try dsimp only at hSw); go_simp <;> with_reducible rfl)
      try simp only [Act.put, List.setIfInBounds_toArray, List.set_cons_zero, List.set_cons_succ]
      refine wpAnyH_ready (rs := [1]) (by kernel_rfl) (by simp) ?_
      refine AllReadyH.cons (by simp only [List.getElem?_toArray, List.getElem?_cons_succ, List.getElem?_cons_zero]; rfl) (fun Kq hK => ?_) AllReadyH.nil
      go_simp
      refine (T0.out.fst.reqs).mono ?_
      rintro e w' ⟨rfl, hw'⟩
      obtain rfl := hw'.symm
      refine hK.out _ _ trivial (fun _ => ?_)
      clear hK Kq
      try simp only [Act.put, List.setIfInBounds_toArray, List.set_cons_zero, List.set_cons_succ]
      refine wpAnyH_ready (rs := [3]) (by kernel_rfl) (by simp) ?_
      refine AllReadyH.cons (by simp only [List.getElem?_toArray, List.getElem?_cons_succ, List.getElem?_cons_zero]; rfl) (fun Kq hK => ?_) AllReadyH.nil
      go_simp
      refine (T0.out.symm.fst.reqs).mono ?_
      rintro e w' ⟨rfl, hw'⟩
      obtain rfl := hw'.symm
      refine hK.out _ _ trivial (fun _ => ?_)
      clear hK Kq
      try simp only [Act.put, List.setIfInBounds_toArray, List.set_cons_zero, List.set_cons_succ]
      refine wpAnyH_take (i := 4) (v := ?_) (by simp only [List.getElem?_toArray, List.getElem?_cons_succ, List.getElem?_cons_zero]; rfl) (by kernel_rfl) (by kernel_rfl) (by kernel_rfl) (by intro _ _ _ h; exact h) (Or.inl ⟨by rfl, ?_⟩) (by assumption) ?_
      rotate_left
      · (intro w hSw; (try dsimp only at hSw); go_simp <;> with_reducible rfl)
      try simp only [Act.put, List.setIfInBounds_toArray, List.set_cons_zero, List.set_cons_succ]
      refine wpAnyH_take (i := 5) (v := ?_) (by simp only [List.getElem?_toArray, List.getElem?_cons_succ, List.getElem?_cons_zero]; rfl) (by kernel_rfl) (by kernel_rfl) (by kernel_rfl) (by intro _ _ _ h; exact h) (Or.inl ⟨by rfl, ?_⟩) (by assumption) ?_
      rotate_left
      · (intro w hSw; (try dsimp only at hSw); go_simp <;> with_reducible rfl)
      try simp only [Act.put, List.setIfInBounds_toArray, List.set_cons_zero, List.set_cons_succ]
      refine wpAnyH_take (i := 6) (v := ?_) (by simp only [List.getElem?_toArray, List.getElem?_cons_succ, List.getElem?_cons_zero]; rfl) (by kernel_rfl) (by kernel_rfl) (by kernel_rfl) (by intro _ _ _ h; exact h) (Or.inl ⟨by rfl, ?_⟩) (by assumption) ?_
      rotate_left
      · (intro w hSw; (try dsimp only at hSw); go_simp <;> with_reducible rfl)
      try simp only [Act.put, List.setIfInBounds_toArray, List.set_cons_zero, List.set_cons_succ]
      refine wpAnyH_take (i := 9) (v := ?_) (by simp only [List.getElem?_toArray, List.getElem?_cons_succ, List.getElem?_cons_zero]; rfl) (by kernel_rfl) (by kernel_rfl) (by kernel_rfl) (by intro _ _ _ h; exact h) (Or.inl ⟨by rfl, ?_⟩) (by assumption) ?_
      rotate_left
      · (intro w hSw; (try dsimp only at hSw); go_simp <;> with_reducible rfl)
      try simp only [Act.put, List.setIfInBounds_toArray, List.set_cons_zero, List.set_cons_succ]
      refine wpAnyH_ready (rs := [7]) (by kernel_rfl) (by simp) ?_
      refine AllReadyH.cons (by simp only [List.getElem?_toArray, List.getElem?_cons_succ, List.getElem?_cons_zero]; rfl) (fun Kq hK => ?_) AllReadyH.nil
      go_simp
      refine (T0.out.fst.state).mono ?_
      rintro e w1 ⟨rfl, B1, u1⟩
      replace B1 : Bs w1 (.slice (some ⟨wr.heap.size, 0, none⟩) 19 19) (stB p) := B1
      have T1 : Hid _ := T0.out.more u1
      have V1 : Hid _ := V0.out.trans u1
      have cv1 := B1.conv
      have HB1 : Hid _ := B1
      clear T0 u1 B1
      refine hK.out _ _ trivial (fun _ => ?_)
      clear hK Kq
      try simp only [Act.put, List.setIfInBounds_toArray, List.set_cons_zero, List.set_cons_succ]
      refine wpAnyH_ready (rs := [8, 10]) (by kernel_rfl) (by simp) ?_
      refine AllReadyH.cons (by simp only [List.getElem?_toArray, List.getElem?_cons_succ, List.getElem?_cons_zero]; rfl) (fun Kq hK => ?_) ?_
      · go_simp
        refine hK.out _ _ trivial (fun _ => ?_)
        clear hK Kq
        try simp only [Act.put, List.setIfInBounds_toArray, List.set_cons_zero, List.set_cons_succ]
        refine wpAnyH_ready (rs := [10]) (by kernel_rfl) (by simp) ?_
        refine AllReadyH.cons (by simp only [List.getElem?_toArray, List.getElem?_cons_succ, List.getElem?_cons_zero]; rfl) (fun Kq hK => ?_) AllReadyH.nil
        go_simp
        refine (T1.out.symm.fst.state).mono ?_
        rintro e w2 ⟨rfl, B2, u2⟩
        have T2 : Hid _ := T1.out.more u2
        have V2 : Hid _ := V1.out.trans u2
        have cv2 := B2.conv
        have cv3 := (Bs.up HB1.out u2).conv
        clear T1 u2 B2 cv1
        refine hK.out _ _ trivial (fun _ => ?_)
        clear hK Kq
        try simp only [Act.put, List.setIfInBounds_toArray, List.set_cons_zero, List.set_cons_succ]
        refine wpAnyH_ready (rs := [11]) (by kernel_rfl) (by simp) ?_
        refine AllReadyH.cons (by simp only [List.getElem?_toArray, List.getElem?_cons_succ, List.getElem?_cons_zero]; rfl) (fun Kq hK => ?_) AllReadyH.nil
        go_simp
        refine hK.out _ _ trivial (fun _ => ?_)
        clear hK Kq
        try simp only [Act.put, List.setIfInBounds_toArray, List.set_cons_zero, List.set_cons_succ]
        refine wpAnyH_take (i := 12) (v := ?_) (by simp only [List.getElem?_toArray, List.getElem?_cons_succ, List.getElem?_cons_zero]; rfl) (by kernel_rfl) (by kernel_rfl) (by kernel_rfl) (by intro _ _ _ h; exact h) (Or.inl ⟨by rfl, ?_⟩) (by assumption) ?_
        rotate_left
        · (intro w hSw; (try dsimp only at hSw); go_simp <;> with_reducible rfl)
        try simp only [Act.put, List.setIfInBounds_toArray, List.set_cons_zero, List.set_cons_succ]
        refine wpAnyH_take (i := 13) (v := ?_) (by simp only [List.getElem?_toArray, List.getElem?_cons_succ, List.getElem?_cons_zero]; rfl) (by kernel_rfl) (by kernel_rfl) (by kernel_rfl) (by intro _ _ _ h; exact h) (Or.inl ⟨by rfl, ?_⟩) (by assumption) ?_
        rotate_left
        · (intro w hSw; (try dsimp only at hSw); go_simp <;> with_reducible rfl)
        try simp only [Act.put, List.setIfInBounds_toArray, List.set_cons_zero, List.set_cons_succ]
        refine wpAnyH_take (i := 14) (v := ?_) (by simp only [List.getElem?_toArray, List.getElem?_cons_succ, List.getElem?_cons_zero]; rfl) (by kernel_rfl) (by kernel_rfl) (by kernel_rfl) (by intro _ _ _ h; exact h) (Or.inl ⟨by rfl, ?_⟩) (by assumption) ?_
        rotate_left
        · (intro w hSw; (try dsimp only at hSw); go_simp <;> with_reducible rfl)
        try simp only [Act.put, List.setIfInBounds_toArray, List.set_cons_zero, List.set_cons_succ]
        refine wpAnyH_done (by kernel_rfl) ?_ _
        go_wp2_with fail
        go_ret
        exact ⟨by first | rfl | exact retB (by simp), V2.out⟩
      refine AllReadyH.cons (by simp only [List.getElem?_toArray, List.getElem?_cons_succ, List.getElem?_cons_zero]; rfl) (fun Kq hK => ?_) AllReadyH.nil
      go_simp
      refine (T1.out.symm.fst.state).mono ?_
      rintro e w2 ⟨rfl, B2, u2⟩
      have T2 : Hid _ := T1.out.more u2
      have V2 : Hid _ := V1.out.trans u2
      have cv2 := B2.conv
      have cv3 := (Bs.up HB1.out u2).conv
      clear T1 u2 B2 cv1
      refine hK.out _ _ trivial (fun _ => ?_)
      clear hK Kq
      try simp only [Act.put, List.setIfInBounds_toArray, List.set_cons_zero, List.set_cons_succ]
      refine wpAnyH_ready (rs := [8, 11]) (by kernel_rfl) (by simp) ?_
      refine AllReadyH.cons (by simp only [List.getElem?_toArray, List.getElem?_cons_succ, List.getElem?_cons_zero]; rfl) (fun Kq hK => ?_) ?_
      · go_simp
        refine hK.out _ _ trivial (fun _ => ?_)
        clear hK Kq
        try simp only [Act.put, List.setIfInBounds_toArray, List.set_cons_zero, List.set_cons_succ]
        refine wpAnyH_ready (rs := [11]) (by kernel_rfl) (by simp) ?_
        refine AllReadyH.cons (by simp only [List.getElem?_toArray, List.getElem?_cons_succ, List.getElem?_cons_zero]; rfl) (fun Kq hK => ?_) AllReadyH.nil
        go_simp
        refine hK.out _ _ trivial (fun _ => ?_)
        clear hK Kq
        try simp only [Act.put, List.setIfInBounds_toArray, List.set_cons_zero, List.set_cons_succ]
        refine wpAnyH_take (i := 12) (v := ?_) (by simp only [List.getElem?_toArray, List.getElem?_cons_succ, List.getElem?_cons_zero]; rfl) (by kernel_rfl) (by kernel_rfl) (by kernel_rfl) (by intro _ _ _ h; exact h) (Or.inl ⟨by rfl, ?_⟩) (by assumption) ?_
        rotate_left
        · (intro w hSw; (try dsimp only at hSw); go_simp <;> with_reducible rfl)
        try simp only [Act.put, List.setIfInBounds_toArray, List.set_cons_zero, List.set_cons_succ]
        refine wpAnyH_take (i := 13) (v := ?_) (by simp only [List.getElem?_toArray, List.getElem?_cons_succ, List.getElem?_cons_zero]; rfl) (by kernel_rfl) (by kernel_rfl) (by kernel_rfl) (by intro _ _ _ h; exact h) (Or.inl ⟨by rfl, ?_⟩) (by assumption) ?_
        rotate_left
        · (intro w hSw; (try dsimp only at hSw); go_simp <;> with_reducible rfl)
        try simp only [Act.put, List.setIfInBounds_toArray, List.set_cons_zero, List.set_cons_succ]
        refine wpAnyH_take (i := 14) (v := ?_) (by simp only [List.getElem?_toArray, List.getElem?_cons_succ, List.getElem?_cons_zero]; rfl) (by kernel_rfl) (by kernel_rfl) (by kernel_rfl) (by intro _ _ _ h; exact h) (Or.inl ⟨by rfl, ?_⟩) (by assumption) ?_
        rotate_left
        · (intro w hSw; (try dsimp only at hSw); go_simp <;> with_reducible rfl)
        try simp only [Act.put, List.setIfInBounds_toArray, List.set_cons_zero, List.set_cons_succ]
        refine wpAnyH_done (by kernel_rfl) ?_ _
        go_wp2_with fail
        go_ret
        exact ⟨by first | rfl | exact retB (by simp), V2.out⟩
      refine AllReadyH.cons (by simp only [List.getElem?_toArray, List.getElem?_cons_succ, List.getElem?_cons_zero]; rfl) (fun Kq hK => ?_) AllReadyH.nil
      go_simp
      refine hK.out _ _ trivial (fun _ => ?_)
      clear hK Kq
      try simp only [Act.put, List.setIfInBounds_toArray, List.set_cons_zero, List.set_cons_succ]
      refine wpAnyH_ready (rs := [8]) (by kernel_rfl) (by simp) ?_
      refine AllReadyH.cons (by simp only [List.getElem?_toArray, List.getElem?_cons_succ, List.getElem?_cons_zero]; rfl) (fun Kq hK => ?_) AllReadyH.nil
      go_simp
      refine hK.out _ _ trivial (fun _ => ?_)
      clear hK Kq
      try simp only [Act.put, List.setIfInBounds_toArray, List.set_cons_zero, List.set_cons_succ]
      refine wpAnyH_take (i := 12) (v := ?_) (by simp only [List.getElem?_toArray, List.getElem?_cons_succ, List.getElem?_cons_zero]; rfl) (by kernel_rfl) (by kernel_rfl) (by kernel_rfl) (by intro _ _ _ h; exact h) (Or.inl ⟨by rfl, ?_⟩) (by assumption) ?_
      rotate_left
      · (intro w hSw; (try dsimp only at hSw); go_simp <;> with_reducible rfl)
      try simp only [Act.put, List.setIfInBounds_toArray, List.set_cons_zero, List.set_cons_succ]
      refine wpAnyH_take (i := 13) (v := ?_) (by simp only [List.getElem?_toArray, List.getElem?_cons_succ, List.getElem?_cons_zero]; rfl) (by kernel_rfl) (by kernel_rfl) (by kernel_rfl) (by intro _ _ _ h; exact h) (Or.inl ⟨by rfl, ?_⟩) (by assumption) ?_
      rotate_left
      · (intro w hSw; (try dsimp only at hSw); go_simp <;> with_reducible rfl)
      try simp only [Act.put, List.setIfInBounds_toArray, List.set_cons_zero, List.set_cons_succ]
      refine wpAnyH_take (i := 14) (v := ?_) (by simp only [List.getElem?_toArray, List.getElem?_cons_succ, List.getElem?_cons_zero]; rfl) (by kernel_rfl) (by kernel_rfl) (by kernel_rfl) (by intro _ _ _ h; exact h) (Or.inl ⟨by rfl, ?_⟩) (by assumption) ?_
      rotate_left
      · (intro w hSw; (try dsimp only at hSw); go_simp <;> with_reducible rfl)
      try simp only [Act.put, List.setIfInBounds_toArray, List.set_cons_zero, List.set_cons_succ]
      refine wpAnyH_done (by kernel_rfl) ?_ _
      go_wp2_with fail
      go_ret
      exact ⟨by first | rfl | exact retB (by simp), V2.out⟩
/-- blocks that stay beside two ports -/
structure TwoK (X : List (Nat × Obj)) (W0 : World) (bp : Nat) (p : Po) (zp : List Int) (bq : Nat) (q : Po) (zq : List Int) (W : World) : Prop where
  laid : LaidP W0
  okp : p.Ok
  okq : q.Ok
  lp : zp.length ≤ 256
  lq : zq.length ≤ 256
  np : W0.heap.size ≤ bp
  nq : W0.heap.size ≤ bq
  up : Up W0 W
  row : ∃ vp vq, PoAt W bp p vp ∧ SeAt W (bp + 1) vp zp ∧ PoAt W bq q vq ∧ SeAt W (bq + 1) vq zq ∧ (bp ≠ bq ∧ vp.ownBlock ≠ some bq ∧ vq.ownBlock ≠ some bp ∧ ∀ g, vp.ownBlock = some g → vq.ownBlock ≠ some g) ∧ ∀ k o, (k, o) ∈ X → W.heap[k]? = some o ∧ k ≠ bp ∧ k ≠ bq ∧ vp.ownBlock ≠ some k ∧ vq.ownBlock ≠ some k
section
variable {X : List (Nat × Obj)} {W0 W W' : World} {bp bq : Nat} {q p' : Po} {zp zq zp' : List Int}
theorem TwoK.two (h : TwoK X W0 bp p zp bq q zq W) : Two W0 bp p zp bq q zq W := by
  obtain ⟨vp, vq, h1, h2, h3, h4, h5, _⟩ := h.row
  exact ⟨h.laid, h.okp, h.okq, h.lp, h.lq, h.np, h.nq, h.up, vp, vq, h1, h2, h3, h4, h5⟩
theorem TwoK.of (h : Two W0 bp p zp bq q zq W) : TwoK [] W0 bp p zp bq q zq W := by
  obtain ⟨vp, vq, h1, h2, h3, h4, h5⟩ := h.row
  exact ⟨h.laid, h.okp, h.okq, h.lp, h.lq, h.np, h.nq, h.up, vp, vq, h1, h2, h3, h4, h5, fun k o hk => by cases hk⟩
theorem TwoK.symm (h : TwoK X W0 bp p zp bq q zq W) : TwoK X W0 bq q zq bp p zp W := by
  obtain ⟨vp, vq, h1, h2, h3, h4, ⟨h5, h6, h7, h8⟩, hX⟩ := h.row
  exact ⟨h.laid, h.okq, h.okp, h.lq, h.lp, h.nq, h.np, h.up, vq, vp, h3, h4, h1, h2, ⟨fun e => h5 e.symm, h7, h6, fun g e e' => h8 g e' e⟩, fun k o hk => ⟨(hX k o hk).1, (hX k o hk).2.2.1, (hX k o hk).2.1, (hX k o hk).2.2.2.2, (hX k o hk).2.2.2.1⟩⟩
theorem TwoK.more (h : TwoK X W0 bp p zp bq q zq W) (u : Up W W') : TwoK X W0 bp p zp bq q zq W' := by
  obtain ⟨vp, vq, h1, h2, h3, h4, h5, hX⟩ := h.row
  exact ⟨h.laid, h.okp, h.okq, h.lp, h.lq, h.np, h.nq, h.up.trans u, vp, vq, h1.up u, h2.up u, h3.up u, h4.up u, h5, fun k o hk => ⟨(u.block k (lt_of_some (hX k o hk).1)).trans (hX k o hk).1, (hX k o hk).2⟩⟩
theorem TwoK.kept (h : TwoK X W0 bp p zp bq q zq W) {k : Nat} {o : Obj} (hk : (k, o) ∈ X) : W.heap[k]? = some o := by
  obtain ⟨vp, vq, h1, h2, h3, h4, h5, hX⟩ := h.row
  exact (hX k o hk).1
/-- a new block stays, too -/
theorem TwoK.keep (h : TwoK X W0 bp p zp bq q zq W) (u : Up W W') (k : Nat) (o : Obj) (hk : W.heap.size ≤ k) (ho : W'.heap[k]? = some o) : TwoK ((k, o) :: X) W0 bp p zp bq q zq W' := by
  have h' := h.more u
  obtain ⟨vp, vq, h1, h2, h3, h4, h5, hX⟩ := h.row
  refine ⟨h.laid, h.okp, h.okq, h.lp, h.lq, h.np, h.nq, h.up.trans u, vp, vq, h1.up u, h2.up u, h3.up u, h4.up u, h5, fun k' o' hk' => ?_⟩
  rcases List.mem_cons.1 hk' with e | hk'
  · injection e with e1 e2
    subst e1 e2
    refine ⟨ho, by have := h1.lt; omega, by have := h3.lt; omega, fun e => ?_, fun e => ?_⟩
    · have := (h2.lt _ e).2
      omega
    · have := (h4.lt _ e).2
      omega
  · exact ⟨(u.block k' (lt_of_some (hX k' o' hk').1)).trans (hX k' o' hk').1, (hX k' o' hk').2⟩
theorem TwoK.left {f : Nat} {args : Array Value} {r : Value} (h : TwoK X W0 bp p zp bq q zq W)
    (C : ∀ K, Pb W0 K bp p zp W → Calls Tryd.prog f args W fun e w' => e = .returned r ∧ Pb W0 K bp p' zp' w') :
    Calls Tryd.prog f args W fun e w' => e = .returned r ∧ TwoK X W0 bp p' zp' bq q zq w' := by
  obtain ⟨vp, vq, h1, h2, h3, h4, ⟨h5, h6, h7, h8⟩, hX⟩ := h.row
  have ob : ∀ g, vq.ownBlock = some g → ∃ o, W.heap[g]? = some o := fun g e => ⟨_, Array.getElem?_eq_getElem (h4.lt g e).2⟩
  obtain ⟨K, hK, hKq, hKr⟩ : ∃ K : List (Nat × Obj), (∀ k o, (k, o) ∈ K → W.heap[k]? = some o ∧ k ≠ bp ∧ vp.ownBlock ≠ some k) ∧ (∃ o, (bq, o) ∈ K) ∧ ∀ g, vq.ownBlock = some g → ∃ o, (g, o) ∈ K := by
    have hq0 : W.heap[bq]? = some (.cells (q.cells vq) 60 (0, 0)) := h3
    cases hv : vq.ownBlock with
    | none =>
      refine ⟨[(bq, .cells (q.cells vq) 60 (0, 0))], fun k o hk => ?_, ⟨_, List.mem_singleton.2 rfl⟩, fun g e => by cases e⟩
      have := List.mem_singleton.1 hk
      injection this with e1 e2
      subst e1 e2
      exact ⟨hq0, fun e => h5 e.symm, h6⟩
    | some g =>
      obtain ⟨og, hg⟩ := ob g hv
      refine ⟨[(bq, .cells (q.cells vq) 60 (0, 0)), (g, og)], fun k o hk => ?_, ⟨_, List.mem_cons_self ..⟩, fun g' e => ?_⟩
      · rcases List.mem_cons.1 hk with e | hk
        · injection e with e1 e2
          subst e1 e2
          exact ⟨hq0, fun e => h5 e.symm, h6⟩
        · have := List.mem_singleton.1 hk
          injection this with e1 e2
          subst e1 e2
          exact ⟨hg, fun e => h7 (by rw [hv, e]), fun e => h8 _ e hv⟩
      · injection e with e
        subst e
        exact ⟨og, List.mem_cons_of_mem _ (List.mem_singleton.2 rfl)⟩
  have hKX : ∀ k o, (k, o) ∈ X ++ K → W.heap[k]? = some o ∧ k ≠ bp ∧ vp.ownBlock ≠ some k := fun k o hk => by
    rcases List.mem_append.1 hk with hk | hk
    · exact ⟨(hX k o hk).1, (hX k o hk).2.1, (hX k o hk).2.2.2.1⟩
    · exact hK k o hk
  refine (C (X ++ K) ⟨h.laid, h.okp, h.lp, h.np, h.up, vp, h1, h2, hKX⟩).mono ?_
  rintro e w' ⟨rfl, g⟩
  obtain ⟨vp', g1, g2, g3⟩ := g.row
  have same : ∀ k o, (k, o) ∈ K → w'.heap[k]? = W.heap[k]? := fun k o hk => (g3 k o (List.mem_append_right _ hk)).1.trans (hK k o hk).1.symm
  obtain ⟨oq, hoq⟩ := hKq
  refine ⟨rfl, h.laid, g.ok, h.okq, g.len, h.lq, h.np, h.nq, g.up, vp', vq, g1, g2, (same bq oq hoq).trans h3, h4.of_block (fun k hk => ?_), ⟨h5, (g3 bq oq (List.mem_append_right _ hoq)).2.2, h7, fun g0 e e' => ?_⟩, fun k o hk => ?_⟩
  · obtain ⟨o, ho⟩ := hKr k hk
    exact same k o ho
  · obtain ⟨o, ho⟩ := hKr g0 e'
    exact (g3 g0 o (List.mem_append_right _ ho)).2.2 e
  · have y := g3 k o (List.mem_append_left _ hk)
    have z := hX k o hk
    exact ⟨y.1, y.2.1, z.2.2.1, y.2.2, z.2.2.2.2⟩
theorem TwoK.right {q' : Po} {zq' : List Int} {f : Nat} {args : Array Value} {r : Value} (h : TwoK X W0 bp p zp bq q zq W)
    (C : ∀ K, Pb W0 K bq q zq W → Calls Tryd.prog f args W fun e w' => e = .returned r ∧ Pb W0 K bq q' zq' w') :
    Calls Tryd.prog f args W fun e w' => e = .returned r ∧ TwoK X W0 bp p zp bq q' zq' w' :=
  (h.symm.left C).mono fun e w' ⟨h1, h2⟩ => ⟨h1, h2.symm⟩
end
/-- bytes that lie in a new block, or none -/
structure NewB (W w' : World) (v : Value) (zs : List Int) : Prop where
  bs : Bs w' v zs
  up : Up W w'
  form : v = .slice none 0 0 ∨ ∃ g o c obj, v = .slice (some ⟨g, o, none⟩) zs.length c ∧ W.heap.size ≤ g ∧ w'.heap[g]? = some obj
theorem NewB.ofOwn {W w' : World} {v : Value} {zs : List Int} (h : SeAt w' W.heap.size v zs) (u : Up W w') : NewB W w' v zs := by
  refine ⟨Bs.ofOwn h, u, ?_⟩
  rcases h.2 with ⟨hv, _⟩ | ⟨g, cap, cur, hv, hbase, hg, _⟩
  · exact Or.inl hv
  · exact Or.inr ⟨g, 0, cap, _, hv, hbase, hg⟩
theorem clone_new (base : Nat) (v : Value) (zs : List Int) (hn : zs.length ≤ 256) (W : World) (hS : SeAt W base v zs) :
    Calls Tryd.prog 43 #[v] W fun e w' => ∃ v', e = .returned v' ∧ NewB W w' v' zs := by
  rcases (Bs.ofOwn hS).at' with ⟨rfl, rfl⟩ | ⟨g, o, cap, rfl, hc⟩
  · exact (Go.Proofs.AnyE.slices_Clone_nil cloB 0 0 W).mono fun e w' ⟨h1, h2⟩ => by subst h2; exact ⟨_, h1, ⟨Or.inl ⟨rfl, rfl⟩⟩, Up.refl _, Or.inl rfl⟩
  · refine (Go.Proofs.AnyE.slices_Clone cloB Tryd.t5 (.int .u8 0) 1 1 (by kernel_rfl) (by kernel_rfl) (by kernel_rfl) (by kernel_rfl) rfl (by decide) Tryd.sizeOf5 g o zs.length cap (zs.map (Value.int .u8)) W (by simp) (by unfold maxLen; omega) (by omega) (fun j u hj => ?_) (fun u hu => ?_)).mono ?_
    · rw [List.getElem?_map] at hj
      cases hz : zs[j]? with
      | none => rw [hz] at hj; cases hj
      | some x =>
        rw [hz] at hj
        injection hj with hj
        rw [← hj]
        exact hc j x hz
    · obtain ⟨x, _, rfl⟩ := List.mem_map.1 hu
      rfl
    · rintro e w' ⟨v', h1, h2, h3, h4⟩
      exact ⟨v', h1, NewB.ofOwn h2 (Up.ofBelow h4)⟩
set_option maxRecDepth 100000 in
theorem sent_new {W0 : World} {K : List (Nat × Obj)} {zs : List Int} {W : World} (h : Pb W0 K b p zs W) :
    Calls Tryd.prog 21 #[.pointer (some ⟨b, 0, none⟩)] W fun e w' => ∃ v', e = .returned v' ∧ NewB W w' v' zs := by
  obtain ⟨v, h1, h2, _⟩ := h.row
  obtain ⟨k0, k1, k2, k3, k4, k5, k6, k7, k8, k9, k10, k11, k12⟩ := h1.all
  have HC : Hid _ := clone_new (b + 1) v zs h.len W h2
  clear h h1 h2
  go_enter Tryd.func21, Tryd.ntmps21
  go_wp2_with fail
  refine Calls.mono HC.out ?_
  rintro e w' ⟨v', rfl, B⟩
  have HB : Hid _ := B
  clear B HC
  go_wp2_with fail
  go_ret
  exact ⟨v', rfl, HB.out⟩
end Go.Proofs.YteomldlmdpphaaaDoor
