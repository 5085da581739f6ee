/- BlockRead: the walk. -/
import Derived.Test.YtplhhghipmffcaaBkL
namespace Go.Proofs.Ytplhhghipmffcaa
open Go.RowKit
set_option linter.unusedVariables false
set_option linter.unusedSimpArgs false
variable {w w' W : World} {g n m o : Nat} {f f' : Nat → Int} {K K' : Nat → Prop} {sb : Nat} {A : Ad} {S : Sto}
/-- a row of single values -/
structure VaAt (w : World) (g n : Nat) (F : Nat → Value) : Prop where
  row : ∃ cs ty, w.heap[g]? = some (.cells cs ty (0, 0)) ∧ cs.size = n ∧ ∀ k, k < n → cs[k]? = some (F k)
theorem VaAt.lt {F : Nat → Value} (h : VaAt w g n F) : g < w.heap.size := by
  obtain ⟨cs, ty, h1, _⟩ := h.row
  exact heap_at h1
theorem VaAt.cell {F : Nat → Value} (h : VaAt w g n F) (k : Nat) (hk : k < n) : w.cell? ⟨g, k, none⟩ = some (F k) := by
  obtain ⟨cs, ty, h1, h2, h3⟩ := h.row
  exact heap_cell h1 (h3 k hk)
theorem VaAt.fz {F : Nat → Value} (h : VaAt w g n F) (k : Nat) : w.frozen? ⟨g, k, none⟩ = false := by
  obtain ⟨cs, ty, h1, _⟩ := h.row
  exact heap_fz h1
theorem VaAt.of_block {F : Nat → Value} (h : VaAt w g n F) (e : w'.heap[g]? = w.heap[g]?) : VaAt w' g n F := by
  obtain ⟨cs, ty, h1, h2⟩ := h.row
  exact ⟨cs, ty, e.trans h1, h2⟩
theorem VaAt.set {F : Nat → Value} (h : VaAt w g n F) (i : Nat) (hi : i < n) (x : Value) : VaAt (w.setCell ⟨g, i, none⟩ x) g n (fun k => if k = i then x else F k) := by
  obtain ⟨cs, ty, h1, h2, h3⟩ := h.row
  refine ⟨cs.setIfInBounds i x, ty, heap_setCell_same w g i _ _ _ h1, by simp [h2], fun j hj => ?_⟩
  rw [Array.getElem?_setIfInBounds]
  by_cases e : j = i
  · subst e
    rw [if_pos rfl, if_pos (by omega), if_pos rfl]
  · rw [if_neg (fun e' => e e'.symm), if_neg e]
    exact h3 j hj
theorem made_va (w : World) (n : Nat) (ty : TypeId) (v : Value) : VaAt (w.alloc (.cells (madeCells #[v] n) ty)) w.heap.size n (fun _ => v) := by
  refine ⟨_, _, heap_alloc_new w _, by simp [madeCells], fun k hk => ?_⟩
  simp [madeCells, hk, Nat.mod_one]
theorem mkI (w : World) (N : Nat) (hN : N ≤ 1073741824) : (Instr.makeSlice 31 (.int .i64 (N : Int)) (.int .i64 (N : Int))).run Try.prog w = .ok (.slice (some ⟨w.heap.size, 0, none⟩) N N) (w.alloc (.cells (madeCells #[.int .i64 0] N) 3)) := by
  have := run_make (P := Try.prog) w 31 3 Try.t3 (.int .i64 0) Try.underlying31 (by kernel_rfl) rfl .i64 .i64 (N : Int) (N : Int) (by omega) (by omega) (by show (8 : Int) * (N : Int) ≤ 281474976710656; omega) (by omega)
  have e1 : (Value.int .i64 0).cells = #[Value.int .i64 0] := rfl
  have e2 : Try.t3.size = 1 := rfl
  rw [e1, e2] at this
  simpa using this
theorem mkO (w : World) (N : Nat) (hN : N ≤ 1073741824) : (Instr.makeSlice 33 (.int .i64 (N : Int)) (.int .i64 (N : Int))).run Try.prog w = .ok (.slice (some ⟨w.heap.size, 0, none⟩) N N) (w.alloc (.cells (madeCells #[.bool false] N) 4)) := by
  have := run_make (P := Try.prog) w 33 4 Try.t4 (.bool false) Try.underlying33 (by kernel_rfl) rfl .i64 .i64 (N : Int) (N : Int) (by omega) (by omega) (by show (1 : Int) * (N : Int) ≤ 281474976710656; omega) (by omega)
  have e1 : (Value.bool false).cells = #[Value.bool false] := rfl
  have e2 : Try.t4.size = 1 := rfl
  rw [e1, e2] at this
  simpa using this
/-- what the law keeps beside the store -/
structure Re (W : World) (sb lb ob n : Nat) (S : Sto) (lf : Nat → Int) (sf : Nat → Bool) (w : World) : Prop where
  st : Sx W (fun b => b < W.heap.size ∨ b = lb ∨ b = ob) sb S w
  ne : lb ≠ ob
  l : VaAt w lb n (fun k => .int .i64 (lf k))
  s : VaAt w ob n (fun k => .bool (sf k))
  i64 : ∀ k, I64 (lf k)
  wl : W.heap.size ≤ lb
  wo : W.heap.size ≤ ob
/-- what is there now -/
structure Nw (n : Nat) (S : Sto) (lf : Nat → Int) (sf : Nat → Bool) : Prop where
  nn : S.n = n
  left : S.left = -1
  now : ∀ k, k < n → ∀ j, j < 512 → S.now (512 * k + j) = if sf k = true then fillF (lf k) j else 0
variable {lb ob : Nat} {lf : Nat → Int} {sf : Nat → Bool}
theorem Re.more (h : Re W sb lb ob n S lf sf w) (u : Up w w') : Re W sb lb ob n S lf sf w' := ⟨h.st.more u, h.ne, h.l.of_block (u.block _ h.l.lt), h.s.of_block (u.block _ h.s.lt), h.i64, h.wl, h.wo⟩
theorem Re.fk {S' : Sto} (h : Re W sb lb ob n S lf sf w) (h2 : Sx W (fun b => b < W.heap.size ∨ b = lb ∨ b = ob) sb S' w') (fk : FK (fun b => b < W.heap.size ∨ b = lb ∨ b = ob) w w') : Re W sb lb ob n S' lf sf w' :=
  ⟨h2, h.ne, h.l.of_block (fk.block _ h.l.lt (Or.inr (Or.inl rfl))), h.s.of_block (fk.block _ h.s.lt (Or.inr (Or.inr rfl))), h.i64, h.wl, h.wo⟩
def updI (f : Nat → Int) (i : Nat) (x : Int) : Nat → Int := fun k => if k = i then x else f k
def updB (f : Nat → Bool) (i : Nat) (x : Bool) : Nat → Bool := fun k => if k = i then x else f k
theorem Re.setL (h : Re W sb lb ob n S lf sf w) {i : Nat} (hi : i < n) {x : Int} (hx : I64 x) : Re W sb lb ob n S (updI lf i x) sf (w.setCell ⟨lb, i, none⟩ (.int .i64 x)) := by
  have hf : Fr lb w (w.setCell ⟨lb, i, none⟩ (.int .i64 x)) := (Fr.refl lb w).setCell
  refine ⟨h.st.fr hf (Or.inr (Or.inl rfl)) h.wl, h.ne, ?_, h.s.of_block (hf.block _ h.s.lt h.ne.symm), fun k => ?_, h.wl, h.wo⟩
  · have := h.l.set i hi (.int .i64 x)
    obtain ⟨cs, ty, q1, q2, q3⟩ := this.row
    refine ⟨cs, ty, q1, q2, fun k hk => (q3 k hk).trans ?_⟩
    unfold updI
    by_cases e : k = i
    · rw [if_pos e, if_pos e]
    · rw [if_neg e, if_neg e]
  · unfold updI
    split
    · exact hx
    · exact h.i64 k
theorem Re.setS (h : Re W sb lb ob n S lf sf w) {i : Nat} (hi : i < n) (x : Bool) : Re W sb lb ob n S lf (updB sf i x) (w.setCell ⟨ob, i, none⟩ (.bool x)) := by
  have hf : Fr ob w (w.setCell ⟨ob, i, none⟩ (.bool x)) := (Fr.refl ob w).setCell
  refine ⟨h.st.fr hf (Or.inr (Or.inr rfl)) h.wo, h.ne, h.l.of_block (hf.block _ h.l.lt h.ne), ?_, h.i64, h.wl, h.wo⟩
  have := h.s.set i hi (.bool x)
  obtain ⟨cs, ty, q1, q2, q3⟩ := this.row
  refine ⟨cs, ty, q1, q2, fun k hk => (q3 k hk).trans ?_⟩
  unfold updB
  by_cases e : k = i
  · rw [if_pos e, if_pos e]
  · rw [if_neg e, if_neg e]
theorem Nw.wrote (h : Nw n S lf sf) {i : Nat} (x : Int) : Nw n (S.wrote i (fillF x)) (updI lf i x) (updB sf i true) := by
  refine ⟨h.nn, ?_, fun k hk j hj => ?_⟩
  · show (if S.left = -1 then -1 else _) = _
    rw [if_pos h.left]
  · show putF S.now (512 * i) 512 (fillF x) (512 * k + j) = _
    unfold updI updB
    by_cases e : k = i
    · subst e
      rw [if_pos rfl, if_pos rfl, if_pos rfl, putF_in _ _ (by omega) (by omega)]
      exact fillF_eq (by omega)
    · rw [if_neg e, if_neg e, putF_out _ _ (by omega)]
      exact h.now k hk j hj
theorem Nw.synced (h : Nw n S lf sf) : Nw n S.synced lf sf := ⟨h.nn, h.left, h.now⟩
set_option maxRecDepth 100000 in
set_option maxHeartbeats 4000000 in
theorem read_walk {x z : Int} {a1 : Option Addr} {b1 o1 sl c1 : Nat} {hs : Nat → Int} (hx : I64 x) (D1 : Ints W a1 b1 o1 sl c1 hs) (hz : I64 z) :
    Calls Try.prog 4 #[.int .i64 x, .slice a1 sl c1, .int .i64 z] W fun e w' => e = .returned (.bool true) ∧ Up W w' := by
  have HPk : Hid (∀ w, Calls Try.prog 13 #[.int .i64 x, .int .i64 6] w fun e w' => e = .returned (.int .i64 (pickI x 6)) ∧ w' = w) := fun w => pick_any x 6 w hx (by decide) (by decide)
  have HPz : Hid (∀ w, Calls Try.prog 13 #[.int .i64 z, .int .i64 7] w fun e w' => e = .returned (.int .i64 (pickI z 7)) ∧ w' = w) := fun w => pick_any z 7 w hz (by decide) (by decide)
  have p1 := pickI_lo x 6 (by decide)
  have p2 := pickI_hi x 6 (by decide)
  generalize pickI z 7 = ZI at *
  have HD : Hid (∀ w', Up W w' → Ints w' a1 b1 o1 sl c1 hs) := fun w' u => D1.upI u
  have l1 := D1.lc
  have l2 : c1 ≤ 9223372036854775807 := by have := D1.cm; unfold maxLen at this; omega
  clear D1 hx hz
  generalize pickI x 6 = MI at *
  obtain ⟨q, rfl⟩ := Int.eq_ofNat_of_zero_le p1
  obtain ⟨n, hn⟩ : ∃ n, n = 1 + q := ⟨_, rfl⟩
  have hn1 : 1 ≤ n := by omega
  have hn2 : n ≤ 6 := by omega
  have en : (1 : Int) + (q : Int) = (n : Int) := by omega
  have HM1 : Hid (∀ w, w = W → Calls Try.prog 9 #[.int .i64 (n : Int), .slice none 0 0, .slice none 0 0] w fun e w' => ∃ sb, e = .returned (.tuple #[.pointer (some ⟨sb, 0, none⟩), .bool true]) ∧ Sx W (fun b => b < W.heap.size) sb (Sto.fresh n (fun _ => 0)) w') := fun w hw => by
    subst hw
    exact made_any (hs := fun _ => 0) (hp := fun _ => 0) hn1 (by omega) (Ints.none w _ (fun _ => i64zero)) (Ints.none w _ (fun _ => i64zero)) (by decide) (by decide)
  have HFi : Hid (∀ (v : Int) w, I64 v → Calls Try.prog 11 #[.int .i64 v, .int .i64 0] w (Cop w 512 (fillF v))) := fun v w h => filled_any (m := 512) h (by decide) (by decide)
  have HPn : Hid (∀ (v : Int) w, I64 v → Calls Try.prog 13 #[.int .i64 v, .int .i64 (n : Int)] w fun e w' => e = .returned (.int .i64 ((secN n v : Nat) : Int)) ∧ w' = w) := fun v w hv => by
    have := pick_any v n w hv (by omega) (by omega)
    rw [secN_is n v hn1] at this
    exact this
  have hmI : ∀ w : World, (Instr.makeSlice 31 (.int .i64 (n : Int)) (.int .i64 (n : Int))).run Try.prog w = .ok (.slice (some ⟨w.heap.size, 0, none⟩) n n) (w.alloc (.cells (madeCells #[.int .i64 0] n) 3)) := fun w => mkI w n (by omega)
  have hmO : ∀ w : World, (Instr.makeSlice 33 (.int .i64 (n : Int)) (.int .i64 (n : Int))).run Try.prog w = .ok (.slice (some ⟨w.heap.size, 0, none⟩) n n) (w.alloc (.cells (madeCells #[.bool false] n) 4)) := fun w => mkO w n (by omega)
  clear hn
  go_enter Try.func4, Try.ntmps4
  go_wp2_with fail
  refine (HPk.out _).mono ?_
  rintro e w' ⟨rfl, hw'⟩
  obtain rfl := hw'.symm
  clear HPk
  go_wp2_with fail
  refine (HM1.out _ rfl).mono ?_
  rintro e w1 ⟨sb, rfl, h1⟩
  have H1 : Hid (Sx W (fun b => b < W.heap.size) sb (Sto.fresh n (fun _ => 0)) w1) := h1
  clear h1 HM1
  go_wp2_with fail
  have N3 : Re W sb w1.heap.size (w1.heap.size + 1) n (Sto.fresh n (fun _ => 0)) (fun _ => 0) (fun _ => false) ((w1.alloc (.cells (madeCells #[.int .i64 0] n) 3)).alloc (.cells (madeCells #[.bool false] n) 4)) := by
    have ua := (Up.refl w1).alloc (.cells (madeCells #[.int .i64 0] n) 3)
    have ub := (Up.refl (w1.alloc (.cells (madeCells #[.int .i64 0] n) 3))).alloc (.cells (madeCells #[.bool false] n) 4)
    have z1 : (w1.alloc (.cells (madeCells #[.int .i64 0] n) 3)).heap.size = w1.heap.size + 1 := by simp
    have z2 : ((w1.alloc (.cells (madeCells #[.int .i64 0] n) 3)).alloc (.cells (madeCells #[.bool false] n) 4)).heap.size = w1.heap.size + 2 := by simp
    have v1 := made_va w1 n 3 (.int .i64 0)
    have v2 := made_va (w1.alloc (.cells (madeCells #[.int .i64 0] n) 3)) n 4 (.bool false)
    rw [z1] at v2
    have us := H1.out.up.size
    exact ⟨H1.out.let' (ua.trans ub) (fun b hb => by rcases hb with h | h | h; exact Or.inl h; exact Or.inr ⟨by omega, by omega⟩; exact Or.inr ⟨by omega, by omega⟩) (fun b hb => Or.inl hb), by omega, v1.of_block (ub.block _ v1.lt), v2, fun _ => i64zero, us, by omega⟩
  have HN : Hid (∃ S lf sf, Re W sb w1.heap.size (w1.heap.size + 1) n S lf sf ((w1.alloc (.cells (madeCells #[.int .i64 0] n) 3)).alloc (.cells (madeCells #[.bool false] n) 4)) ∧ Nw n S lf sf ∧ S.pend.length ≤ 0) := ⟨_, _, _, N3, ⟨rfl, rfl, fun k hk j hj => rfl⟩, Nat.le_refl _⟩
  clear N3 H1 hmI hmO en
  generalize World.alloc (World.alloc w1 _) _ = w3 at HN ⊢
  generalize w1.heap.size + 1 = ob at HN ⊢
  generalize w1.heap.size = lb at HN ⊢
  go_loopw [12, 13] (fun I _ wr => ∃ i : Nat, i ≤ 30 ∧ I = .int .i64 i ∧ Hid (∃ S lf sf, Re W sb lb ob n S lf sf wr ∧ Nw n S lf sf ∧ S.pend.length ≤ i)) (fun I _ _ => 30 - (intOf I).toNat)
  case atStart => exact ⟨0, by omega, rfl, HN⟩
  case round =>
    clear HN
    obtain ⟨i, hi, rfl, M0⟩ := hrel
    obtain ⟨S, lf, sf, hRe, hNw, hpd⟩ := M0.out
    by_cases hgo : i < sl ∧ i < 30
    · obtain ⟨hlt, hi3⟩ := hgo
      have d1 : (i : Int) < (sl : Int) := by omega
      have d2 : (i : Int) < 30 := by omega
      have ee := HD.out wr hRe.st.up
      obtain rfl := ee.ad (by omega)
      have kc := ee.cell i hlt
      have ic := ee.i64 i
      have HKc : Hid (∀ w, Up W w → w.cell? ⟨b1, o1 + i, none⟩ = some (.int .i64 (hs i))) := fun w u => (HD.out w u).cell i hlt
      have HSt : Hid (Re W sb lb ob n S lf sf wr ∧ Nw n S lf sf ∧ S.pend.length ≤ i) := ⟨hRe, hNw, hpd⟩
      have HPx : Hid (∀ w : World, _) := fun w => HPn.out (hs i) w ic
      have HFx : Hid (∀ w : World, _) := fun w => HFi.out (hs i) w ic
      have hsec := secN_lt n (hs i) hn1
      have HIc : Hid (I64 (hs i)) := ic
      have e7 : (i : Int).tmod 7 = (i : Int) % 7 := Int.tmod_eq_emod_of_nonneg (by omega)
      clear ee ic M0 HD HPn HFi hRe hNw hpd
      generalize hs i = X at *
      generalize secN n X = k at *
      have dk : (k : Int) < (n : Int) := by omega
      go_wp2_with fail
      refine (HPx.out _).mono ?_
      rintro e w' ⟨rfl, hw'⟩
      obtain rfl := hw'.symm
      clear HPx
      go_wp2_with fail
      refine (HFx.out _).mono ?_
      rintro e w4 ⟨g, gc, rfl, q1, q2, q3, q4, q5⟩
      have HW : Hid _ := HSt.out.1.st.write (i := k) q5 q1 q2 q3 q4 (by rw [HSt.out.2.1.nn]; exact hsec) (by rw [HSt.out.2.1.left]; decide) (by have := HSt.out.2.2; omega)
      have H4 : Hid (Re W sb lb ob n S lf sf w4) := HSt.out.1.more q5
      clear q1 q2 q3 q4 q5 HFx
      go_wp2_with fail
      refine Calls.mono HW.out ?_
      rintro e w5 ⟨rfl, h5, f5⟩
      have H5 : Hid (Re W sb lb ob n (S.wrote k (fillF X)) lf sf w5) := H4.out.fk h5 f5
      clear h5 f5 HW H4
      have k5 := H5.out.l.cell k hsec
      have z5 := H5.out.l.fz k
      have kc5 := HKc.out w5 H5.out.st.up
      have H6 : Hid (Re W sb lb ob n (S.wrote k (fillF X)) (updI lf k X) sf (w5.setCell ⟨lb, k, none⟩ (.int .i64 X))) := H5.out.setL hsec HIc.out
      have k6 := H6.out.s.cell k hsec
      have z6 := H6.out.s.fz k
      have H7 : Hid (Re W sb lb ob n (S.wrote k (fillF X)) (updI lf k X) (updB sf k true) ((w5.setCell ⟨lb, k, none⟩ (.int .i64 X)).setCell ⟨ob, k, none⟩ (.bool true))) := H6.out.setS hsec true
      have HNw : Hid (Nw n (S.wrote k (fillF X)) (updI lf k X) (updB sf k true) ∧ (S.wrote k (fillF X)).pend.length ≤ i + 1) := ⟨HSt.out.2.1.wrote X, by
        show (S.pend ++ [(k, fillF X)]).length ≤ i + 1
        rw [List.length_append]
        have := HSt.out.2.2
        show S.pend.length + 1 ≤ i + 1
        omega⟩
      clear H5 H6 HSt HKc kc
      generalize S.wrote k (fillF X) = S2 at *
      generalize updI lf k X = lf2 at *
      generalize updB sf k true = sf2 at *
      go_wp2_with fail
      generalize World.setCell (World.setCell w5 _ _) _ _ = w6 at H7 ⊢
      clear k5 z5 k6 z6 kc5
      refine (HPz.out _).mono ?_
      rintro e w' ⟨rfl, hw'⟩
      obtain rfl := hw'.symm
      clear HPz
      by_cases hsy : ZI = (i : Int) % 7
      · have HSy : Hid _ := H7.out.st.sync (by have := HNw.out.2; omega)
        go_wp2_with fail
        refine Calls.mono HSy.out ?_
        rintro e w7 ⟨rfl, h7, f7⟩
        have H8 : Hid (∃ S lf sf, Re W sb lb ob n S lf sf w7 ∧ Nw n S lf sf ∧ S.pend.length ≤ i + 1) := ⟨_, _, _, H7.out.fk h7 f7, HNw.out.1.synced, Nat.zero_le _⟩
        clear h7 f7 HSy H7 HNw
        go_wp2_with fail
        refine ⟨⟨i + 1, by omega, by first | rfl | (simp; done), H8⟩, ?_⟩
        simp [intOf]
        try omega
      · have H8 : Hid (∃ S lf sf, Re W sb lb ob n S lf sf w6 ∧ Nw n S lf sf ∧ S.pend.length ≤ i + 1) := ⟨_, _, _, H7.out, HNw.out⟩
        clear H7 HNw
        go_wp2_with fail
        refine ⟨⟨i + 1, by omega, by first | rfl | (simp; done), H8⟩, ?_⟩
        simp [intOf]
        try omega
    · have HR : Hid (Re W sb lb ob n S lf sf wr ∧ Nw n S lf sf) := ⟨hRe, hNw⟩
      obtain ⟨w10, rfl⟩ : ∃ w10, w10 = wr := ⟨_, rfl⟩
      clear hRe hNw hpd M0 HPn HD HPz
      obtain ⟨CS, hCS⟩ : ∃ CS, CS = madeCells #[Value.int .u8 0] 512 := ⟨_, rfl⟩
      have hmk2 : ∀ w : World, (Instr.makeSlice 27 (.int .i64 512) (.int .i64 512)).run Try.prog w = .ok (.slice (some ⟨w.heap.size, 0, none⟩) 512 512) (w.alloc (.cells CS 5)) := fun w => by
        have := mkB w 512 (by decide)
        rw [← hCS] at this
        exact this
      have HB2 : Hid (∀ w : World, By (w.alloc (.cells CS 5)) w.heap.size 512 (fun _ => 0)) := fun w => by rw [hCS]; exact made_by w 512 5
      clear hCS
      by_cases hic : i < sl
      all_goals
        first
        | (have d1 : decide ((i : Int) < (sl : Int)) = true := decide_eq_true (by omega)
           have e1 : (i : Int) < (sl : Int) := by omega
           have d2 : decide ((i : Int) < 30) = false := decide_eq_false (by omega)
           have e2 : ¬ (i : Int) < 30 := by omega)
        | (have d1 : decide ((i : Int) < (sl : Int)) = false := decide_eq_false (by omega)
           have e1 : ¬ (i : Int) < (sl : Int) := by omega)
        clear hgo hi hic
        go_wp2_with fail
        go_loopw [14, 15, 16, 17] (fun I _ _ _ wr => ∃ k : Nat, k ≤ n ∧ I = .int .i64 k ∧ Hid (Re W sb lb ob n S lf sf wr)) (fun I _ _ _ _ => n - (intOf I).toNat)
        case atStart => exact ⟨0, by omega, rfl, HR.out.1⟩
        case round =>
          obtain ⟨k, hk, rfl, M1⟩ := hrel
          by_cases hlt : k < n
          · have f1 : (k : Int) < (n : Int) := by omega
            have HA : Hid (Re W sb lb ob n S lf sf (wr.alloc (.cells CS 5)) ∧ By (wr.alloc (.cells CS 5)) wr.heap.size 512 (fun _ => 0)) := ⟨M1.out.more ((Up.refl wr).alloc _), HB2.out wr⟩
            have ks : (wr.alloc (.cells CS 5)).cell? ⟨ob, k, none⟩ = some (.bool (sf k)) := HA.out.1.s.cell k hlt
            have kl : (wr.alloc (.cells CS 5)).cell? ⟨lb, k, none⟩ = some (.int .i64 (lf k)) := HA.out.1.l.cell k hlt
            have HNk : Hid (∀ j, j < 512 → S.now (512 * k + j) = if sf k = true then fillF (lf k) j else 0) := fun j hj => HR.out.2.now k hlt j hj
            have HFl : Hid (∀ w : World, _) := fun w => HFi.out (lf k) w (HR.out.1.i64 k)
            have HSn : Hid (k < S.n) := by have := HR.out.2.nn; show k < S.n; omega
            clear M1
            cases hsk : sf k
            · rw [hsk] at ks HNk
              have HNk2 : Hid (∀ j, j < 512 → S.now (512 * k + j) = 0) := fun j hj => HNk.out j hj
              clear HNk hsk
              go_wp2_with fail
              generalize World.alloc wr _ = w11 at HA ks kl ⊢
              generalize wr.heap.size = mb at HA ⊢
              have HRd : Hid _ := HA.out.1.st.read HSn.out
              refine Calls.mono HRd.out ?_
              rintro e w12 ⟨g, gc, rfl, q1, q2, q3, q4, q5⟩
              have H12 : Hid (Re W sb lb ob n S lf sf w12 ∧ Lb w12 (.slice (some ⟨g, 0, none⟩) 512 gc) 512 (fun _ => 0) ∧ Lb w12 (.slice (some ⟨mb, 0, none⟩) 512 512) 512 (fun _ => 0)) := ⟨HA.out.1.more q5, (q2.congr (fun j hj => HNk2.out j hj)).lb q3 q4, (HA.out.2.up q5).lb (Nat.le_refl _) (by unfold maxLen; omega)⟩
              clear q1 q2 q3 q4 q5 HRd HA ks kl HNk2 HFl
              go_wp2_with fail
              refine (same_yes H12.out.2.1 H12.out.2.2).mono ?_
              rintro e w13 ⟨rfl, u13⟩
              have H13 : Hid (Re W sb lb ob n S lf sf w13) := H12.out.1.more u13
              clear u13 H12
              go_wp2_with fail
              refine ⟨⟨k + 1, by omega, by first | rfl | (simp; done), H13⟩, ?_⟩
              simp [intOf]
              try omega
            · rw [hsk] at ks HNk
              have HNk2 : Hid (∀ j, j < 512 → S.now (512 * k + j) = fillF (lf k) j) := fun j hj => HNk.out j hj
              clear HNk hsk
              go_wp2_with fail
              generalize World.alloc wr _ = w11 at HA ks kl ⊢
              generalize wr.heap.size = mb at HA ⊢
              refine (HFl.out _).mono ?_
              rintro e w14 ⟨g2, gc2, rfl, r1, r2, r3, r4, r5⟩
              have H14 : Hid (Re W sb lb ob n S lf sf w14 ∧ Lb w14 (.slice (some ⟨g2, 0, none⟩) 512 gc2) 512 (fillF (lf k))) := ⟨HA.out.1.more r5, r2.lb r3 r4⟩
              clear r1 r2 r3 r4 r5 HA ks kl
              go_wp2_with fail
              have HRd : Hid _ := H14.out.1.st.read HSn.out
              refine Calls.mono HRd.out ?_
              rintro e w12 ⟨g, gc, rfl, q1, q2, q3, q4, q5⟩
              have H12 : Hid (Re W sb lb ob n S lf sf w12 ∧ Lb w12 (.slice (some ⟨g, 0, none⟩) 512 gc) 512 (fillF (lf k)) ∧ Lb w12 (.slice (some ⟨g2, 0, none⟩) 512 gc2) 512 (fillF (lf k))) := ⟨H14.out.1.more q5, (q2.congr (fun j hj => HNk2.out j hj)).lb q3 q4, H14.out.2.up q5⟩
              clear q1 q2 q3 q4 q5 HRd HNk2 HFl H14
              go_wp2_with fail
              refine (same_yes H12.out.2.1 H12.out.2.2).mono ?_
              rintro e w13 ⟨rfl, u13⟩
              have H13 : Hid (Re W sb lb ob n S lf sf w13) := H12.out.1.more u13
              clear u13 H12
              go_wp2_with fail
              refine ⟨⟨k + 1, by omega, by first | rfl | (simp; done), H13⟩, ?_⟩
              simp [intOf]
              try omega
          · have f1 : ¬ (k : Int) < (n : Int) := by omega
            go_wp2_with fail
            go_ret
            exact ⟨by first | rfl | (simp; done), M1.out.st.up⟩
end Go.Proofs.Ytplhhghipmffcaa
