import Derived.Test.YtmjfccdhjhkocaaMgB
import Derived.Laws.CopyOwn
import Derived.Deep.OwnRows
import Derived.OwnWalk
/- Bytes copied into a row, and into a picture. -/
namespace Go.Proofs.Ytmjfccdhjhkocaa
open Go.RowKit
set_option linter.unusedVariables false
variable {b : Nat} {p : Pic}
section
variable {w : World} {ops : Array Oper} {rest : List Oper} {o : Oper} {a : Act} {Q : Exit → Act → World → Prop}
theorem wpList_copyG (hgd : o.guard = none) (d s : Operand) (ho : o.op = .call { callee := .builtin .copy, args := #[d, s], argTypes := #[23, 23] })
    (g off dLen dCap : Nat) (ad : Addr) (sLen sCap : Nat) (hd : a.eval d = .slice (some ⟨g, off, none⟩) dLen dCap) (hs : a.eval s = .slice (some ad) sLen sCap)
    (n m : Nat) (cur : Array Value) (t : TypeId) (hg : w.heap[g]? = some (.cells cur t (0, 0))) (hz : cur.size = n) (h : Nat → Int) (hm : m = Nat.min sLen dLen)
    (hsrc : ∀ k, k < m → w.cell? (ad.add k) = some (.int .u8 (h k))) (hfit : off + m ≤ n)
    (next : ∀ w' cs, w'.heap[g]? = some (.cells cs t (0, 0)) → cs.size = n → (∀ k, k < n → cs[k]? = if off ≤ k ∧ k < off + m then some (.int .u8 (h (k - off))) else cur[k]?) → Fr g w w' → wpList Try.prog ops Q rest (a.put o.dst (goInt m)) w') : wpList Try.prog ops Q (o :: rest) a w := by
  have hl := cellsF_len h m
  refine wpList_copy_own hgd d s 23 23 ho 5 Try.underlying23 (by kernel_rfl) g off dLen dCap ad sLen sCap hd hs cur t hg (cellsF h m) (hl.trans hm) (fun j v hj => ?_) (by rw [hl, hz]; exact hfit) (fun v hv => ?_) ?_
  · have hj2 : j < m := by
      have := (List.getElem?_eq_some_iff.1 hj).1
      rw [hl] at this
      exact this
    rw [cellsF_at h m j hj2] at hj
    rw [← hj]
    exact hsrc j hj2
  · unfold cellsF at hv
    obtain ⟨k, _, rfl⟩ := List.mem_map.1 hv
    rfl
  · rw [hl]
    refine next _ _ (setRow_heap w g cur _ t (0, 0) hg) ?_ (fun k hk => ?_) (Fr.refl g w).setRow
    · rw [List.size_toArray, List.length_append, List.length_append, List.length_take, List.length_drop, hl, Array.length_toList, hz]
      omega
    · rw [List.getElem?_toArray]
      have lt : (cur.toList.take off).length = off := by rw [List.length_take, Array.length_toList, hz]; omega
      by_cases h1 : k < off
      · rw [List.getElem?_append_left (by rw [lt]; exact h1), List.getElem?_take, if_pos h1, if_neg (by omega), Array.getElem?_toList]
      · rw [List.getElem?_append_right (by rw [lt]; omega), lt]
        by_cases h2 : k < off + m
        · rw [List.getElem?_append_left (by rw [hl]; omega), cellsF_at h m (k - off) (by omega), if_pos ⟨by omega, h2⟩]
        · rw [List.getElem?_append_right (by rw [hl]; omega), hl, List.getElem?_drop, if_neg (by omega), show off + m + (k - off - m) = k by omega, Array.getElem?_toList]
def putF (f h : Nat → Int) (off m : Nat) (k : Nat) : Int := if off ≤ k ∧ k < off + m then h (k - off) else f k
theorem wpList_copyN (hgd : o.guard = none) (d s : Operand) (ho : o.op = .call { callee := .builtin .copy, args := #[d, s], argTypes := #[23, 23] })
    (g off dLen dCap : Nat) (ad : Addr) (sLen sCap : Nat) (hd : a.eval d = .slice (some ⟨g, off, none⟩) dLen dCap) (hs : a.eval s = .slice (some ad) sLen sCap)
    (n m : Nat) (f h : Nat → Int) (hN : NmAt w g n f) (hm : m = Nat.min sLen dLen)
    (hsrc : ∀ k, k < m → w.cell? (ad.add k) = some (.int .u8 (h k))) (hfit : off + m ≤ n)
    (next : ∀ w', NmAt w' g n (putF f h off m) → Fr g w w' → wpList Try.prog ops Q rest (a.put o.dst (goInt m)) w') : wpList Try.prog ops Q (o :: rest) a w := by
  obtain ⟨cs, ty, h1, h2, h3⟩ := hN.row
  refine wpList_copyG hgd d s ho g off dLen dCap ad sLen sCap hd hs n m cs ty h1 h2 h hm hsrc hfit (fun w' cs' e1 e2 e3 f3 => next w' ⟨cs', ty, e1, e2, fun k hk => ?_⟩ f3)
  rw [e3 k hk]
  unfold putF
  by_cases e : off ≤ k ∧ k < off + m
  · rw [if_pos e, if_pos e]
  · rw [if_neg e, if_neg e, h3 k hk]
theorem wpList_copyX (hgd : o.guard = none) (d s : Operand) (ho : o.op = .call { callee := .builtin .copy, args := #[d, s], argTypes := #[23, 23] })
    (off dLen dCap : Nat) (ad : Addr) (sLen sCap : Nat) (hd : a.eval d = .slice (some ⟨b, off, none⟩) dLen dCap) (hs : a.eval s = .slice (some ad) sLen sCap)
    (m : Nat) (h : Nat → Int) (q : Pic) (hN : PxAt w b p) (hm : m = Nat.min sLen dLen)
    (hsrc : ∀ k, k < m → w.cell? (ad.add k) = some (.int .u8 (h k))) (hfit : off + m ≤ 54447) (hq : ∀ j, j < 54447 → (if off ≤ j ∧ j < off + m then .int .u8 (h (j - off)) else p.cell j) = q.cell j)
    (next : ∀ w', PxAt w' b q → Fr b w w' → wpList Try.prog ops Q rest (a.put o.dst (goInt m)) w') : wpList Try.prog ops Q (o :: rest) a w := by
  obtain ⟨cs, h1, h2, h3⟩ := hN.row
  refine wpList_copyG hgd d s ho b off dLen dCap ad sLen sCap hd hs 54447 m cs 74 h1 h2 h hm hsrc hfit (fun w' cs' e1 e2 e3 f3 => next w' ⟨cs', e1, e2, fun k hk => ?_⟩ f3)
  rw [e3 k hk, ← hq k hk]
  by_cases e : off ≤ k ∧ k < off + m
  · rw [if_pos e, if_pos e]
  · rw [if_neg e, if_neg e, h3 k hk]
end
theorem made_nm (w : World) (n : Nat) : NmAt (w.alloc (.cells (madeCells #[.int .u8 0] n) 5)) w.heap.size n (fun _ => 0) := by
  refine ⟨_, _, heap_alloc_new w _, by simp [madeCells], fun k hk => ?_⟩
  simp [madeCells, hk, Nat.mod_one]
end Go.Proofs.Ytmjfccdhjhkocaa
/- A picture's state. -/
namespace Go.Proofs.Ytmjfccdhjhkocaa
open Go.RowKit
set_option linter.unusedVariables false
variable {b : Nat} {p : Pic}
/-- what a state tells, byte by byte -/
def Pic.st (p : Pic) (k : Nat) : Int :=
  if k < 12 then p.rg k else if k = 12 then p.clk / 4 else if k = 13 then (if p.met = true then 1 else 0) else if k = 14 then p.rows else if k < 8207 then p.vr (k - 15) else if k < 8367 then p.oa (k - 8207) else if k < 14127 then pk p.dr (k - 8367) else pk p.sh (k - 14127)
def stTo (p : Pic) : Nat → Int := fun k => if k = 14 then p.rows else if k = 13 then (if p.met = true then 1 else 0) else if k = 12 then p.clk / 4 else putF (fun _ => 0) p.rg 0 12 k
theorem st_eq (p : Pic) (k : Nat) (hk : k < 19887) : packTo (packTo (putF (putF (stTo p) p.vr 15 8192) p.oa 8207 160) p.dr 8367 5760) p.sh 14127 5760 k = p.st k := by
  unfold packTo putF stTo Pic.st
  unfold putF
  repeat' split
  all_goals first | omega | rfl
theorem stTo_f (h : p.met = false) (k : Nat) : (if k = 14 then p.rows else if k = 12 then p.clk / 4 else putF (fun _ => 0) p.rg 0 12 k) = stTo p k := by
  unfold stTo putF
  rw [h]
  repeat' split
  all_goals first | omega | rfl | contradiction
theorem stTo_t (h : p.met = true) (k : Nat) : (if k = 14 then p.rows else if k = 13 then 1 else if k = 12 then p.clk / 4 else putF (fun _ => 0) p.rg 0 12 k) = stTo p k := by
  unfold stTo putF
  rw [h]
  repeat' split
  all_goals first | omega | rfl | contradiction
theorem PxAt.frB {W w' : World} {g : Nat} (h : PxAt W b p) (f : Fr g W w') (hg : b ≠ g) : PxAt w' b p := h.ofB (f.block _ h.lt hg)
set_option maxRecDepth 100000 in
set_option maxHeartbeats 1000000 in
theorem state_any (s : Sane p) (W : World) (h : PxAt W b p) : Calls Try.prog 35 #[.pointer (some ⟨b, 0, none⟩)] W fun e w' => e = .returned (.slice (some ⟨W.heap.size, 0, none⟩) 19887 19887) ∧ NmAt w' W.heap.size 19887 p.st ∧ Up W w' := by
  have HP : Hid (PxAt W b p) := h
  have HS : Hid (Sane p) := s
  have hbl := h.lt
  have c0 := s.c0
  have c9 := s.c9
  have r0 := s.r0
  have r1 : p.rows ≤ 255 := by have := s.rl; have := lines_le s.inn; omega
  have kg := s.c4
  clear h s
  have HG : Hid (b ≠ W.heap.size) := by show _ ≠ _; omega
  have HX : Hid (∀ w', Fr W.heap.size (W.alloc (.cells (madeCells #[.int .u8 0] 19887) 5)) w' → PxAt w' b p) := fun w' f => (HP.out.up ((Up.refl W).alloc _)).frB f HG.out
  have HU : Hid (∀ w', Fr W.heap.size (W.alloc (.cells (madeCells #[.int .u8 0] 19887) 5)) w' → Up W w') := fun w' f => Fr.up ((Up.refl W).alloc _) (Nat.le_refl _) f
  have HM : Hid (NmAt (W.alloc (.cells (madeCells #[.int .u8 0] 19887) 5)) W.heap.size 19887 (fun _ => 0)) := made_nm W 19887
  cases hm : p.met
  · go_enter Try.func35, Try.ntmps35
    go_wp2_with (first | (at_make; refine wpList_make_row _ rfl _ _ 23 rfl 5 Try.t5 (.int .u8 0) Try.underlying23 (by kernel_rfl) (by kernel_rfl) (by kernel_rfl) rfl .i64 .i64 19887 rfl rfl (by decide) (by decide) ?_; generalize World.alloc W _ = w1 at HX HU HM ⊢) | (refine wpList_copyN rfl (.tmp 5) (.tmp 9) rfl W.heap.size 0 19887 19887 ⟨b, 8352, none⟩ 12 12 rfl rfl 19887 12 (fun _ => 0) p.rg HM.out rfl (fun k hk => by rw [Addr.add_lit]; exact (HX.out _ (Fr.refl _ _)).reg k hk) (by decide) ?_; intro w2 n2 F2; have H2 : Hid (NmAt w2 W.heap.size 19887 (putF (fun _ => 0) p.rg 0 12) ∧ Fr W.heap.size w1 w2) := ⟨n2, F2⟩; clear n2 F2; have kc := (HX.out _ H2.out.2).clk; have km : w2.cell? ⟨b, 8365, none⟩ = some (.bool false) := hm ▸ (HX.out _ H2.out.2).metC; have kr := (HX.out _ H2.out.2).rowsC; have j12 := H2.out.1.cell 12 (by decide); have j13 := H2.out.1.cell 13 (by decide); have j14 := H2.out.1.cell 14 (by decide); have f12 := H2.out.1.fz 12; have f13 := H2.out.1.fz 13; have f14 := H2.out.1.fz 14))
    have H3 : Hid (NmAt ((w2.setCell ⟨W.heap.size, 12, none⟩ (.int .u8 (p.clk / 4))).setCell ⟨W.heap.size, 14, none⟩ (.int .u8 p.rows)) W.heap.size 19887 (stTo p) ∧ Fr W.heap.size w1 ((w2.setCell ⟨W.heap.size, 12, none⟩ (.int .u8 (p.clk / 4))).setCell ⟨W.heap.size, 14, none⟩ (.int .u8 p.rows))) := ⟨((H2.out.1.set 12 (by decide) (p.clk / 4)).set 14 (by decide) p.rows).congr (fun k hk => stTo_f hm k), (H2.out.2.setCell).setCell⟩
    generalize hw3 : ((w2.setCell ⟨W.heap.size, 12, none⟩ (.int .u8 (p.clk / 4))).setCell ⟨W.heap.size, 14, none⟩ (.int .u8 p.rows)) = w3 at H3 ⊢
    clear hw3 kc km kr j12 j13 j14 f12 f13 f14 H2
    refine wp_still2 6 (by kernel_rfl) (by decide +kernel) ?_
    intro w4 hw4
    have F4 : Fr W.heap.size w1 w4 := by rw [hw4]; exact H3.out.2.trans (Fr.ofUp (Up.refl _).drew)
    have n4 : NmAt w4 W.heap.size 19887 (stTo p) := by rw [hw4]; exact H3.out.1.of_block rfl
    have H4 : Hid (NmAt w4 W.heap.size 19887 (stTo p) ∧ Fr W.heap.size w1 w4) := ⟨n4, F4⟩
    clear hw4 F4 n4 H3
    simp only [List.take_succ_cons, List.take_zero, List.drop_succ_cons, List.drop_zero]
    repeat (go_big_quiet_step (fail))
    refine wpQuiet_nil ?_
    go_wp2_with (refine wpList_copyN rfl (.tmp 33) (.tmp 37) rfl W.heap.size 15 19872 19872 ⟨b, 0, none⟩ 8192 8192 rfl rfl 19887 8192 (stTo p) p.vr H4.out.1 rfl (fun k hk => by rw [Addr.add_lit, Nat.zero_add]; exact (HX.out _ H4.out.2).vram k hk) (by decide) ?_; intro w5 n5 F5; have H5 : Hid (NmAt w5 W.heap.size 19887 (putF (stTo p) p.vr 15 8192) ∧ Fr W.heap.size w1 w5) := ⟨n5, H4.out.2.trans F5⟩; clear n5 F5)
    clear H4
    try simp only [Act.put, goInt, List.setIfInBounds_toArray, List.set_cons_zero, List.set_cons_succ]
    refine wp_still2 6 (by kernel_rfl) (by decide +kernel) ?_
    intro w6 hw6
    have F6 : Fr W.heap.size w1 w6 := by rw [hw6]; exact H5.out.2.trans (Fr.ofUp (Up.refl _).drew)
    have n6 : NmAt w6 W.heap.size 19887 (putF (stTo p) p.vr 15 8192) := by rw [hw6]; exact H5.out.1.of_block rfl
    have H6 : Hid (NmAt w6 W.heap.size 19887 (putF (stTo p) p.vr 15 8192) ∧ Fr W.heap.size w1 w6) := ⟨n6, F6⟩
    clear hw6 F6 n6 H5
    simp only [List.take_succ_cons, List.take_zero, List.drop_succ_cons, List.drop_zero]
    repeat (go_big_quiet_step (fail))
    refine wpQuiet_nil ?_
    go_wp2_with (refine wpList_copyN rfl (.tmp 40) (.tmp 44) rfl W.heap.size 8207 11680 11680 ⟨b, 8192, none⟩ 160 160 rfl rfl 19887 160 (putF (stTo p) p.vr 15 8192) p.oa H6.out.1 rfl (fun k hk => by rw [Addr.add_lit]; exact (HX.out _ H6.out.2).oam k hk) (by decide) ?_; intro w7 n7 F7; have H7 : Hid (NmAt w7 W.heap.size 19887 (putF (putF (stTo p) p.vr 15 8192) p.oa 8207 160) ∧ Fr W.heap.size w1 w7) := ⟨n7, H6.out.2.trans F7⟩; clear n7 F7)
    clear H6
    try simp only [Act.put, goInt, List.setIfInBounds_toArray, List.set_cons_zero, List.set_cons_succ]
    refine wp_still2 5 (by kernel_rfl) (by decide +kernel) ?_
    intro w8 hw8
    have F8 : Fr W.heap.size w1 w8 := by rw [hw8]; exact H7.out.2.trans (Fr.ofUp (Up.refl _).drew)
    have n8 : NmAt w8 W.heap.size 19887 (putF (putF (stTo p) p.vr 15 8192) p.oa 8207 160) := by rw [hw8]; exact H7.out.1.of_block rfl
    have H8 : Hid (NmAt w8 W.heap.size 19887 (putF (putF (stTo p) p.vr 15 8192) p.oa 8207 160) ∧ Fr W.heap.size w1 w8) := ⟨n8, F8⟩
    have HPa : Hid _ := pack_any (b := b) W.heap.size 8367 19887 8367 11520 _ p.dr HS.out.d3 (by decide) (by decide) (by decide) w8 n8 (fun w' f k hk => (HX.out w' (F8.trans f)).drawnC k hk)
    clear hw8 F8 n8 H7
    simp only [List.take_succ_cons, List.take_zero, List.drop_succ_cons, List.drop_zero]
    repeat (go_big_quiet_step (fail))
    refine wpQuiet_nil ?_
    go_wp2_with fail
    refine Calls.mono HPa.out ?_
    rintro e w9 ⟨rfl, n9, F9⟩
    have H9 : Hid (NmAt w9 W.heap.size 19887 (packTo (putF (putF (stTo p) p.vr 15 8192) p.oa 8207 160) p.dr 8367 5760) ∧ Fr W.heap.size w1 w9) := ⟨n9, H8.out.2.trans F9⟩
    clear n9 F9 HPa H8
    go_wp2_with fail
    refine wp_still2 5 (by kernel_rfl) (by decide +kernel) ?_
    intro w10 hw10
    have F10 : Fr W.heap.size w1 w10 := by rw [hw10]; exact H9.out.2.trans (Fr.ofUp (Up.refl _).drew)
    have n10 : NmAt w10 W.heap.size 19887 (packTo (putF (putF (stTo p) p.vr 15 8192) p.oa 8207 160) p.dr 8367 5760) := by rw [hw10]; exact H9.out.1.of_block rfl
    have HPb : Hid _ := pack_any (b := b) W.heap.size 14127 19887 31407 5760 _ p.sh HS.out.s3 (by decide) (by decide) (by decide) w10 n10 (fun w' f k hk => (HX.out w' (F10.trans f)).shownC k hk)
    have H10 : Hid (Fr W.heap.size w1 w10) := F10
    clear hw10 F10 n10 H9
    simp only [List.take_succ_cons, List.take_zero, List.drop_succ_cons, List.drop_zero]
    repeat (go_big_quiet_step (fail))
    refine wpQuiet_nil ?_
    go_wp2_with fail
    refine Calls.mono HPb.out ?_
    rintro e w11 ⟨rfl, n11, F11⟩
    have H11 : Hid (NmAt w11 W.heap.size 19887 p.st ∧ Up W w11) := ⟨n11.congr (fun k hk => st_eq p k hk), HU.out _ (H10.out.trans F11)⟩
    clear n11 F11 HPb H10
    go_wp2_with fail
    go_ret
    exact ⟨rfl, H11.out⟩
  · go_enter Try.func35, Try.ntmps35
    go_wp2_with (first | (at_make; refine wpList_make_row _ rfl _ _ 23 rfl 5 Try.t5 (.int .u8 0) Try.underlying23 (by kernel_rfl) (by kernel_rfl) (by kernel_rfl) rfl .i64 .i64 19887 rfl rfl (by decide) (by decide) ?_; generalize World.alloc W _ = w1 at HX HU HM ⊢) | (refine wpList_copyN rfl (.tmp 5) (.tmp 9) rfl W.heap.size 0 19887 19887 ⟨b, 8352, none⟩ 12 12 rfl rfl 19887 12 (fun _ => 0) p.rg HM.out rfl (fun k hk => by rw [Addr.add_lit]; exact (HX.out _ (Fr.refl _ _)).reg k hk) (by decide) ?_; intro w2 n2 F2; have H2 : Hid (NmAt w2 W.heap.size 19887 (putF (fun _ => 0) p.rg 0 12) ∧ Fr W.heap.size w1 w2) := ⟨n2, F2⟩; clear n2 F2; have kc := (HX.out _ H2.out.2).clk; have km : w2.cell? ⟨b, 8365, none⟩ = some (.bool true) := hm ▸ (HX.out _ H2.out.2).metC; have kr := (HX.out _ H2.out.2).rowsC; have j12 := H2.out.1.cell 12 (by decide); have j13 := H2.out.1.cell 13 (by decide); have j14 := H2.out.1.cell 14 (by decide); have f12 := H2.out.1.fz 12; have f13 := H2.out.1.fz 13; have f14 := H2.out.1.fz 14))
    have H3 : Hid (NmAt (((w2.setCell ⟨W.heap.size, 12, none⟩ (.int .u8 (p.clk / 4))).setCell ⟨W.heap.size, 13, none⟩ (.int .u8 1)).setCell ⟨W.heap.size, 14, none⟩ (.int .u8 p.rows)) W.heap.size 19887 (stTo p) ∧ Fr W.heap.size w1 (((w2.setCell ⟨W.heap.size, 12, none⟩ (.int .u8 (p.clk / 4))).setCell ⟨W.heap.size, 13, none⟩ (.int .u8 1)).setCell ⟨W.heap.size, 14, none⟩ (.int .u8 p.rows))) := ⟨(((H2.out.1.set 12 (by decide) (p.clk / 4)).set 13 (by decide) 1).set 14 (by decide) p.rows).congr (fun k hk => stTo_t hm k), ((H2.out.2.setCell).setCell).setCell⟩
    generalize hw3 : (((w2.setCell ⟨W.heap.size, 12, none⟩ (.int .u8 (p.clk / 4))).setCell ⟨W.heap.size, 13, none⟩ (.int .u8 1)).setCell ⟨W.heap.size, 14, none⟩ (.int .u8 p.rows)) = w3 at H3 ⊢
    clear hw3 kc km kr j12 j13 j14 f12 f13 f14 H2
    refine wp_still2 6 (by kernel_rfl) (by decide +kernel) ?_
    intro w4 hw4
    have F4 : Fr W.heap.size w1 w4 := by rw [hw4]; exact H3.out.2.trans (Fr.ofUp (Up.refl _).drew)
    have n4 : NmAt w4 W.heap.size 19887 (stTo p) := by rw [hw4]; exact H3.out.1.of_block rfl
    have H4 : Hid (NmAt w4 W.heap.size 19887 (stTo p) ∧ Fr W.heap.size w1 w4) := ⟨n4, F4⟩
    clear hw4 F4 n4 H3
    simp only [List.take_succ_cons, List.take_zero, List.drop_succ_cons, List.drop_zero]
    repeat (go_big_quiet_step (fail))
    refine wpQuiet_nil ?_
    go_wp2_with (refine wpList_copyN rfl (.tmp 33) (.tmp 37) rfl W.heap.size 15 19872 19872 ⟨b, 0, none⟩ 8192 8192 rfl rfl 19887 8192 (stTo p) p.vr H4.out.1 rfl (fun k hk => by rw [Addr.add_lit, Nat.zero_add]; exact (HX.out _ H4.out.2).vram k hk) (by decide) ?_; intro w5 n5 F5; have H5 : Hid (NmAt w5 W.heap.size 19887 (putF (stTo p) p.vr 15 8192) ∧ Fr W.heap.size w1 w5) := ⟨n5, H4.out.2.trans F5⟩; clear n5 F5)
    clear H4
    try simp only [Act.put, goInt, List.setIfInBounds_toArray, List.set_cons_zero, List.set_cons_succ]
    refine wp_still2 6 (by kernel_rfl) (by decide +kernel) ?_
    intro w6 hw6
    have F6 : Fr W.heap.size w1 w6 := by rw [hw6]; exact H5.out.2.trans (Fr.ofUp (Up.refl _).drew)
    have n6 : NmAt w6 W.heap.size 19887 (putF (stTo p) p.vr 15 8192) := by rw [hw6]; exact H5.out.1.of_block rfl
    have H6 : Hid (NmAt w6 W.heap.size 19887 (putF (stTo p) p.vr 15 8192) ∧ Fr W.heap.size w1 w6) := ⟨n6, F6⟩
    clear hw6 F6 n6 H5
    simp only [List.take_succ_cons, List.take_zero, List.drop_succ_cons, List.drop_zero]
    repeat (go_big_quiet_step (fail))
    refine wpQuiet_nil ?_
    go_wp2_with (refine wpList_copyN rfl (.tmp 40) (.tmp 44) rfl W.heap.size 8207 11680 11680 ⟨b, 8192, none⟩ 160 160 rfl rfl 19887 160 (putF (stTo p) p.vr 15 8192) p.oa H6.out.1 rfl (fun k hk => by rw [Addr.add_lit]; exact (HX.out _ H6.out.2).oam k hk) (by decide) ?_; intro w7 n7 F7; have H7 : Hid (NmAt w7 W.heap.size 19887 (putF (putF (stTo p) p.vr 15 8192) p.oa 8207 160) ∧ Fr W.heap.size w1 w7) := ⟨n7, H6.out.2.trans F7⟩; clear n7 F7)
    clear H6
    try simp only [Act.put, goInt, List.setIfInBounds_toArray, List.set_cons_zero, List.set_cons_succ]
    refine wp_still2 5 (by kernel_rfl) (by decide +kernel) ?_
    intro w8 hw8
    have F8 : Fr W.heap.size w1 w8 := by rw [hw8]; exact H7.out.2.trans (Fr.ofUp (Up.refl _).drew)
    have n8 : NmAt w8 W.heap.size 19887 (putF (putF (stTo p) p.vr 15 8192) p.oa 8207 160) := by rw [hw8]; exact H7.out.1.of_block rfl
    have H8 : Hid (NmAt w8 W.heap.size 19887 (putF (putF (stTo p) p.vr 15 8192) p.oa 8207 160) ∧ Fr W.heap.size w1 w8) := ⟨n8, F8⟩
    have HPa : Hid _ := pack_any (b := b) W.heap.size 8367 19887 8367 11520 _ p.dr HS.out.d3 (by decide) (by decide) (by decide) w8 n8 (fun w' f k hk => (HX.out w' (F8.trans f)).drawnC k hk)
    clear hw8 F8 n8 H7
    simp only [List.take_succ_cons, List.take_zero, List.drop_succ_cons, List.drop_zero]
    repeat (go_big_quiet_step (fail))
    refine wpQuiet_nil ?_
    go_wp2_with fail
    refine Calls.mono HPa.out ?_
    rintro e w9 ⟨rfl, n9, F9⟩
    have H9 : Hid (NmAt w9 W.heap.size 19887 (packTo (putF (putF (stTo p) p.vr 15 8192) p.oa 8207 160) p.dr 8367 5760) ∧ Fr W.heap.size w1 w9) := ⟨n9, H8.out.2.trans F9⟩
    clear n9 F9 HPa H8
    go_wp2_with fail
    refine wp_still2 5 (by kernel_rfl) (by decide +kernel) ?_
    intro w10 hw10
    have F10 : Fr W.heap.size w1 w10 := by rw [hw10]; exact H9.out.2.trans (Fr.ofUp (Up.refl _).drew)
    have n10 : NmAt w10 W.heap.size 19887 (packTo (putF (putF (stTo p) p.vr 15 8192) p.oa 8207 160) p.dr 8367 5760) := by rw [hw10]; exact H9.out.1.of_block rfl
    have HPb : Hid _ := pack_any (b := b) W.heap.size 14127 19887 31407 5760 _ p.sh HS.out.s3 (by decide) (by decide) (by decide) w10 n10 (fun w' f k hk => (HX.out w' (F10.trans f)).shownC k hk)
    have H10 : Hid (Fr W.heap.size w1 w10) := F10
    clear hw10 F10 n10 H9
    simp only [List.take_succ_cons, List.take_zero, List.drop_succ_cons, List.drop_zero]
    repeat (go_big_quiet_step (fail))
    refine wpQuiet_nil ?_
    go_wp2_with fail
    refine Calls.mono HPb.out ?_
    rintro e w11 ⟨rfl, n11, F11⟩
    have H11 : Hid (NmAt w11 W.heap.size 19887 p.st ∧ Up W w11) := ⟨n11.congr (fun k hk => st_eq p k hk), HU.out _ (H10.out.trans F11)⟩
    clear n11 F11 HPb H10
    go_wp2_with fail
    go_ret
    exact ⟨rfl, H11.out⟩
end Go.Proofs.Ytmjfccdhjhkocaa
/- A picture out of a state: what is laid first. -/
namespace Go.Proofs.Ytmjfccdhjhkocaa
open Go.RowKit
set_option linter.unusedVariables false
variable {b : Nat} {p : Pic}
set_option maxRecDepth 100000 in
theorem built_ppu (C : Int) (T : Bool) (R : Int) : Try.prog.built 74 [(3, .int .i64 C), (4, .bool T), (5, .int .i64 R)] = some (((Try.zeroCells74.setIfInBounds 8364 (.int .i64 C)).setIfInBounds 8365 (.bool T)).setIfInBounds 8366 (.int .i64 R)) := by
  have h1 : Try.prog.info? 74 = some Try.t74 := by kernel_rfl
  have hz : Try.t74.zero = some (.agg Try.zeroCells74) := by kernel_rfl
  have hs := zc_size
  unfold Program.built
  rw [h1, Try.underlying74]
  have hp : ∀ fs, Try.prog.underlying 74 = some (.struct fs) → fs.toList.mapM (fun f => (Try.prog.info? f.type).map fun i => (f.offset, i.size)) = some [(0, 8192), (8192, 160), (8352, 12), (8364, 1), (8365, 1), (8366, 1), (8367, 23040), (31407, 23040)] := by
    intro fs h
    rw [Try.underlying74] at h
    injection h with h
    injection h with h
    subst h
    kernel_rfl
  dsimp only
  rw [hz, hp _ Try.underlying74]
  generalize Try.zeroCells74 = Z at *
  simp [Instr.fill, Value.cells, hs]
theorem csok_built (C : Int) (T : Bool) (R : Int) : CsOk (((Try.zeroCells74.setIfInBounds 8364 (.int .i64 C)).setIfInBounds 8365 (.bool T)).setIfInBounds 8366 (.int .i64 R)) (((zeroPic.setClk C).setMet T).setRows R) :=
  (((CsOk.mk zc_size zc_cell : CsOk _ zeroPic).set 8364 _ (fun j _ => Pic.cellClk _ C j)).set 8365 _ (fun j _ => Pic.cellMet _ T j)).set 8366 _ (fun j _ => Pic.cellRows _ R j)
theorem Pic.cell_one (p : Pic) (k : Nat) : (p.cell k).oneCell' = true := by
  unfold Pic.cell
  repeat' split
  all_goals rfl
theorem CsOk.one {cs : Array Value} (h : CsOk cs p) : cs.all (·.oneCell') = true := by
  rw [Array.all_eq_true]
  intro i hi
  have hs := h.size
  have := h.cell i (by omega)
  rw [Array.getElem?_eq_getElem hi] at this
  rw [Option.some.inj this]
  exact p.cell_one i
theorem CsOk.at {cs : Array Value} {w : World} (h : CsOk cs p) (e : w.heap[b]? = some (.cells cs 74 (0, 0))) : PxAt w b p := ⟨cs, e, h.size, h.cell⟩
theorem PxAt.csok {w : World} (h : PxAt w b p) : ∃ cs, w.heap[b]? = some (.cells cs 74 (0, 0)) ∧ CsOk cs p := by
  obtain ⟨cs, h1, h2, h3⟩ := h.row
  exact ⟨cs, h1, h2, h3⟩
/-- the picture that a state tells of -/
def stPic (f : Nat → Int) : Pic := ⟨fun k => f (15 + k), fun k => f (8207 + k), f, f 12 * 4, f 13 == 1, f 14, unpk (fun k => f (8367 + k)), unpk (fun k => f (14127 + k))⟩
/-- the same cells -/
theorem PxAt.same {w : World} {q : Pic} (h : PxAt w b p) (e : ∀ j, j < 54447 → p.cell j = q.cell j) : PxAt w b q := by
  obtain ⟨cs, h1, h2, h3⟩ := h.row
  exact ⟨cs, h1, h2, fun k hk => by rw [h3 k hk, e k hk]⟩
def Pic.allR (p : Pic) (h : Nat → Int) : Pic := { p with rg := h }
def Pic.allV (p : Pic) (h : Nat → Int) : Pic := { p with vr := h }
def Pic.allO (p : Pic) (h : Nat → Int) : Pic := { p with oa := h }
theorem Pic.cellRG (p : Pic) (h : Nat → Int) (j : Nat) : (if 8352 ≤ j ∧ j < 8352 + 12 then .int .u8 (h (j - 8352)) else p.cell j) = (p.allR h).cell j := by
  unfold Pic.cell Pic.allR
  dsimp only
  repeat' split
  all_goals first | omega | rfl
theorem Pic.cellVR (p : Pic) (h : Nat → Int) (j : Nat) : (if 0 ≤ j ∧ j < 0 + 8192 then .int .u8 (h (j - 0)) else p.cell j) = (p.allV h).cell j := by
  unfold Pic.cell Pic.allV
  dsimp only
  repeat' split
  all_goals first | omega | rfl
theorem Pic.cellOA (p : Pic) (h : Nat → Int) (j : Nat) : (if 8192 ≤ j ∧ j < 8192 + 160 then .int .u8 (h (j - 8192)) else p.cell j) = (p.allO h).cell j := by
  unfold Pic.cell Pic.allO
  dsimp only
  repeat' split
  all_goals first | omega | rfl
theorem st_same (f : Nat → Int) (j : Nat) (hj : j < 54447) : ((((((((zeroPic.setClk (f 12 * 4)).setMet (f 13 == 1)).setRows (f 14)).allR f).allV (fun k => f (15 + k))).allO (fun k => f (8207 + k))).upD (fun k => f (8367 + k)) 23040).upS (fun k => f (14127 + k)) 23040).cell j = (stPic f).cell j := by
  by_cases h1 : 31407 ≤ j
  · rw [Pic.cell_sh _ h1, Pic.cell_sh _ h1]
    unfold Pic.upS stPic
    dsimp only
    rw [if_pos (by omega)]
  · by_cases h2 : 8367 ≤ j
    · rw [Pic.cell_dr _ h2 (by omega), Pic.cell_dr _ h2 (by omega)]
      unfold Pic.upS Pic.upD stPic
      dsimp only
      rw [if_pos (by omega)]
    · unfold Pic.cell Pic.upS Pic.upD Pic.allO Pic.allV Pic.allR Pic.setRows Pic.setMet Pic.setClk stPic
      dsimp only
      repeat' split
      all_goals first | omega | rfl
theorem stPic_in {f : Nat → Int} (h : ∀ k, 0 ≤ f k ∧ f k ≤ 255) : (stPic f).In := ⟨fun k => h _, fun k => h _, fun k => h k⟩
end Go.Proofs.Ytmjfccdhjhkocaa
