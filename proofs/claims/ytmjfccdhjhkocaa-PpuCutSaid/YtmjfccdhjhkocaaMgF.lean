import Derived.Test.YtmjfccdhjhkocaaMgE
import Derived.Test.YtmjfccdhjhkocaaMgD
import Derived.Laws.AppendOwn
/- Bytes that are lent, and come back. -/
namespace Go.Proofs.Ytmjfccdhjhkocaa
open Go.RowKit
set_option linter.unusedVariables false
variable {b : Nat} {p : Pic}
theorem NmAt.frN {w w' : World} {g n c : Nat} {f : Nat → Int} (h : NmAt w g n f) (fr : Fr c w w') (hg : g ≠ c) : NmAt w' g n f := h.of_block (fr.block _ h.lt hg)
section
variable {w : World} {ops : Array Oper} {rest : List Oper} {o : Oper} {a : Act} {Q : Exit → Act → World → Prop}
theorem wpList_copyO (hgd : o.guard = none) (d s : Operand) (ho : o.op = .call { callee := .builtin .copy, args := #[d, s], argTypes := #[23, 23] })
    (g off dLen dCap : Nat) (sp : Option Addr) (sLen sCap : Nat) (hd : a.eval d = .slice (some ⟨g, off, none⟩) dLen dCap) (hs : a.eval s = .slice sp sLen sCap)
    (n m : Nat) (f h : Nat → Int) (hN : NmAt w g n f) (hm : m = Nat.min sLen dLen)
    (hsrc : 0 < m → ∃ ad, sp = some ad ∧ ∀ k, k < m → w.cell? (ad.add k) = some (.int .u8 (h k))) (hfit : off + m ≤ n)
    (next : ∀ w', NmAt w' g n (putF f h off m) → Fr g w w' → wpList Try.prog ops Q rest (a.put o.dst (goInt m)) w') : wpList Try.prog ops Q (o :: rest) a w := by
  by_cases h0 : m = 0
  · subst h0
    refine wpList_copy_nothing hgd d s 23 23 ho 5 Try.underlying23 (by kernel_rfl) _ sp dLen dCap sLen sCap hd hs hm.symm ?_
    exact next w (hN.congr (fun k _ => by unfold putF; rw [if_neg (by omega)])) (Fr.refl g w)
  · obtain ⟨ad, rfl, hc⟩ := hsrc (by omega)
    exact wpList_copyN hgd d s ho g off dLen dCap ad sLen sCap hd hs n m f h hN hm hc hfit next
end
def lentF (len : Nat) (f : Nat → Int) (k : Nat) : Int := if k < len then f k else 77
def lentTo (len : Nat) (f : Nat → Int) (m : Nat) (k : Nat) : Int := if k < len then f k else if k < m then 77 else 0
theorem lentTo_set (len : Nat) (f : Nat → Int) (m : Nat) (hm : len ≤ m) (k : Nat) : (if k = m then 77 else lentTo len f m k) = lentTo len f (m + 1) k := by
  unfold lentTo
  repeat' split
  all_goals first | omega | rfl
theorem lentTo_0 (len : Nat) (f : Nat → Int) (k : Nat) : putF (fun _ => 0) f 0 len k = lentTo len f len k := by
  unfold putF lentTo
  repeat' split
  all_goals first | omega | rfl
theorem lentTo_F (len : Nat) (f : Nat → Int) (i k : Nat) (hk : k < len + 70) (hi : len + 70 ≤ i) : lentTo len f i k = lentF len f k := by
  unfold lentTo lentF
  repeat' split
  all_goals first | omega | rfl
set_option maxRecDepth 100000 in
set_option maxHeartbeats 1000000 in
theorem lent_any {W : World} {aa : Option Addr} {ab ao len cap : Nat} {f : Nat → Int} (D : Byts W aa ab ao len cap f) (hl : len ≤ 140737488351232) : Calls Try.prog 38 #[.slice aa len cap] W fun e w' => ∃ g, e = .returned (.slice (some ⟨g, 0, none⟩) len (len + 70)) ∧ W.heap.size ≤ g ∧ NmAt w' g (len + 70) (lentF len f) ∧ Up W w' := by
  have HD : Hid (∀ w', Up W w' → Byts w' aa ab ao len cap f) := fun w' u => D.upT u
  clear D
  have HM : Hid (NmAt (W.alloc (.cells (madeCells #[.int .u8 0] (len + 70)) 5)) W.heap.size (len + 70) (fun _ => 0)) := made_nm W (len + 70)
  have HU : Hid (Up W (W.alloc (.cells (madeCells #[.int .u8 0] (len + 70)) 5))) := (Up.refl W).alloc _
  have HC1 : Hid (∀ w1, Up W w1 → 0 < len → ∃ ad, aa = some ad ∧ ∀ k, k < len → w1.cell? (ad.add k) = some (.int .u8 (f k))) := fun w1 u1 hp => ⟨_, (HD.out w1 u1).ad hp, fun k hk => by rw [Addr.add_lit]; exact (HD.out w1 u1).cell k hk⟩
  have HCL : Hid (len = Nat.min len (len + 70)) := (Nat.min_eq_left (by omega)).symm
  have e70 : (0 : Int) ≤ (len : Int) + 70 := by omega
  go_enter Try.func38, Try.ntmps38
  go_wp2_with (first | (at_make; refine wpList_make_row _ rfl _ _ 23 rfl 5 Try.t5 (.int .u8 0) Try.underlying23 (by kernel_rfl) (by kernel_rfl) (by kernel_rfl) rfl .i64 .i64 (len + 70) rfl rfl (by show 1 * (len + 70) ≤ _; omega) (by omega) ?_; generalize World.alloc W _ = w1 at HM HU ⊢) | (refine wpList_copyO rfl (.tmp 9) (.tmp 10) rfl W.heap.size 0 (len + 70) (len + 70) aa len cap rfl rfl (len + 70) len (fun _ => 0) f HM.out HCL.out (HC1.out _ HU.out) (by omega) ?_; intro w2 n2 F2; have H2 : Hid (NmAt w2 W.heap.size (len + 70) (lentTo len f len) ∧ Up W w2) := ⟨n2.congr (fun k _ => lentTo_0 len f k), Fr.up HU.out (Nat.le_refl _) F2⟩; clear n2 F2))
  try simp only [Act.put, goInt, List.setIfInBounds_toArray, List.set_cons_zero, List.set_cons_succ]
  clear HM HC1 HCL HD HU
  generalize hg : W.heap.size = g at H2 ⊢
  have HG : Hid (W.heap.size ≤ g) := Nat.le_of_eq hg
  clear hg
  go_loopw [4] (fun I wr => ∃ i : Nat, len ≤ i ∧ i ≤ len + 70 ∧ I = .int .i64 i ∧ Hid (NmAt wr g (len + 70) (lentTo len f i) ∧ Up W wr)) (fun I _ => len + 70 - (intOf I).toNat)
  case atStart => exact ⟨len, by omega, by omega, rfl, H2⟩
  case round =>
    clear H2
    obtain ⟨i, hi, hi2, rfl, M0⟩ := hrel
    by_cases hlt : i < len + 70
    · have d1 : decide ((i : Int) < (len : Int) + 70) = true := decide_eq_true (by omega)
      have e1 : (i : Int) < ((len + 70 : Nat) : Int) := by omega
      have d2 : decide ((i : Int) < ((len + 70 : Nat) : Int)) = true := decide_eq_true (by omega)
      have kc := M0.out.1.cell i hlt
      have kf := M0.out.1.fz i
      have HS : Hid (NmAt (wr.setCell ⟨g, i, none⟩ (.int .u8 77)) g (len + 70) (lentTo len f (i + 1)) ∧ Up W (wr.setCell ⟨g, i, none⟩ (.int .u8 77))) := ⟨(M0.out.1.set i hlt 77).congr (fun k _ => lentTo_set len f i hi k), M0.out.2.setCell HG.out _⟩
      clear M0
      go_wp2_with fail
      refine ⟨⟨i + 1, by omega, by omega, ?_, HS⟩, ?_⟩
      · first | rfl | (simp; done)
      · simp [intOf]
        omega
    · have d1 : decide ((i : Int) < (len : Int) + 70) = false := decide_eq_false (by omega)
      have d2 : decide ((i : Int) < ((len + 70 : Nat) : Int)) = false := decide_eq_false (by omega)
      have M1 : Hid (NmAt wr g (len + 70) (lentF len f) ∧ Up W wr) := ⟨M0.out.1.congr (fun k hk => lentTo_F len f i k hk (by omega)), M0.out.2⟩
      clear M0
      go_wp2_with fail
      go_ret
      exact ⟨g, by first | rfl | (simp; done), HG.out, M1.out⟩
def backTo (h : Nat → Int) (i k : Nat) : Int := if k < i then 78 else h k
theorem backTo_set (h : Nat → Int) (i k : Nat) : (if k = i then 78 else backTo h i k) = backTo h (i + 1) k := by
  unfold backTo
  repeat' split
  all_goals first | omega | rfl
set_option maxRecDepth 100000 in
set_option maxHeartbeats 1000000 in
/-- lent bytes are as they were; then they are written over -/
theorem back_any {W : World} {aa : Option Addr} {ab ao len cap g : Nat} {f : Nat → Int} (D : Byts W aa ab ao len cap f) (hl : len ≤ 140737488351232) (hN : NmAt W g (len + 70) (lentF len f)) (hg : 0 < len → ab ≠ g) : Calls Try.prog 39 #[.slice (some ⟨g, 0, none⟩) len (len + 70), .slice aa len cap] W fun e w' => e = .returned (.bool true) ∧ Fr g W w' := by
  have HD : Hid (∀ w', Fr g W w' → Byts w' aa ab ao len cap f) := fun w' fr => ⟨D.lc, D.cm, D.ad, D.u8, fun k hk => (fr.cell (World.block_lt_of_cell? _ _ (D.cell k hk)) (hg (by omega))).trans (D.cell k hk)⟩
  have l1 := D.lc
  have l2 : cap ≤ 9223372036854775807 := by have := D.cm; unfold maxLen at this; omega
  have H0 : Hid (NmAt W g (len + 70) (backTo (lentF len f) 0) ∧ Fr g W W) := ⟨hN.congr (fun k _ => by unfold backTo; rw [if_neg (by omega)]), Fr.refl g W⟩
  clear D hN hg
  have e70 : (len : Int) + 70 ≤ ((len + 70 : Nat) : Int) := by omega
  have e71 : (0 : Int) ≤ (len : Int) + 70 := by omega
  go_enter Try.func39, Try.ntmps39
  go_wp2_with fail
  go_loopw [6, 7, 8] (fun B I _ wr => ∃ i : Nat, i ≤ len + 70 ∧ B = .bool true ∧ I = .int .i64 i ∧ Hid (NmAt wr g (len + 70) (backTo (lentF len f) i) ∧ Fr g W wr)) (fun _ I _ _ => len + 70 - (intOf I).toNat)
  case atStart => exact ⟨0, by omega, rfl, rfl, H0⟩
  case round =>
    clear H0
    obtain ⟨i, hi, rfl, rfl, M0⟩ := hrel
    by_cases hlt : i < len + 70
    · have d1 : decide ((i : Int) < (len : Int) + 70) = true := decide_eq_true (by omega)
      have e1 : (i : Int) < ((len + 70 : Nat) : Int) := by omega
      have d2 : decide ((i : Int) < ((len + 70 : Nat) : Int)) = true := decide_eq_true (by omega)
      have e3 : (i : Int) < (len : Int) + 70 := by omega
      have kc := M0.out.1.cell i hlt
      have kf := M0.out.1.fz i
      have HS : Hid (NmAt (wr.setCell ⟨g, i, none⟩ (.int .u8 78)) g (len + 70) (backTo (lentF len f) (i + 1)) ∧ Fr g W (wr.setCell ⟨g, i, none⟩ (.int .u8 78))) := ⟨(M0.out.1.set i hlt 78).congr (fun k _ => backTo_set _ i k), M0.out.2.setCell⟩
      have eb : backTo (lentF len f) i i = lentF len f i := by unfold backTo; rw [if_neg (by omega)]
      rw [eb] at kc
      by_cases hc : i < len
      · have d3 : decide ((i : Int) < (len : Int)) = true := decide_eq_true (by omega)
        have e4 : (i : Int) < (len : Int) := by omega
        have bd := HD.out wr M0.out.2
        obtain rfl := bd.ad (by omega)
        have kd := bd.cell i hc
        have ef : lentF len f i = f i := if_pos hc
        rw [ef] at kc
        clear M0 bd eb ef HD
        go_wp2_with fail
        refine ⟨⟨i + 1, by omega, ?_, ?_, HS⟩, ?_⟩
        · first | rfl | (simp; done)
        · first | rfl | (simp; done)
        · simp [intOf]
          omega
      · have d3 : decide ((i : Int) < (len : Int)) = false := decide_eq_false (by omega)
        have ef : lentF len f i = 77 := if_neg hc
        rw [ef] at kc
        clear M0 eb ef HD
        go_wp2_with fail
        refine ⟨⟨i + 1, by omega, ?_, ?_, HS⟩, ?_⟩
        · first | rfl | (simp; done)
        · first | rfl | (simp; done)
        · simp [intOf]
          omega
    · have d1 : decide ((i : Int) < (len : Int) + 70) = false := decide_eq_false (by omega)
      have d2 : decide ((i : Int) < ((len + 70 : Nat) : Int)) = false := decide_eq_false (by omega)
      go_wp2_with fail
      go_ret
      exact ⟨by first | rfl | (simp; done), M0.out.2⟩
end Go.Proofs.Ytmjfccdhjhkocaa
/- Rows of bytes of one's own. -/
namespace Go.Proofs.Ytmjfccdhjhkocaa
open Go.RowKit
set_option linter.unusedVariables false
variable {b : Nat} {p : Pic}
/-- a row of bytes as a list of values -/
def rowL (F : Nat → Int) (n : Nat) : List Value := (List.range n).map fun k => .int .u8 (F k)
theorem rowL_len (F : Nat → Int) (n : Nat) : (rowL F n).length = n := by unfold rowL; simp
theorem rowL_succ (F : Nat → Int) (n : Nat) : rowL F (n + 1) = rowL F n ++ [.int .u8 (F n)] := by
  unfold rowL
  rw [List.range_succ, List.map_append]
  rfl
theorem rowL_four (F : Nat → Int) (n : Nat) : rowL F (n + 4) = rowL F n ++ [.int .u8 (F n), .int .u8 (F (n + 1)), .int .u8 (F (n + 2)), .int .u8 (F (n + 3))] := by
  rw [show n + 4 = n + 1 + 1 + 1 + 1 by omega, rowL_succ, rowL_succ, rowL_succ, rowL_succ]
  simp [List.append_assoc]
theorem rowL_at (F : Nat → Int) (n k : Nat) (h : k < n) : (rowL F n)[k]? = some (.int .u8 (F k)) := by
  unfold rowL
  rw [List.getElem?_map, List.getElem?_range h]
  rfl
theorem rowL_one (F : Nat → Int) (n : Nat) : ∀ v ∈ rowL F n, v.oneCell' = true := by
  intro v hv
  unfold rowL at hv
  obtain ⟨k, _, rfl⟩ := List.mem_map.1 hv
  rfl
theorem rowL_congr {F H : Nat → Int} (n : Nat) (h : ∀ k, k < n → F k = H k) : rowL F n = rowL H n := by
  unfold rowL
  apply List.map_congr_left
  intro k hk
  rw [h k (List.mem_range.1 hk)]
/-- a row of one's own is a slice of bytes -/
theorem own_byts {w : World} {base n : Nat} {v : Value} {F : Nat → Int} (h : w.ownsRow base 5 1 v n (rowL F n)) (hF : ∀ k, 0 ≤ F k ∧ F k ≤ 255) : ∃ oa ob oc, v = .slice oa n oc ∧ Byts w oa ob 0 n oc F ∧ (0 < n → base ≤ ob ∧ oa = some ⟨ob, 0, none⟩ ∧ v.ownBlock = some ob) := by
  rcases h.2 with ⟨hv, hn⟩ | ⟨g, cap, cur, hv, hb, hg, hc, hm, hs, ht⟩
  · subst hn
    exact ⟨none, 0, 0, hv, ⟨Nat.le_refl _, Nat.zero_le _, fun h => absurd h (by decide), hF, fun k hk => absurd hk (by omega)⟩, fun h => absurd h (by decide)⟩
  · refine ⟨some ⟨g, 0, none⟩, g, cap, hv, ⟨hc, hm, fun _ => rfl, hF, fun k hk => ?_⟩, fun _ => ⟨hb, rfl, by rw [hv]; rfl⟩⟩
    have := h.cells (g := g) (by rw [hv]; rfl) k _ (rowL_at F n k hk)
    rw [Addr.add_lit] at this
    exact this
/-- a row of one's own behind some world -/
structure Ow (W : World) (F : Nat → Int) (n : Nat) (v : Value) (w : World) : Prop where
  own : w.ownsRow W.heap.size 5 1 v n (rowL F n)
  up : Up W w
theorem Ow.app {W w w' : World} {F : Nat → Int} {n m : Nat} {v v' : Value} {o : Obj} (h : Ow W F n v w) (hg : (w.alloc o).grownBy w' v.ownBlock) (ho : w'.ownsRow W.heap.size 5 1 v' m (rowL F m)) : Ow W F m v' w' := by
  have u : Up w (w.alloc o) := (Up.refl w).alloc o
  refine ⟨ho, ⟨hg.os.trans h.up.os, hg.output.trans h.up.output, Nat.le_trans h.up.size (Nat.le_trans u.size hg.size), fun k hk => ?_⟩⟩
  have hk2 := Nat.lt_of_lt_of_le hk h.up.size
  refine (hg.block k (Nat.lt_of_lt_of_le hk2 u.size) (fun e => ?_)).trans ((u.block k hk2).trans (h.up.block k hk))
  have := (h.own.lt k e.symm).1
  omega
theorem Ow.alloc {W w : World} {F : Nat → Int} {n : Nat} {v : Value} (h : Ow W F n v w) (o : Obj) : Ow W F n v (w.alloc o) := ⟨h.own.alloc o, h.up.alloc o⟩
end Go.Proofs.Ytmjfccdhjhkocaa
/- All that a picture shows without being changed. -/
namespace Go.Proofs.Ytmjfccdhjhkocaa
open Go.RowKit
set_option linter.unusedVariables false
variable {b : Nat} {p : Pic}
def Pic.rdR (p : Pic) (n : Nat) : Int := if n = 1 then p.statB else if n = 6 then 255 else p.rg n
theorem rdR_b (i : p.In) (n : Nat) : 0 ≤ p.rdR n ∧ p.rdR n ≤ 255 := by
  unfold Pic.rdR
  split
  · exact Pic.statB_b i
  · split
    · decide
    · exact i.rg n
theorem readReg_any (i : p.In) (n : Nat) (hn : n < 12) (W : World) (h : PxAt W b p) : Calls Try.prog 20 #[.pointer (some ⟨b, 0, none⟩), .int .i64 (65344 + (n : Int))] W fun e w' => e = .returned (.int .i64 (p.rdR n)) ∧ ∃ m, w' = W.drewN m := by
  have same : ∀ {e : Ending} {w' : World} {x : Int}, (e = .returned (.int .i64 x) ∧ w' = W) → e = .returned (.int .i64 x) ∧ ∃ m, w' = W.drewN m := fun ⟨h1, h2⟩ => ⟨h1, 0, h2⟩
  have gen : ∀ (k : Nat), k < 12 → k ≠ 1 → k ≠ 6 → (∀ W, PxAt W b p → Calls Try.prog 47 #[.pointer (some ⟨b, 0, none⟩), .int .i64 (k : Int)] W fun e w' => e = .returned (.int .u8 (p.rg k)) ∧ w' = W) → Calls Try.prog 20 #[.pointer (some ⟨b, 0, none⟩), .int .i64 (65344 + (k : Int))] W fun e w' => e = .returned (.int .i64 (p.rdR k)) ∧ ∃ m, w' = W.drewN m := fun k hk k1 k6 M => by
    have e : p.rdR k = p.rg k := by unfold Pic.rdR; rw [if_neg k1, if_neg k6]
    rw [e]
    exact (readR_any k hk _ (p.rg k) rfl (i.rg k).1 (i.rg k).2 W h M).mono fun e w' h => same h
  have : n = 0 ∨ n = 1 ∨ n = 2 ∨ n = 3 ∨ n = 4 ∨ n = 5 ∨ n = 6 ∨ n = 7 ∨ n = 8 ∨ n = 9 ∨ n = 10 ∨ n = 11 := by omega
  rcases this with rfl | rfl | rfl | rfl | rfl | rfl | rfl | rfl | rfl | rfl | rfl | rfl
  · exact gen 0 (by decide) (by decide) (by decide) (fun W h => rreg0_any W h)
  · exact readStatR_any i W h
  · exact gen 2 (by decide) (by decide) (by decide) (fun W h => rreg2_any W h)
  · exact gen 3 (by decide) (by decide) (by decide) (fun W h => rreg3_any W h)
  · exact gen 4 (by decide) (by decide) (by decide) (fun W h => rreg4_any W h)
  · exact gen 5 (by decide) (by decide) (by decide) (fun W h => rreg5_any W h)
  · exact (readR_any 6 (by decide) _ 255 rfl (by decide) (by decide) W h (fun W _ => rreg6_any W)).mono fun e w' h => same h
  · exact gen 7 (by decide) (by decide) (by decide) (fun W h => rreg7_any W h)
  · exact gen 8 (by decide) (by decide) (by decide) (fun W h => rreg8_any W h)
  · exact gen 9 (by decide) (by decide) (by decide) (fun W h => rreg9_any W h)
  · exact gen 10 (by decide) (by decide) (by decide) (fun W h => rreg10_any W h)
  · exact gen 11 (by decide) (by decide) (by decide) (fun W h => rreg11_any W h)
def hidF (p : Pic) (k : Nat) : Int := if k = 0 then p.rg 4 else if k = 1 then p.clk / 4 else if k < 14 then p.rdR (k - 2) else p.sh (k - 14)
theorem hid_step (p : Pic) (n : Nat) (hn : n < 12) : rowL (hidF p) (2 + (n + 1)) = rowL (hidF p) (2 + n) ++ [.int .u8 (p.rdR n)] := by
  rw [show 2 + (n + 1) = 2 + n + 1 by omega, rowL_succ]
  have : hidF p (2 + n) = p.rdR n := by
    unfold hidF
    rw [if_neg (by omega), if_neg (by omega), if_pos (by omega), show 2 + n - 2 = n by omega]
  rw [this]
theorem hid_last (p : Pic) : ∀ m, rowL (hidF p) (14 + m) = rowL (hidF p) 14 ++ rowL p.sh m := by
  intro m
  induction m with
  | zero => simp [rowL]
  | succ m ih =>
    rw [show 14 + (m + 1) = 14 + m + 1 by omega, rowL_succ, ih, rowL_succ p.sh m, List.append_assoc]
    have : hidF p (14 + m) = p.sh m := by
      unfold hidF
      rw [if_neg (by omega), if_neg (by omega), if_neg (by omega), show 14 + m - 14 = m by omega]
    rw [this]
theorem strN_size (n : Nat) (f : Nat → Int) : (strN n f).size = n := by
  unfold strN
  rw [strOfNums_size, List.length_map, List.length_range']
theorem conv_cells {w : World} {g n c : Nat} {f : Nat → Int} (h : ∀ k, k < n → w.cell? ⟨g, k, none⟩ = some (.int .u8 (f k))) : (convert 23 9 (.slice (some ⟨g, 0, none⟩) n c)).run Try.prog w = .ok (.string (strN n f)) w := by
  refine run_convert_bytes_arg w 23 5 Try.underlying23 Try.underlying5 g 0 n c ((List.range' 0 n).map f) (by rw [List.length_map, List.length_range']) (fun i hi => ?_) 9 Try.underlying9
  rw [Nat.zero_add, h i hi]
  congr 2
  unfold List.getD
  rw [List.getElem?_map, List.getElem?_range' hi]
  simp
theorem Ow.drewN {W w : World} {F : Nat → Int} {n : Nat} {v : Value} (h : Ow W F n v w) (m : Nat) : Ow W F n v (w.drewN m) := ⟨h.own, h.up.trans (Up.drewN w m)⟩
theorem Ow.moreU {W w w' : World} {F : Nat → Int} {n : Nat} {v : Value} (h : Ow W F n v w) (u : Up w w') : Ow W F n v w' := by
  refine ⟨⟨h.own.1, ?_⟩, h.up.trans u⟩
  rcases h.own.2 with hn | ⟨g, cap, cur, e, hb, hg, rest⟩
  · exact Or.inl hn
  · exact Or.inr ⟨g, cap, cur, e, hb, (u.block g (Array.getElem?_eq_some_iff.1 hg).1).trans hg, rest⟩
set_option maxRecDepth 100000 in
set_option maxHeartbeats 1000000 in
theorem hidden_any {A B : ByteArray} (hA : A = strN 23054 (hidF p)) (hB : B = strN 19887 p.st) (s : Sane p) (W : World) (h : PxAt W b p) : Calls Try.prog 36 #[.pointer (some ⟨b, 0, none⟩)] W fun e w' => e = .returned (.string (A ++ B)) ∧ Up W w' := by
  have HS : Hid (Sane p) := s
  have HA : Hid (∀ w g c, (∀ k, k < 23054 → w.cell? ⟨g, k, none⟩ = some (.int .u8 (hidF p k))) → (convert 23 9 (.slice (some ⟨g, 0, none⟩) 23054 c)).run Try.prog w = .ok (.string A) w) := fun w g c n => by rw [hA]; exact conv_cells n
  have HB : Hid (∀ w g c, NmAt w g 19887 p.st → (convert 23 9 (.slice (some ⟨g, 0, none⟩) 19887 c)).run Try.prog w = .ok (.string B) w) := fun w g c n => by rw [hB]; exact n.conv c
  have hsz : ¬ (9223372036854775807 < A.size + B.size) := by rw [hA, hB, strN_size, strN_size]; decide
  clear hA hB
  have HX : Hid (∀ w', Up W w' → PxAt w' b p) := fun w' u => h.up u
  have HL : Hid _ := line_any s.inn W h
  have HR : Hid (∀ (n : Nat) (w : World), n < 12 → PxAt w b p → Calls Try.prog 20 #[.pointer (some ⟨b, 0, none⟩), .int .i64 (65344 + (n : Int))] w fun e w' => e = .returned (.int .i64 (p.rdR n)) ∧ ∃ m, w' = w.drewN m) := fun n w hn h => readReg_any s.inn n hn w h
  have HRb : Hid (∀ n : Nat, 0 ≤ p.rdR n ∧ p.rdR n ≤ 255) := fun n => rdR_b s.inn n
  have a0 := (s.inn.rg 4).1
  have a1 := (s.inn.rg 4).2
  have c0 := s.c0
  have c9 := s.c9
  have hie : Try.prog.info? 5 = some Try.t5 := by kernel_rfl
  clear s h
  go_enter Try.func36, Try.ntmps36
  go_wp2_with fail
  refine Calls.mono HL.out ?_
  rintro e w1 ⟨rfl, m1, rfl⟩
  have u1 := Up.drewN W m1
  generalize W.drewN m1 = w1 at u1 ⊢
  have H1 : Hid (Up W w1) := u1
  clear u1 HL
  go_wp2_with fail
  have H2 : Hid (Ow w1 (hidF p) (2 + 0) (.slice (some ⟨w1.heap.size, 0, none⟩) 2 2) (w1.alloc (Obj.cells #[.int .u8 (p.rg 4), .int .u8 (p.clk / 4)] 5))) := ⟨⟨rfl, Or.inr ⟨w1.heap.size, 2, #[.int .u8 (p.rg 4), .int .u8 (p.clk / 4)], rfl, Nat.le_refl _, heap_alloc_new w1 _, Nat.le_refl _, by decide, rfl, rfl⟩⟩, (Up.refl w1).alloc _⟩
  generalize World.alloc w1 _ = w2 at H2 ⊢
  go_loopw [5, 6] (fun V I wr => ∃ i : Nat, i ≤ 12 ∧ I = .int .i64 (65344 + (i : Int)) ∧ Hid (Ow w1 (hidF p) (2 + i) V wr)) (fun _ I _ => (65356 - intOf I).toNat)
  case atStart => exact ⟨0, by omega, rfl, H2⟩
  case round =>
    clear H2
    obtain ⟨i, hi, rfl, M0⟩ := hrel
    by_cases hlt : i < 12
    · have d1 : decide (65344 + (i : Int) < 65356) = true := decide_eq_true (by omega)
      have e1 : 65344 + (i : Int) < 65356 := by omega
      have HR1 : Hid _ := HR.out i wr hlt (HX.out _ (H1.out.trans M0.out.up))
      obtain ⟨r0, r1⟩ := HRb.out i
      have HN : Hid _ := hid_step p i hlt
      have HSz : Hid (w1.heap.size ≤ wr.heap.size) := M0.out.up.size
      generalize p.rdR i = RV at *
      go_wp2_with fail
      refine Calls.mono HR1.out ?_
      rintro e w3 ⟨rfl, m3, rfl⟩
      have M3 : Hid (Ow w1 (hidF p) (2 + i) u5 (wr.drewN m3)) := M0.out.drewN m3
      have HSz3 : Hid (w1.heap.size ≤ (wr.drewN m3).heap.size) := HSz.out
      clear HR1 M0 HSz
      generalize wr.drewN m3 = w3 at M3 HSz3 ⊢
      go_wp2_with (at_builtin; refine wpList_append_own _ rfl _ _ 23 rfl w1.heap.size 5 Try.t5 (.int .u8 0) 1 1 Try.underlying23 hie rfl rfl rfl rfl (by decide) _ _ _ rfl (M3.out.own.alloc _) ⟨w3.heap.size, 0, none⟩ 1 1 [.int .u8 RV] rfl rfl ?c1 ?c2 ?c3 ?c4 ?c5 ?_)
      case c1 =>
        intro j u hu
        match j, hu with
        | 0, hu => simp at hu; subst hu; simp [Addr.add]
      case c2 => intro u hu; simp at hu; subst hu; rfl
      case c3 => unfold maxLen; omega
      case c4 => omega
      case c5 => have := HSz3.out; simp; omega
      · intro v' w4 hown' hgrow _
        have HA4 : Hid (Ow w1 (hidF p) (2 + (i + 1)) v' w4) := M3.out.app hgrow (by rw [HN.out, show 2 + (i + 1) = 2 + i + 1 by omega]; exact hown')
        clear hgrow hown' M3 HN
        go_wp2_with fail
        refine ⟨⟨i + 1, by omega, ?_, HA4⟩, ?_⟩
        · first | rfl | (simp; done) | (simp; omega)
        · simp [intOf]
          omega
    · have d1 : decide (65344 + (i : Int) < 65356) = false := decide_eq_false (by omega)
      obtain rfl : i = 12 := by omega
      have HFr : Hid _ := frame_any wr (HX.out _ (H1.out.trans M0.out.up))
      clear HR HRb d1 hlt hi
      generalize hfg : wr.heap.size = fg at HFr
      have HFG : Hid (wr.heap.size ≤ fg) := Nat.le_of_eq hfg
      clear hfg
      go_wp2_with fail
      refine Calls.mono HFr.out ?_
      rintro e w5 ⟨rfl, n5, u5'⟩
      have M5 : Hid (Ow w1 (hidF p) 14 u5 w5) := M0.out.moreU u5'
      have H5 : Hid (NmAt w5 fg 23040 p.sh) := n5
      have HSz5 : Hid (w1.heap.size ≤ w5.heap.size) := M5.out.up.size
      clear n5 u5' HFr M0
      have HL40 : Hid ((rowL p.sh 23040).length = 23040 * 1) := rowL_len _ 23040
      have HO40 : Hid (∀ v ∈ rowL p.sh 23040, v.oneCell' = true) := rowL_one _ 23040
      have HA40 : Hid (∀ j u, (rowL p.sh 23040)[j]? = some u → w5.cell? ((⟨fg, 0, none⟩ : Addr).add j) = some u) := fun j u hu => by
        have hj : j < 23040 := by
          have := (List.getElem?_eq_some_iff.1 hu).1
          rw [rowL_len] at this
          exact this
        rw [rowL_at _ 23040 j hj] at hu
        rw [Addr.add_lit, Nat.zero_add, ← hu]
        exact H5.out.cell j hj
      have HNL : Hid (rowL (hidF p) 23054 = rowL (hidF p) 14 ++ rowL p.sh 23040) := hid_last p 23040
      have HZ : Hid (∀ v' w6, w5.grownBy w6 u5.ownBlock → w6.ownsRow w1.heap.size 5 1 v' (14 + 23040) (rowL (hidF p) 14 ++ rowL p.sh 23040) → Ow w1 (hidF p) 23054 v' w6) := fun v' w6 hg ho => by
        refine ⟨by rw [HNL.out]; exact ho, ⟨hg.os.trans M5.out.up.os, hg.output.trans M5.out.up.output, Nat.le_trans M5.out.up.size hg.size, fun k hk => ?_⟩⟩
        refine (hg.block k (Nat.lt_of_lt_of_le hk M5.out.up.size) (fun e => ?_)).trans (M5.out.up.block k hk)
        have := (M5.out.own.lt k e.symm).1
        omega
      have HOw : Hid (w5.ownsRow w1.heap.size 5 1 u5 14 (rowL (hidF p) 14)) := M5.out.own
      generalize rowL p.sh 23040 = XL at *
      generalize rowL (hidF p) 14 = YL at *
      clear HNL
      go_wp2_with (at_builtin; refine wpList_append_own _ rfl _ _ 23 rfl w1.heap.size 5 Try.t5 (.int .u8 0) 1 1 Try.underlying23 hie rfl rfl rfl rfl (by decide) _ 14 YL rfl HOw.out ⟨fg, 0, none⟩ 23040 23040 XL rfl HL40.out HA40.out HO40.out (by unfold maxLen; omega) (by omega) HSz5.out ?_; intro v' w6 hown' hgrow _)
      have M6 : Hid (Ow w1 (hidF p) 23054 v' w6) := HZ.out v' w6 hgrow hown'
      clear hgrow hown' HZ HL40 HO40 HA40 HOw M5 H5 HSz5
      have hob := M6.out.own.2
      rcases hob with ⟨hv0, hn0⟩ | ⟨ob, oc, cur, hv, hb1, hg1, hc1, hm1, hs1, ht1⟩
      · exact absurd hn0 (by omega)
      subst hv
      have HCv : Hid (∀ w', Up w6 w' → (convert 23 9 (.slice (some ⟨ob, 0, none⟩) 23054 oc)).run Try.prog w' = .ok (.string A) w') := fun w' u => HA.out w' ob oc (fun k hk => by
        have := M6.out.own.cells (g := ob) rfl k _ (rowL_at (hidF p) 23054 k hk)
        rw [Addr.add_lit, Nat.zero_add] at this
        exact (u.cell (World.block_lt_of_cell? _ _ this)).trans this)
      have HUW : Hid (∀ w', Up w6 w' → Up W w') := fun w' u => (H1.out.trans M6.out.up).trans u
      have HSt : Hid (∀ w', Up w6 w' → Calls Try.prog 35 #[.pointer (some ⟨b, 0, none⟩)] w' fun e w'' => ∃ sg, e = .returned (.slice (some ⟨sg, 0, none⟩) 19887 19887) ∧ NmAt w'' sg 19887 p.st ∧ Up w' w'') := fun w' u => (state_any HS.out w' (HX.out _ (HUW.out _ u))).mono fun e w'' ⟨a1, a2, a3⟩ => ⟨_, a1, a2, a3⟩
      clear hb1 hg1 hc1 hm1 hs1 ht1 M6 HA H1 HX HS
      refine wp_region_held_drew (S := fun w' => Up w6 w') (by kernel_rfl) ?_ (fun hHeld => ?_)
      · (try dsimp only); exact (Up.refl _).drew
      refine wpAnyH_take (i := 0) (v := ?_) (by simp only [List.getElem?_toArray, List.getElem?_cons_zero]; rfl) (by kernel_rfl) (by kernel_rfl) (by kernel_rfl) (by intro _ _ _ h; exact h) (Or.inl ⟨by rfl, ?_⟩) (by assumption) ?_
      rotate_left
      · (intro w hSw; (try dsimp only at hSw); go_simp <;> with_reducible rfl)
      try simp only [Act.put, List.setIfInBounds_toArray, List.set_cons_zero, List.set_cons_succ]
      refine wpAnyH_take (i := 1) (v := .string A) (by simp only [List.getElem?_toArray, List.getElem?_cons_succ, List.getElem?_cons_zero]; rfl) (by kernel_rfl) (by kernel_rfl) (by kernel_rfl) (by intro _ _ _ h; exact h) (Or.inl ⟨by rfl, ?_⟩) (by assumption) ?_
      · intro w hSw
        have hcv := HCv.out w hSw
        go_simp
      try simp only [Act.put, List.setIfInBounds_toArray, List.set_cons_zero, List.set_cons_succ]
      refine wpAnyH_take (i := 2) (v := ?_) (by simp only [List.getElem?_toArray, List.getElem?_cons_succ, List.getElem?_cons_zero]; rfl) (by kernel_rfl) (by kernel_rfl) (by kernel_rfl) (by intro _ _ _ h; exact h) (Or.inl ⟨by rfl, ?_⟩) (by assumption) ?_
      rotate_left
      · (intro w hSw; (try dsimp only at hSw); go_simp <;> with_reducible rfl)
      try simp only [Act.put, List.setIfInBounds_toArray, List.set_cons_zero, List.set_cons_succ]
      refine wpAnyH_ready (rs := [3]) (by kernel_rfl) (by simp) ?_
      refine AllReadyH.cons (by simp only [List.getElem?_toArray, List.getElem?_cons_succ, List.getElem?_cons_zero]; rfl) (fun K hK => ?_) AllReadyH.nil
      go_simp
      refine (HSt.out _ (Up.refl _).drew).mono ?_
      rintro e w8 ⟨sg, rfl, n8, u8⟩
      have hc8 := HB.out w8 sg 19887 n8
      have hu8 : Up w6 w8 := (Up.refl w6).drew.trans u8
      refine hK.out _ _ ?_ (fun hHeld => ?_)
      · (try dsimp only); exact hu8
      clear hK K
      try simp only [Act.put, List.setIfInBounds_toArray, List.set_cons_zero, List.set_cons_succ]
      refine wpAnyH_ready (rs := [4]) (by kernel_rfl) (by simp) ?_
      refine AllReadyH.cons (by simp only [List.getElem?_toArray, List.getElem?_cons_succ, List.getElem?_cons_zero]; rfl) (fun K hK => ?_) AllReadyH.nil
      go_simp
      refine hK.out _ _ ?_ (fun hHeld => ?_)
      · (try dsimp only); exact hu8
      clear hK K
      try simp only [Act.put, List.setIfInBounds_toArray, List.set_cons_zero, List.set_cons_succ]
      refine wpAnyH_take (i := 5) (v := ?_) (by simp only [List.getElem?_toArray, List.getElem?_cons_succ, List.getElem?_cons_zero]; rfl) (by kernel_rfl) (by kernel_rfl) (by kernel_rfl) (by intro _ _ _ h; exact h) (Or.inl ⟨by rfl, ?_⟩) (by assumption) ?_
      rotate_left
      · (intro w hSw; (try dsimp only at hSw); go_simp <;> with_reducible rfl)
      try simp only [Act.put, List.setIfInBounds_toArray, List.set_cons_zero, List.set_cons_succ]
      refine wpAnyH_take (i := 6) (v := ?_) (by simp only [List.getElem?_toArray, List.getElem?_cons_succ, List.getElem?_cons_zero]; rfl) (by kernel_rfl) (by kernel_rfl) (by kernel_rfl) (by intro _ _ _ h; exact h) (Or.inl ⟨by rfl, ?_⟩) (by assumption) ?_
      rotate_left
      · (intro w hSw; (try dsimp only at hSw); go_simp <;> with_reducible rfl)
      try simp only [Act.put, List.setIfInBounds_toArray, List.set_cons_zero, List.set_cons_succ]
      refine wpAnyH_done (by kernel_rfl) ?_ _
      have HU8 : Hid (Up W w8) := HUW.out _ hu8
      clear n8 u8 hc8 hu8 HSt HCv
      go_wp2_with fail
      go_ret
      exact ⟨by first | rfl | (simp; done), HU8.out⟩
end Go.Proofs.Ytmjfccdhjhkocaa
/- Two pictures side by side, and a row of bytes. -/
namespace Go.Proofs.Ytmjfccdhjhkocaa
open Go.RowKit
set_option linter.unusedVariables false
variable {b : Nat} {p : Pic}
/-- two pictures and a state's bytes behind W -/
structure Ld (W : World) (bx bw g : Nat) (q r : Pic) (F : Nat → Int) (w : World) : Prop where
  px : PxAt w bx q
  py : PxAt w bw r
  own : NmAt w g 19887 F
  up : Up W w
structure Lb (W : World) (bx bw g : Nat) : Prop where
  sx : W.heap.size ≤ bx
  sy : W.heap.size ≤ bw
  sg : W.heap.size ≤ g
  xy : bx ≠ bw
  xg : bx ≠ g
  yg : bw ≠ g
variable {W w w' : World} {bx bw g : Nat} {q r q' : Pic} {F F' : Nat → Int}
theorem Ld.onX (h : Ld W bx bw g q r F w) (B : Lb W bx bw g) (hp : PxAt w' bx q') (f : Fr bx w w') : Ld W bx bw g q' r F w' :=
  ⟨hp, h.py.frB f (fun e => B.xy e.symm), h.own.frN f (fun e => B.xg e.symm), Fr.up h.up B.sx f⟩
theorem Ld.onY (h : Ld W bx bw g q r F w) (B : Lb W bx bw g) (hp : PxAt w' bw q') (f : Fr bw w w') : Ld W bx bw g q q' F w' :=
  ⟨h.px.frB f B.xy, hp, h.own.frN f (fun e => B.yg e.symm), Fr.up h.up B.sy f⟩
theorem Ld.onG (h : Ld W bx bw g q r F w) (B : Lb W bx bw g) (hp : NmAt w' g 19887 F') (f : Fr g w w') : Ld W bx bw g q r F' w' :=
  ⟨h.px.frB f B.xg, h.py.frB f B.yg, hp, Fr.up h.up B.sg f⟩
theorem Ld.more (h : Ld W bx bw g q r F w) (u : Up w w') : Ld W bx bw g q r F w' :=
  ⟨h.px.up u, h.py.up u, h.own.of_block (u.block _ h.own.lt), h.up.trans u⟩
/-- a row that lies elsewhere is written -/
theorem Ld.far (h : Ld W bx bw g q r F w) {c : Nat} (hc : W.heap.size ≤ c) (cx : c ≠ bx) (cy : c ≠ bw) (cg : c ≠ g) (f : Fr c w w') : Ld W bx bw g q r F w' :=
  ⟨h.px.frB f (fun e => cx e.symm), h.py.frB f (fun e => cy e.symm), h.own.frN f (fun e => cg e.symm), Fr.up h.up hc f⟩
theorem Ld.tickX (h : Ld W bx bw g q r F w) (B : Lb W bx bw g) (s : Sane q) {M : Nat} (hM : M = 40) :
    Calls Try.prog 22 #[.pointer (some ⟨bx, 0, none⟩)] w fun e w' => e = .returned (.int .i64 (q.tickA (Pic.lineA M))) ∧ Ld W bx bw g (q.tickP (Pic.lineA M)) r F w' :=
  (s.tickC hM w h.px).mono fun e w' ⟨h1, h2, h3⟩ => ⟨h1, h.onX B h2 h3⟩
theorem Ld.tickY (h : Ld W bx bw g q r F w) (B : Lb W bx bw g) (s : Sane r) {M : Nat} (hM : M = 40) :
    Calls Try.prog 22 #[.pointer (some ⟨bw, 0, none⟩)] w fun e w' => e = .returned (.int .i64 (r.tickA (Pic.lineA M))) ∧ Ld W bx bw g q (r.tickP (Pic.lineA M)) F w' :=
  (s.tickC hM w h.py).mono fun e w' ⟨h1, h2, h3⟩ => ⟨h1, h.onY B h2 h3⟩
theorem Ld.writeX (h : Ld W bx bw g q r F w) (B : Lb W bx bw g) (a x : Int) :
    Calls Try.prog 18 #[.pointer (some ⟨bx, 0, none⟩), .int .i64 a, .int .i64 x] w fun e w' => e = .returned (.tuple #[]) ∧ Ld W bx bw g (q.wr a x) r F w' :=
  (write_any a x w h.px).mono fun e w' ⟨h1, h2, h3⟩ => ⟨h1, h.onX B h2 h3⟩
theorem Ld.writeY (h : Ld W bx bw g q r F w) (B : Lb W bx bw g) (a x : Int) :
    Calls Try.prog 18 #[.pointer (some ⟨bw, 0, none⟩), .int .i64 a, .int .i64 x] w fun e w' => e = .returned (.tuple #[]) ∧ Ld W bx bw g q (r.wr a x) F w' :=
  (write_any a x w h.py).mono fun e w' ⟨h1, h2, h3⟩ => ⟨h1, h.onY B h2 h3⟩
theorem Ld.refuse (h : Ld W bx bw g q r F w) (B : Lb W bx bw g) {aa : Option Addr} {ab ao len cap : Nat} {f : Nat → Int} (D : Byts w aa ab ao len cap f) (n : len ≠ 19887) :
    Calls Try.prog 37 #[.pointer (some ⟨bx, 0, none⟩), .slice aa len cap] w fun e w' => e = .returned (.int .i64 61) ∧ Ld W bx bw g q r F w' :=
  (load_any D h.px).mono fun e w' ⟨_, h2, h3⟩ => ⟨(h2 (fun t => n t.len)).1, h.onX B (h2 (fun t => n t.len)).2 h3⟩
theorem Ld.load (h : Ld W bx bw g q r F w) (B : Lb W bx bw g) {aa : Option Addr} {ab ao len cap : Nat} {f : Nat → Int} (D : Byts w aa ab ao len cap f) :
    Calls Try.prog 37 #[.pointer (some ⟨bx, 0, none⟩), .slice aa len cap] w fun e w' => (Taken len f → e = .returned (.int .i64 0) ∧ Ld W bx bw g (stPic f) r F w') ∧ (¬ Taken len f → e = .returned (.int .i64 61) ∧ Ld W bx bw g q r F w') ∧ Fr bx w w' :=
  (load_any D h.px).mono fun e w' ⟨h1, h2, h3⟩ => ⟨fun t => ⟨(h1 t).1, h.onX B (h1 t).2 h3⟩, fun t => ⟨(h2 t).1, h.onX B (h2 t).2 h3⟩, h3⟩
theorem Ld.hiddenX (h : Ld W bx bw g q r F w) (s : Sane q) {S : ByteArray} (hS : S = strN 23054 (hidF q) ++ strN 19887 q.st) :
    Calls Try.prog 36 #[.pointer (some ⟨bx, 0, none⟩)] w fun e w' => e = .returned (.string S) ∧ Ld W bx bw g q r F w' :=
  (hidden_any rfl rfl s w h.px).mono fun e w' ⟨h1, h2⟩ => ⟨by rw [hS]; exact h1, h.more h2⟩
theorem Ld.hiddenY (h : Ld W bx bw g q r F w) (s : Sane r) {S : ByteArray} (hS : S = strN 23054 (hidF r) ++ strN 19887 r.st) :
    Calls Try.prog 36 #[.pointer (some ⟨bw, 0, none⟩)] w fun e w' => e = .returned (.string S) ∧ Ld W bx bw g q r F w' :=
  (hidden_any rfl rfl s w h.py).mono fun e w' ⟨h1, h2⟩ => ⟨by rw [hS]; exact h1, h.more h2⟩
theorem st_b (s : Sane p) (k : Nat) (hk : k < 19887) : 0 ≤ p.st k ∧ p.st k ≤ 255 := by
  have c0 := s.c0
  have c9 := s.c9
  have r0 := s.r0
  have r1 : p.rows ≤ 255 := by have := s.rl; have := lines_le s.inn; omega
  have pkb : ∀ (d : Nat → Int), (∀ k, k < 23040 → 0 ≤ d k ∧ d k ≤ 3) → ∀ i, i < 5760 → 0 ≤ pk d i ∧ pk d i ≤ 255 := fun d hd i hi =>
    (pk4_back (hd _ (by omega)).1 (hd _ (by omega)).2 (hd _ (by omega)).1 (hd _ (by omega)).2 (hd _ (by omega)).1 (hd _ (by omega)).2 (hd _ (by omega)).1 (hd _ (by omega)).2).1
  unfold Pic.st
  split
  · exact s.inn.rg k
  · split
    · omega
    · split
      · split <;> decide
      · split
        · omega
        · split
          · exact s.inn.vr _
          · split
            · exact s.inn.oa _
            · split
              · exact pkb _ s.d3 _ (by omega)
              · exact pkb _ s.s3 _ (by omega)
theorem Taken.sane {len : Nat} {f : Nat → Int} (t : Taken len f) (hf : ∀ k, 0 ≤ f k ∧ f k ≤ 255) : Sane (stPic f) := by
  have a := hf 12
  have b := hf 14
  refine t.ok.sane (stPic_in hf) ?_ ?_ b.1 (fun k _ => unpk_b (fun _ => hf _) k) (fun k _ => unpk_b (fun _ => hf _) k)
  · show 0 ≤ f 12 * 4; omega
  · show f 12 * 4 % 4 = 0; omega
end Go.Proofs.Ytmjfccdhjhkocaa
