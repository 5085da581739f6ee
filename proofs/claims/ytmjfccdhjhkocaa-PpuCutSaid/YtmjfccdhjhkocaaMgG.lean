import Derived.Test.YtmjfccdhjhkocaaMgF
import Derived.ArgAppend
import Derived.Deep.Onto
/- PpuCut: lists that carry a mark. -/
namespace Go.Proofs.Ytmjfccdhjhkocaa
open Go.RowKit
set_option linter.unusedVariables false
variable {b : Nat} {p : Pic}
theorem Byts.upK {w w' : World} {aa : Option Addr} {ab ao n c : Nat} {f : Nat → Int} (h : Byts w aa ab ao n c f) (u : Up w w') : Byts w' aa ab ao n c f := h.upT u
set_option maxRecDepth 100000 in
set_option maxHeartbeats 1000000 in
/-- all of a list is the mark -/
theorem allBytes_any {W : World} {la : Option Addr} {lb lo n c m : Nat} (D : Byts W la lb lo n c (fun _ => (m : Int))) (hm : m < 251) : Calls Try.prog 67 #[.slice la n c, .int .i64 m] W fun e w' => e = .returned (.bool true) ∧ Up W w' := by
  have HD : Hid (∀ w', Up W w' → Byts w' la lb lo n c (fun _ => (m : Int))) := fun w' u => D.upT u
  have l1 := D.lc
  have l2 : c ≤ 9223372036854775807 := by have := D.cm; unfold maxLen at this; omega
  have H0 : Hid (Up W W) := Up.refl W
  clear D
  have hm0 : (0 : Int) ≤ (m : Int) := by omega
  have hm1 : (m : Int) < 251 := by omega
  have r1 : ((m : Int)).tmod 251 = (m : Int) := by rw [Int.tmod_eq_emod_of_nonneg hm0]; omega
  have r2 : (m : Int) % 251 = (m : Int) := by omega
  have r3 : (m : Int) % 256 = (m : Int) := by omega
  go_enter Try.func67, Try.ntmps67
  go_wp2_with fail
  go_loopw [5] (fun I wr => ∃ i : Nat, i ≤ n ∧ I = .int .i64 i ∧ Hid (Up W wr)) (fun I _ => n - (intOf I).toNat)
  case atStart => exact ⟨0, by omega, rfl, H0⟩
  case round =>
    clear H0
    obtain ⟨i, hi, rfl, M0⟩ := hrel
    by_cases hlt : i < n
    · have d1 : decide ((i : Int) < (n : Int)) = true := decide_eq_true (by omega)
      have e1 : (i : Int) < (n : Int) := by omega
      have bd := HD.out wr M0.out
      obtain rfl := bd.ad (by omega)
      have kd := bd.cell i hlt
      clear bd HD
      go_wp2_with fail
      refine ⟨⟨i + 1, by omega, ?_, M0⟩, ?_⟩
      · first | rfl | (simp; done)
      · simp [intOf]
        omega
    · have d1 : decide ((i : Int) < (n : Int)) = false := decide_eq_false (by omega)
      go_wp2_with fail
      go_ret
      exact ⟨by first | rfl | (simp; done), M0.out⟩
/-- a list of marks -/
def Mk (K : Nat → Prop) (w : World) (m : Nat) (v : Value) : Prop := ∃ (aa : Option Addr) (ab ao n c : Nat), v = .slice aa n c ∧ Byts w aa ab ao n c (fun _ => (m : Int)) ∧ (0 < n → ¬ K ab)
theorem Mk.up {K : Nat → Prop} {w w' : World} {m : Nat} {v : Value} (h : Mk K w m v) (u : Up w w') : Mk K w' m v := by
  obtain ⟨aa, ab, ao, n, c, e, B, k⟩ := h
  exact ⟨aa, ab, ao, n, c, e, B.upT u, k⟩
theorem Mk.fr {K : Nat → Prop} {w w' : World} {m c : Nat} {v : Value} (h : Mk K w m v) (f : Fr c w w') (hc : K c) : Mk K w' m v := by
  obtain ⟨aa, ab, ao, n, c', e, B, k⟩ := h
  exact ⟨aa, ab, ao, n, c', e, ⟨B.lc, B.cm, B.ad, B.u8, fun i hi => (f.cell (World.block_lt_of_cell? _ _ (B.cell i hi)) (fun e => k (by omega) (by have e' : ab = c := e; rw [e']; exact hc))).trans (B.cell i hi)⟩, k⟩
theorem Mk.mono {K K' : Nat → Prop} {w : World} {m : Nat} {v : Value} (h : Mk K w m v) (hk : ∀ b, b < w.heap.size → K' b → K b) : Mk K' w m v := by
  obtain ⟨aa, ab, ao, n, c, e, B, k⟩ := h
  exact ⟨aa, ab, ao, n, c, e, B, fun h0 h1 => k h0 (hk ab (World.block_lt_of_cell? _ _ (B.cell 0 h0)) h1)⟩
set_option maxRecDepth 100000 in
set_option maxHeartbeats 1000000 in
theorem still_any {K : Nat → Prop} {W : World} {m : Nat} {v0 v1 v2 v3 : Value} (h0 : Mk K W m v0) (h1 : Mk K W m v1) (h2 : Mk K W m v2) (h3 : Mk K W m v3) (hm : m < 251) : Calls Try.prog 58 #[.agg #[v0, v1, v2, v3, .int .i64 m]] W fun e w' => e = .returned (.bool true) ∧ Up W w' := by
  obtain ⟨a0, b0, o0, n0, c0, rfl, B0, _⟩ := h0
  obtain ⟨a1, b1, o1, n1, c1, rfl, B1, _⟩ := h1
  obtain ⟨a2, b2, o2, n2, c2, rfl, B2, _⟩ := h2
  obtain ⟨a3, b3, o3, n3, c3, rfl, B3, _⟩ := h3
  have HB : Hid (∀ w, Up W w → Byts w a0 b0 o0 n0 c0 (fun _ => (m : Int)) ∧ Byts w a1 b1 o1 n1 c1 (fun _ => (m : Int)) ∧ Byts w a2 b2 o2 n2 c2 (fun _ => (m : Int)) ∧ Byts w a3 b3 o3 n3 c3 (fun _ => (m : Int))) := fun w u => ⟨B0.upT u, B1.upT u, B2.upT u, B3.upT u⟩
  clear B0 B1 B2 B3
  go_enter Try.func58, Try.ntmps58
  go_wp2_with fail
  have H1 : Hid (Up W (W.alloc (Obj.cells #[.slice a0 n0 c0, .slice a1 n1 c1, .slice a2 n2 c2, .slice a3 n3 c3, .int .i64 m] 85)) ∧ (W.alloc (Obj.cells #[.slice a0 n0 c0, .slice a1 n1 c1, .slice a2 n2 c2, .slice a3 n3 c3, .int .i64 m] 85)).heap[W.heap.size]? = some (.cells #[.slice a0 n0 c0, .slice a1 n1 c1, .slice a2 n2 c2, .slice a3 n3 c3, .int .i64 m] 85 (0, 0))) := ⟨(Up.refl W).alloc _, heap_alloc_new W _⟩
  generalize World.alloc W _ = w1 at H1 ⊢
  generalize W.heap.size = sb at H1 ⊢
  refine (allBytes_any (HB.out _ H1.out.1).1 hm).mono ?_
  rintro e w2 ⟨rfl, u2⟩
  have H2 : Hid (Up W w2 ∧ w2.heap[sb]? = some (.cells #[.slice a0 n0 c0, .slice a1 n1 c1, .slice a2 n2 c2, .slice a3 n3 c3, .int .i64 m] 85 (0, 0))) := ⟨H1.out.1.trans u2, (u2.block sb (Array.getElem?_eq_some_iff.1 H1.out.2).1).trans H1.out.2⟩
  clear u2 H1
  have k2 : w2.cell? ⟨sb, 1, none⟩ = some (.slice a1 n1 c1) := by rw [cell_of_row _ _ _ _ _ _ H2.out.2]; rfl
  have m2 : w2.cell? ⟨sb, 4, none⟩ = some (.int .i64 m) := by rw [cell_of_row _ _ _ _ _ _ H2.out.2]; rfl
  go_wp2_with fail
  refine (allBytes_any (HB.out _ H2.out.1).2.1 hm).mono ?_
  rintro e w3 ⟨rfl, u3⟩
  have H3 : Hid (Up W w3 ∧ w3.heap[sb]? = some (.cells #[.slice a0 n0 c0, .slice a1 n1 c1, .slice a2 n2 c2, .slice a3 n3 c3, .int .i64 m] 85 (0, 0))) := ⟨H2.out.1.trans u3, (u3.block sb (Array.getElem?_eq_some_iff.1 H2.out.2).1).trans H2.out.2⟩
  clear u3 H2
  have k3 : w3.cell? ⟨sb, 2, none⟩ = some (.slice a2 n2 c2) := by rw [cell_of_row _ _ _ _ _ _ H3.out.2]; rfl
  have m3 : w3.cell? ⟨sb, 4, none⟩ = some (.int .i64 m) := by rw [cell_of_row _ _ _ _ _ _ H3.out.2]; rfl
  go_wp2_with fail
  refine (allBytes_any (HB.out _ H3.out.1).2.2.1 hm).mono ?_
  rintro e w4 ⟨rfl, u4⟩
  have H4 : Hid (Up W w4 ∧ w4.heap[sb]? = some (.cells #[.slice a0 n0 c0, .slice a1 n1 c1, .slice a2 n2 c2, .slice a3 n3 c3, .int .i64 m] 85 (0, 0))) := ⟨H3.out.1.trans u4, (u4.block sb (Array.getElem?_eq_some_iff.1 H3.out.2).1).trans H3.out.2⟩
  clear u4 H3
  have k4 : w4.cell? ⟨sb, 3, none⟩ = some (.slice a3 n3 c3) := by rw [cell_of_row _ _ _ _ _ _ H4.out.2]; rfl
  have m4 : w4.cell? ⟨sb, 4, none⟩ = some (.int .i64 m) := by rw [cell_of_row _ _ _ _ _ _ H4.out.2]; rfl
  go_wp2_with fail
  refine (allBytes_any (HB.out _ H4.out.1).2.2.2 hm).mono ?_
  rintro e w5 ⟨rfl, u5⟩
  have H5 : Hid (Up W w5 ∧ w5.heap[sb]? = some (.cells #[.slice a0 n0 c0, .slice a1 n1 c1, .slice a2 n2 c2, .slice a3 n3 c3, .int .i64 m] 85 (0, 0))) := ⟨H4.out.1.trans u5, (u5.block sb (Array.getElem?_eq_some_iff.1 H4.out.2).1).trans H4.out.2⟩
  clear u5 H4
  go_wp2_with fail
  go_ret
  exact ⟨by first | rfl | (simp; done), H5.out.1⟩
end Go.Proofs.Ytmjfccdhjhkocaa
/- PpuCut: a list is written over with its mark, and appended to. -/
namespace Go.Proofs.Ytmjfccdhjhkocaa
open Go.RowKit
set_option linter.unusedVariables false
variable {b : Nat} {p : Pic}
def zB : Array Value := #[.slice none 0 0, .slice none 0 0, .slice none 0 0, .slice none 0 0, .int .i64 0]
theorem Ow.moreW {W w w' : World} {F : Nat → Int} {n : Nat} {v : Value} (h : Ow W F n v w) (u : Up w w') : Ow W F n v w' := h.moreU u
theorem rowL_get {F : Nat → Int} {n j : Nat} {u : Value} (h : (rowL F n)[j]? = some u) : j < n ∧ u = .int .u8 (F j) := by
  have hj : j < n := by
    have := (List.getElem?_eq_some_iff.1 h).1
    rwa [rowL_len] at this
  rw [rowL_at F n j hj] at h
  exact ⟨hj, (Option.some.inj h).symm⟩
theorem NmAt.olds {w : World} {g n : Nat} {F : Nat → Int} (h : NmAt w g n F) : ∀ b, some (⟨g, 0, none⟩ : Addr) = some b → ∀ j u, (rowL F n)[j]? = some u → w.cell? (b.add j) = some u := by
  intro b e j u hu
  obtain rfl := Option.some.inj e
  obtain ⟨hj, rfl⟩ := rowL_get hu
  rw [Addr.add_lit, Nat.zero_add]
  exact h.cell j hj
theorem up_grown {w w' : World} (h : w.grownBy w' none) : Up w w' := ⟨h.os, h.output, h.size, fun k hk => h.block k hk (fun e => by cases e)⟩
theorem Ow.grown {w w' : World} {o : Obj} {F : Nat → Int} {n : Nat} {v : Value} (ho : w'.ownsRow (w.heap.size + 1) 5 1 v n (rowL F n)) (hg : (w.alloc o).grownBy w' none) : Ow w F n v w' :=
  ⟨World.ownsRow.mono ho (Nat.le_succ _), ((Up.refl w).alloc o).trans (up_grown hg)⟩
theorem Ow.mks {W w : World} {n m : Nat} {v : Value} (h : Ow W (fun _ => (m : Int)) n v w) (hm : m < 251) (K : Nat → Prop) (hK : ∀ b, K b → b < W.heap.size) : Mk K w m v := by
  obtain ⟨oa, ob, oc, hv, B, hb⟩ := own_byts h.own (fun _ => ⟨by omega, by omega⟩)
  exact ⟨oa, ob, 0, n, oc, hv, B, fun h0 hk => by have := (hb h0).1; have := hK ob hk; omega⟩
theorem rowM_app (m n k : Nat) : rowL (fun _ => (m : Int)) n ++ List.replicate k (.int .u8 (m : Int)) = rowL (fun _ => (m : Int)) (n + k) := by
  induction k with
  | zero => simp
  | succ k ih => rw [List.replicate_succ', ← List.append_assoc, ih, show n + (k + 1) = n + k + 1 by omega, rowL_succ]
set_option maxRecDepth 100000 in
set_option maxHeartbeats 2000000 in
theorem ownBytes_any {W : World} {g n m : Nat} {F : Nat → Int} (h : NmAt W g n F) (hF : ∀ k, 0 ≤ F k ∧ F k ≤ 255) (hn : n ≤ 65536) (hm : m < 251) : Calls Try.prog 77 #[.slice (some ⟨g, 0, none⟩) n n, .int .i64 m] W fun e w' => ∃ v1 v2 v3, e = .returned (.agg #[.slice (some ⟨g, 0, none⟩) n n, v1, v2, v3, .int .i64 m]) ∧ Fr g W w' ∧ NmAt w' g n (fun _ => (m : Int)) ∧ ∀ K : Nat → Prop, (∀ b, K b → b < W.heap.size) → Mk K w' m v1 ∧ Mk K w' m v2 ∧ Mk K w' m v3 := by
  have hie : Try.prog.info? 5 = some Try.t5 := by kernel_rfl
  have hm0 : (0 : Int) ≤ (m : Int) := by omega
  have hm1 : (m : Int) < 251 := by omega
  have r1 : ((m : Int)).tmod 251 = (m : Int) := by rw [Int.tmod_eq_emod_of_nonneg hm0]; omega
  have r2 : (m : Int) % 251 = (m : Int) := by omega
  have r3 : (m : Int) % 256 = (m : Int) := by omega
  have HG : Hid (g < W.heap.size) := h.lt
  have H1 : Hid (NmAt (W.alloc (Obj.cells zB 85)) g n (fun k => if k < 0 then (m : Int) else F k) ∧ Fr g W (W.alloc (Obj.cells zB 85)) ∧ (W.alloc (Obj.cells zB 85)).heap[W.heap.size]? = some (.cells zB 85 (0, 0))) := ⟨(h.of_block (((Up.refl W).alloc (Obj.cells zB 85)).block g h.lt)).congr (fun k _ => by rw [if_neg (by omega)]), Fr.ofUp ((Up.refl W).alloc _), heap_alloc_new W _⟩
  clear h
  go_enter Try.func77, Try.ntmps77
  go_wp2_with fail
  change Hid (NmAt (W.alloc (Obj.cells #[.slice none 0 0, .slice none 0 0, .slice none 0 0, .slice none 0 0, .int .i64 0] 85)) g n _ ∧ Fr g W (W.alloc (Obj.cells #[.slice none 0 0, .slice none 0 0, .slice none 0 0, .slice none 0 0, .int .i64 0] 85)) ∧ (W.alloc (Obj.cells #[.slice none 0 0, .slice none 0 0, .slice none 0 0, .slice none 0 0, .int .i64 0] 85)).heap[W.heap.size]? = _) at H1
  generalize World.alloc W _ = w1 at H1 ⊢
  have HR : Hid (W.heap.size ≤ W.heap.size ∧ g < W.heap.size) := ⟨Nat.le_refl _, HG.out⟩
  generalize hrb : W.heap.size = rb at HR H1 ⊢
  have HRB : Hid (W.heap.size = rb) := hrb
  clear hrb
  go_loopw [6] (fun I wr => ∃ i : Nat, i ≤ n ∧ I = .int .i64 i ∧ Hid (NmAt wr g n (fun k => if k < i then (m : Int) else F k) ∧ Fr g W wr ∧ wr.heap[rb]? = some (.cells zB 85 (0, 0)))) (fun I _ => n - (intOf I).toNat)
  case atStart => exact ⟨0, by omega, rfl, H1⟩
  case round =>
    clear H1
    obtain ⟨i, hi, rfl, M0⟩ := hrel
    by_cases hlt : i < n
    · have d1 : decide ((i : Int) < (n : Int)) = true := decide_eq_true (by omega)
      have e1 : (i : Int) < (n : Int) := by omega
      have kc := M0.out.1.cell i hlt
      have kf := M0.out.1.fz i
      have HS : Hid (NmAt (wr.setCell ⟨g, i, none⟩ (.int .u8 m)) g n (fun k => if k < i + 1 then (m : Int) else F k) ∧ Fr g W (wr.setCell ⟨g, i, none⟩ (.int .u8 m)) ∧ (wr.setCell ⟨g, i, none⟩ (.int .u8 m)).heap[rb]? = some (.cells zB 85 (0, 0))) := ⟨(M0.out.1.set i hlt m).congr (fun k _ => by
        by_cases h1 : k = i
        · rw [if_pos h1, if_pos (by omega)]
        · rw [if_neg h1]
          by_cases h2 : k < i
          · rw [if_pos h2, if_pos (by omega)]
          · rw [if_neg h2, if_neg (by omega)]), M0.out.2.1.setCell, ((Fr.refl g wr).setCell.block rb (Array.getElem?_eq_some_iff.1 M0.out.2.2).1 (by have := HG.out; have := HRB.out; omega)).trans M0.out.2.2⟩
      clear M0
      go_wp2_with fail
      refine ⟨⟨i + 1, by omega, ?_, HS⟩, ?_⟩
      · first | rfl | (simp; done)
      · simp [intOf]
        omega
    · have d1 : decide ((i : Int) < (n : Int)) = false := decide_eq_false (by omega)
      obtain rfl : i = n := by omega
      have M1 : Hid (NmAt wr g i (fun k => (m : Int)) ∧ Fr g W wr ∧ wr.heap[rb]? = some (.cells zB 85 (0, 0))) := ⟨M0.out.1.congr (fun k hk => if_pos hk), M0.out.2⟩
      clear M0 hlt hi d1
      generalize wr = wq at M1 ⊢
      go_wp2_with (at_builtin; refine wpList_append_grows _ rfl _ _ 23 rfl 5 Try.t5 (.int .u8 0) 1 1 Try.underlying23 hie rfl rfl rfl rfl (by decide) (some ⟨g, 0, none⟩) i i (rowL (fun _ => (m : Int)) i) rfl (fun h => by cases h) (by rw [rowL_len, Nat.mul_one]) (M1.out.1.of_block (((Up.refl wq).alloc _).block g M1.out.1.lt)).olds ⟨wq.heap.size, 0, none⟩ 1 1 [.int .u8 m] rfl rfl ?c1 ?c2 (by omega) ?c3 ?c4 ?_)
      case c1 =>
        intro j u hu
        match j, hu with
          | 0, hu => simp at hu; subst hu; simp [Addr.add]
      case c2 => intro u hu; simp at hu; subst hu; rfl
      case c3 => unfold maxLen; omega
      case c4 => omega
      intro v1 w4 ho1 hg1
      have A1 : Hid (Ow wq (fun _ => (m : Int)) (i + 1) v1 w4) := Ow.grown (by rw [← rowM_app]; simpa using ho1) hg1
      have U4 : Hid (Up wq w4 ∧ NmAt w4 g i (fun _ => (m : Int))) := ⟨A1.out.up, M1.out.1.of_block (A1.out.up.block g M1.out.1.lt)⟩
      clear ho1 hg1
      go_wp2_with (at_builtin; refine wpList_append_grows _ rfl _ _ 23 rfl 5 Try.t5 (.int .u8 0) 1 1 Try.underlying23 hie rfl rfl rfl rfl (by decide) (some ⟨g, 0, none⟩) i i (rowL (fun _ => (m : Int)) i) rfl (fun h => by cases h) (by rw [rowL_len, Nat.mul_one]) (U4.out.2.of_block (((Up.refl w4).alloc _).block g U4.out.2.lt)).olds ⟨w4.heap.size, 0, none⟩ 2 2 [.int .u8 m, .int .u8 m] rfl rfl ?c1 ?c2 (by omega) ?c3 ?c4 ?_)
      case c1 =>
        intro j u hu
        match j, hu with
          | 0, hu => simp at hu; subst hu; simp [Addr.add]
          | 1, hu => simp at hu; subst hu; simp [Addr.add]
      case c2 => intro u hu; simp at hu; subst hu; rfl
      case c3 => unfold maxLen; omega
      case c4 => omega
      intro v2 w5 ho2 hg2
      have A2 : Hid (Ow w4 (fun _ => (m : Int)) (i + 2) v2 w5) := Ow.grown (by rw [← rowM_app]; simpa using ho2) hg2
      have B1 : Hid (Ow wq (fun _ => (m : Int)) (i + 1) v1 w5) := A1.out.moreU A2.out.up
      have U5 : Hid (Up wq w5 ∧ NmAt w5 g i (fun _ => (m : Int))) := ⟨U4.out.1.trans A2.out.up, U4.out.2.of_block (A2.out.up.block g U4.out.2.lt)⟩
      have HU4 : Hid (wq.heap.size ≤ w4.heap.size) := U4.out.1.size
      clear ho2 hg2 A1 U4
      go_wp2_with (at_builtin; refine wpList_append_grows _ rfl _ _ 23 rfl 5 Try.t5 (.int .u8 0) 1 1 Try.underlying23 hie rfl rfl rfl rfl (by decide) (some ⟨g, 0, none⟩) i i (rowL (fun _ => (m : Int)) i) rfl (fun h => by cases h) (by rw [rowL_len, Nat.mul_one]) (U5.out.2.of_block (((Up.refl w5).alloc _).block g U5.out.2.lt)).olds ⟨w5.heap.size, 0, none⟩ 1 1 [.int .u8 m] rfl rfl ?c1 ?c2 (by omega) ?c3 ?c4 ?_)
      case c1 =>
        intro j u hu
        match j, hu with
          | 0, hu => simp at hu; subst hu; simp [Addr.add]
      case c2 => intro u hu; simp at hu; subst hu; rfl
      case c3 => unfold maxLen; omega
      case c4 => omega
      intro v3 w6 ho3 hg3
      have A3 : Hid (Ow w5 (fun _ => (m : Int)) (i + 1 + 0) v3 w6) := Ow.grown (by rw [← rowM_app, ← rowM_app]; simpa using ho3) hg3
      clear ho3 hg3
      go_wp2_with fail
      go_loopw [9, 10] (fun T I wr => ∃ k : Nat, k ≤ 63 ∧ I = .int .i64 k ∧ Hid (Ow w5 (fun _ => (m : Int)) (i + 1 + k) T wr)) (fun _ I _ => 63 - (intOf I).toNat)
      case atStart => exact ⟨0, by omega, rfl, A3⟩
      case round =>
        clear A3
        obtain ⟨k, hk, rfl, M3⟩ := hrel
        by_cases hlt2 : k < 63
        · have d2 : decide ((k : Int) < 63) = true := decide_eq_true (by omega)
          have e2 : (k : Int) < 63 := by omega
          have HSz : Hid (w5.heap.size ≤ wr.heap.size) := M3.out.up.size
          go_wp2_with (at_builtin; refine wpList_append_own _ rfl _ _ 23 rfl w5.heap.size 5 Try.t5 (.int .u8 0) 1 1 Try.underlying23 hie rfl rfl rfl rfl (by decide) _ _ _ rfl (M3.out.own.alloc _) ⟨wr.heap.size, 0, none⟩ 1 1 [.int .u8 m] rfl rfl ?c1 ?c2 ?c3 ?c4 ?c5 ?_)
          case c1 =>
            intro j u hu
            match j, hu with
            | 0, hu => simp at hu; subst hu; simp [Addr.add]
          case c2 => intro u hu; simp at hu; subst hu; rfl
          case c3 => unfold maxLen; omega
          case c4 => omega
          case c5 => have := HSz.out; simp; omega
          intro v' w7 hown' hgrow _
          have M4 : Hid (Ow w5 (fun _ => (m : Int)) (i + 1 + (k + 1)) v' w7) := M3.out.app hgrow (by rw [show i + 1 + (k + 1) = i + 1 + k + 1 by omega, ← rowM_app m (i + 1 + k) 1]; simpa using hown')
          clear hgrow hown' M3
          go_wp2_with fail
          refine ⟨⟨k + 1, by omega, ?_, M4⟩, ?_⟩
          · first | rfl | (simp; done)
          · simp [intOf]
            omega
        · have d2 : decide ((k : Int) < 63) = false := decide_eq_false (by omega)
          obtain rfl : k = 63 := by omega
          have HK : Hid (wr.heap[rb]? = some (.cells zB 85 (0, 0))) := ((U5.out.1.trans M3.out.up).block rb (Array.getElem?_eq_some_iff.1 M1.out.2.2).1).trans M1.out.2.2
          have HV1 : Hid (Ow wq (fun _ => (m : Int)) (i + 1) v1 wr) := B1.out.moreU M3.out.up
          have HV2 : Hid (Ow w4 (fun _ => (m : Int)) (i + 2) v2 wr) := A2.out.moreU M3.out.up
          have HFN : Hid (Fr g W wr ∧ NmAt wr g i (fun _ => (m : Int))) := ⟨M1.out.2.1.trans (Fr.ofUp (U5.out.1.trans M3.out.up)), U5.out.2.of_block (M3.out.up.block g U5.out.2.lt)⟩
          have HZ : Hid (rb < wq.heap.size ∧ rb < w4.heap.size ∧ rb < w5.heap.size) := by
            have z1 := (Array.getElem?_eq_some_iff.1 M1.out.2.2).1
            have z2 := HU4.out
            have z3 := A2.out.up.size
            exact ⟨z1, by omega, by omega⟩
          obtain ⟨oa1, ob1, oc1, hv1, _, hbb1⟩ := own_byts B1.out.own (fun _ => ⟨hm0, by omega⟩)
          obtain ⟨oa2, ob2, oc2, hv2, _, hbb2⟩ := own_byts A2.out.own (fun _ => ⟨hm0, by omega⟩)
          obtain ⟨oa3, ob3, oc3, hv3, _, hbb3⟩ := own_byts M3.out.own (fun _ => ⟨hm0, by omega⟩)
          subst hv1
          obtain ⟨_, rfl, _⟩ := hbb1 (by omega)
          clear hbb1
          subst hv2
          obtain ⟨_, rfl, _⟩ := hbb2 (by omega)
          clear hbb2
          subst hv3
          obtain ⟨_, rfl, _⟩ := hbb3 (by omega)
          clear hbb3
          have q0 : wr.cell? ⟨rb, 0, none⟩ = some (.slice none 0 0) := by rw [cell_of_row _ _ _ _ _ _ HK.out]; rfl
          have q1 : wr.cell? ⟨rb, 1, none⟩ = some (.slice none 0 0) := by rw [cell_of_row _ _ _ _ _ _ HK.out]; rfl
          have q2 : wr.cell? ⟨rb, 2, none⟩ = some (.slice none 0 0) := by rw [cell_of_row _ _ _ _ _ _ HK.out]; rfl
          have q3 : wr.cell? ⟨rb, 3, none⟩ = some (.slice none 0 0) := by rw [cell_of_row _ _ _ _ _ _ HK.out]; rfl
          have q4 : wr.cell? ⟨rb, 4, none⟩ = some (.int .i64 0) := by rw [cell_of_row _ _ _ _ _ _ HK.out]; rfl
          have f0 : wr.frozen? ⟨rb, 0, none⟩ = false := by have hq := HK.out; simp [World.frozen?, hq]
          have f1 : wr.frozen? ⟨rb, 1, none⟩ = false := by have hq := HK.out; simp [World.frozen?, hq]
          have f2 : wr.frozen? ⟨rb, 2, none⟩ = false := by have hq := HK.out; simp [World.frozen?, hq]
          have f3 : wr.frozen? ⟨rb, 3, none⟩ = false := by have hq := HK.out; simp [World.frozen?, hq]
          have f4 : wr.frozen? ⟨rb, 4, none⟩ = false := by have hq := HK.out; simp [World.frozen?, hq]
          clear M1 U5 A2 B1 d2 hlt2 hk
          go_wp2_with fail
          have k1 := heap_setCell_same wr rb 0 _ _ (.slice (some ⟨g, 0, none⟩) i i) HK.out
          have k2 := heap_setCell_same _ rb 1 _ _ (.slice (some ⟨ob1, 0, none⟩) (i + 1) oc1) k1
          have k3 := heap_setCell_same _ rb 2 _ _ (.slice (some ⟨ob2, 0, none⟩) (i + 2) oc2) k2
          have k4 := heap_setCell_same _ rb 3 _ _ (.slice (some ⟨ob3, 0, none⟩) (i + 1 + 63) oc3) k3
          have k5 := heap_setCell_same _ rb 4 _ _ (.int .i64 m) k4
          have F9 : Fr rb wr (((((wr.setCell ⟨rb, 0, none⟩ (.slice (some ⟨g, 0, none⟩) i i)).setCell ⟨rb, 1, none⟩ (.slice (some ⟨ob1, 0, none⟩) (i + 1) oc1)).setCell ⟨rb, 2, none⟩ (.slice (some ⟨ob2, 0, none⟩) (i + 2) oc2)).setCell ⟨rb, 3, none⟩ (.slice (some ⟨ob3, 0, none⟩) (i + 1 + 63) oc3)).setCell ⟨rb, 4, none⟩ (.int .i64 m)) := (Fr.refl rb wr).setCell.setCell.setCell.setCell.setCell
          have HK9 : Hid ((((((wr.setCell ⟨rb, 0, none⟩ (.slice (some ⟨g, 0, none⟩) i i)).setCell ⟨rb, 1, none⟩ (.slice (some ⟨ob1, 0, none⟩) (i + 1) oc1)).setCell ⟨rb, 2, none⟩ (.slice (some ⟨ob2, 0, none⟩) (i + 2) oc2)).setCell ⟨rb, 3, none⟩ (.slice (some ⟨ob3, 0, none⟩) (i + 1 + 63) oc3)).setCell ⟨rb, 4, none⟩ (.int .i64 m)).heap[rb]? = some (.cells #[.slice (some ⟨g, 0, none⟩) i i, .slice (some ⟨ob1, 0, none⟩) (i + 1) oc1, .slice (some ⟨ob2, 0, none⟩) (i + 2) oc2, .slice (some ⟨ob3, 0, none⟩) (i + 1 + 63) oc3, .int .i64 m] 85 (0, 0))) := k5
          clear k1 k2 k3 k4 k5 q0 q1 q2 q3 q4 f0 f1 f2 f3 f4
          generalize World.setCell _ ⟨rb, 4, none⟩ _ = w9 at F9 HK9 ⊢
          refine bodyPost_ret (v := .agg _) (results_row Try.results77 _ _ _ 85 _ (0, 0) _ rfl HK9.out Try.underlying85 rfl (by kernel_rfl)) rfl ?_
          have zr := HRB.out
          have zg := HG.out
          refine ⟨_, _, _, rfl, ⟨F9.os.trans HFN.out.1.os, F9.output.trans HFN.out.1.output, Nat.le_trans HFN.out.1.size F9.size, fun k hk hne => (F9.block k (Nat.lt_of_lt_of_le hk HFN.out.1.size) (by omega)).trans (HFN.out.1.block k hk hne)⟩, HFN.out.2.of_block (F9.block g HFN.out.2.lt (by omega)), fun K hK => ?_⟩
          have z1 := HZ.out
          refine ⟨((HV1.out.mks hm (fun b => K b ∨ b = rb) ?_).fr F9 (Or.inr rfl)).mono (fun _ _ h => Or.inl h), ((HV2.out.mks hm (fun b => K b ∨ b = rb) ?_).fr F9 (Or.inr rfl)).mono (fun _ _ h => Or.inl h), ((M3.out.mks hm (fun b => K b ∨ b = rb) ?_).fr F9 (Or.inr rfl)).mono (fun _ _ h => Or.inl h)⟩
          · intro b hb
            rcases hb with hb | hb
            · have := hK b hb
              omega
            · omega
          · intro b hb
            rcases hb with hb | hb
            · have := hK b hb
              omega
            · omega
          · intro b hb
            rcases hb with hb | hb
            · have := hK b hb
              omega
            · omega
end Go.Proofs.Ytmjfccdhjhkocaa
/- PpuCut: the book of lists. -/
namespace Go.Proofs.Ytmjfccdhjhkocaa
open Go.RowKit
set_option linter.unusedVariables false
variable {b : Nat} {p : Pic}
theorem NmAt.bytsP {w : World} {g n : Nat} {F : Nat → Int} (h : NmAt w g n F) (m c : Nat) (hm : m ≤ n) (hc : m ≤ c) (hcm : c ≤ maxLen) (hF : ∀ k, 0 ≤ F k ∧ F k ≤ 255) : Byts w (some ⟨g, 0, none⟩) g 0 m c F :=
  ⟨hc, hcm, fun _ => rfl, hF, fun k hk => by rw [Nat.zero_add]; exact h.cell k (by omega)⟩
/-- all blocks of K as they were -/
structure FK (K : Nat → Prop) (w w' : World) : Prop where
  os : w'.os = w.os
  output : w'.output = w.output
  size : w.heap.size ≤ w'.heap.size
  block : ∀ b, b < w.heap.size → K b → w'.heap[b]? = w.heap[b]?
theorem FK.trans {K : Nat → Prop} {x y z : World} (h : FK K x y) (k : FK K y z) : FK K x z :=
  ⟨k.os.trans h.os, k.output.trans h.output, Nat.le_trans h.size k.size, fun b hb hk => (k.block b (Nat.lt_of_lt_of_le hb h.size) hk).trans (h.block b hb hk)⟩
theorem FK.ofUp {K : Nat → Prop} {x y : World} (h : Up x y) : FK K x y := ⟨h.os, h.output, h.size, fun b hb _ => h.block b hb⟩
theorem FK.ofFr {K : Nat → Prop} {x y : World} {c : Nat} (h : Fr c x y) (hc : ¬ K c) : FK K x y := ⟨h.os, h.output, h.size, fun b hb hk => h.block b hb (fun e => hc (e ▸ hk))⟩
theorem FK.mono {K K' : Nat → Prop} {x y : World} (h : FK K x y) (hk : ∀ b, b < x.heap.size → K' b → K b) : FK K' x y := ⟨h.os, h.output, h.size, fun b hb h' => h.block b hb (hk b hb h')⟩
/-- one entry of the book -/
def Ent (K : Nat → Prop) (w : World) (xs : List Value) (j : Nat) : Prop :=
  ∃ v0 v1 v2 v3, xs[j * 5]? = some v0 ∧ xs[j * 5 + 1]? = some v1 ∧ xs[j * 5 + 2]? = some v2 ∧ xs[j * 5 + 3]? = some v3 ∧ xs[j * 5 + 4]? = some (.int .i64 (j : Int)) ∧ Mk K w j v0 ∧ Mk K w j v1 ∧ Mk K w j v2 ∧ Mk K w j v3
/-- a book -/
structure BkV (K : Nat → Prop) (bk n : Nat) (v : Value) (xs : List Value) (w : World) : Prop where
  blk : w.heap[bk]? = some (.cells #[v] 66 (0, 0))
  own : w.ownsRow (bk + 1) 85 5 v n xs
  nk : ¬ K bk
  no : ∀ g, v.ownBlock = some g → ¬ K g
  one : ∀ u ∈ xs, u.oneCell' = true
  n8 : n ≤ 8
  ent : ∀ j, j < n → Ent (fun b => K b ∨ b = bk ∨ v.ownBlock = some b) w xs j
def Bk (K : Nat → Prop) (bk n : Nat) (w : World) : Prop := ∃ v xs, BkV K bk n v xs w
theorem Ent.up {K : Nat → Prop} {w w' : World} {xs : List Value} {j : Nat} (h : Ent K w xs j) (u : Up w w') : Ent K w' xs j := by
  obtain ⟨v0, v1, v2, v3, h0, h1, h2, h3, h4, m0, m1, m2, m3⟩ := h
  exact ⟨v0, v1, v2, v3, h0, h1, h2, h3, h4, m0.up u, m1.up u, m2.up u, m3.up u⟩
theorem Ent.fr {K : Nat → Prop} {w w' : World} {xs : List Value} {j c : Nat} (h : Ent K w xs j) (u : Fr c w w') (hc : K c) : Ent K w' xs j := by
  obtain ⟨v0, v1, v2, v3, h0, h1, h2, h3, h4, m0, m1, m2, m3⟩ := h
  exact ⟨v0, v1, v2, v3, h0, h1, h2, h3, h4, m0.fr u hc, m1.fr u hc, m2.fr u hc, m3.fr u hc⟩
theorem Ent.mono {K K' : Nat → Prop} {w : World} {xs : List Value} {j : Nat} (h : Ent K w xs j) (hk : ∀ b, b < w.heap.size → K' b → K b) : Ent K' w xs j := by
  obtain ⟨v0, v1, v2, v3, h0, h1, h2, h3, h4, m0, m1, m2, m3⟩ := h
  exact ⟨v0, v1, v2, v3, h0, h1, h2, h3, h4, m0.mono hk, m1.mono hk, m2.mono hk, m3.mono hk⟩
theorem Ent.app {K : Nat → Prop} {w : World} {xs ys : List Value} {j : Nat} (h : Ent K w xs j) : Ent K w (xs ++ ys) j := by
  obtain ⟨v0, v1, v2, v3, h0, h1, h2, h3, h4, m⟩ := h
  have f : ∀ {k : Nat} {v : Value}, xs[k]? = some v → (xs ++ ys)[k]? = some v := fun {k v} hk => by rw [List.getElem?_append_left (List.getElem?_eq_some_iff.1 hk).1]; exact hk
  exact ⟨v0, v1, v2, v3, f h0, f h1, f h2, f h3, f h4, m⟩
theorem ownsRow_fr {w w' : World} {base n c : Nat} {ty : TypeId} {size : Nat} {v : Value} {xs : List Value} (h : w.ownsRow base ty size v n xs) (f : Fr c w w') (hc : v.ownBlock ≠ some c) : w'.ownsRow base ty size v n xs := by
  refine ⟨h.1, h.2.imp id fun ⟨g, cap, cur, h1, h2, h3, h4⟩ => ⟨g, cap, cur, h1, h2, ?_, h4⟩⟩
  refine (f.block g (Array.getElem?_eq_some_iff.1 h3).1 (fun e => hc ?_)).trans h3
  rw [h1, ← e]
  rfl
theorem ownsRow_up {w w' : World} {base n : Nat} {ty : TypeId} {size : Nat} {v : Value} {xs : List Value} (h : w.ownsRow base ty size v n xs) (u : Up w w') : w'.ownsRow base ty size v n xs :=
  ⟨h.1, h.2.imp id fun ⟨g, cap, cur, h1, h2, h3, h4⟩ => ⟨g, cap, cur, h1, h2, (u.block g (Array.getElem?_eq_some_iff.1 h3).1).trans h3, h4⟩⟩
theorem BkV.up {K : Nat → Prop} {bk n : Nat} {v : Value} {xs : List Value} {w w' : World} (h : BkV K bk n v xs w) (u : Up w w') : BkV K bk n v xs w' :=
  ⟨(u.block bk (Array.getElem?_eq_some_iff.1 h.blk).1).trans h.blk, ownsRow_up h.own u, h.nk, h.no, h.one, h.n8, fun j hj => (h.ent j hj).up u⟩
theorem BkV.fr {K : Nat → Prop} {bk n c : Nat} {v : Value} {xs : List Value} {w w' : World} (h : BkV K bk n v xs w) (u : Fr c w w') (hc : K c) : BkV K bk n v xs w' :=
  ⟨(u.block bk (Array.getElem?_eq_some_iff.1 h.blk).1 (fun e => h.nk (e ▸ hc))).trans h.blk, ownsRow_fr h.own u (fun e => h.no c e hc), h.nk, h.no, h.one, h.n8, fun j hj => (h.ent j hj).fr u (Or.inl hc)⟩
theorem BkV.mono {K K' : Nat → Prop} {bk n : Nat} {v : Value} {xs : List Value} {w : World} (h : BkV K bk n v xs w) (hk : ∀ b, b < w.heap.size → K' b → K b) : BkV K' bk n v xs w :=
  ⟨h.blk, h.own, fun e => h.nk (hk bk (Array.getElem?_eq_some_iff.1 h.blk).1 e), fun g hg e => h.no g hg (hk g (h.own.lt g hg).2 e), h.one, h.n8, fun j hj => (h.ent j hj).mono fun b hb e => e.imp (hk b hb) id⟩
theorem Bk.up {K : Nat → Prop} {bk n : Nat} {w w' : World} (h : Bk K bk n w) (u : Up w w') : Bk K bk n w' := by
  obtain ⟨v, xs, h⟩ := h
  exact ⟨v, xs, h.up u⟩
theorem Bk.fr {K : Nat → Prop} {bk n c : Nat} {w w' : World} (h : Bk K bk n w) (u : Fr c w w') (hc : K c) : Bk K bk n w' := by
  obtain ⟨v, xs, h⟩ := h
  exact ⟨v, xs, h.fr u hc⟩
theorem Bk.mono {K K' : Nat → Prop} {bk n : Nat} {w : World} (h : Bk K bk n w) (hk : ∀ b, b < w.heap.size → K' b → K b) : Bk K' bk n w := by
  obtain ⟨v, xs, h⟩ := h
  exact ⟨v, xs, h.mono hk⟩
theorem own_slice {w : World} {base n size : Nat} {ty : TypeId} {v : Value} {xs : List Value} (h : w.ownsRow base ty size v n xs) : ∃ va vc, v = .slice va n vc ∧ n ≤ vc ∧ vc ≤ maxLen := by
  rcases h.2 with ⟨hv, hn⟩ | ⟨g, cap, cur, hv, _, _, hc, hm, _⟩
  · exact ⟨none, 0, by rw [hv, hn], by omega, Nat.zero_le _⟩
  · exact ⟨some ⟨g, 0, none⟩, cap, hv, hc, hm⟩
end Go.Proofs.Ytmjfccdhjhkocaa
