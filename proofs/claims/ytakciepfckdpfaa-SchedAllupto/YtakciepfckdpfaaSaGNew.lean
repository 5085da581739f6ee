/- Sched: a step of the script. -/
import Derived.Test.YtakciepfckdpfaaSaGAdd
namespace Go.Proofs.Ytakciepfckdpfaa
open Go.RowKit
set_option linter.unusedVariables false
set_option linter.unusedSimpArgs false
variable {w w' W W0 : World} {ρ : Nat → Nat} {wb : Nat} {P : Pos} {ps : List (Nat × Nat)} {S : List Sd} {F : List (Nat × List Int)} {A : List Value} {G : List (List Int)} {Lv : List Value} {Lm : List Int}
set_option maxRecDepth 100000 in
set_option maxHeartbeats 4000000 in
theorem stepNewNo {pp nn : Int} {rr : Bool} (h : Bk 22 W0 ρ W wb P ps S S F A G Lv Lm) (hL : Lm.length = Lv.length) (hA : A.length = F.length) (hG : G = F.map Prod.snd) (hF : F.length ≤ 100) (hps : ps.length ≤ 1099511627776) (hpp : I64 pp) (hnn : I64 nn) (hr : nn < 1 ∨ 8 < nn) :
    Calls Try.prog 20 #[.pointer (some ⟨wb, 0, none⟩), .agg #[.int .i64 1, .int .i64 pp, .int .i64 nn, .bool rr]] W fun e w' => e = .returned (.bool true) ∧ Sp W0 wb (ps.length + 1) (F.length + 2) Lv.length w' := by
  have HN1 : Hid (∀ w, Calls Try.prog 23 #[.int .i64 nn] w fun e w' => e = .returned (.tuple #[.pointer none, .int .i64 1]) ∧ w' = w) := fun w => new_no hnn hr
  have HN2 : Hid (∀ w, Calls Try.prog 29 #[.int .i64 nn] w fun e w' => e = .returned (.tuple #[.pointer none, .int .i64 1]) ∧ w' = w) := fun w => newR_no hnn hr
  have HE : Hid (∀ w, Up W w → Sp W0 wb (ps.length + 1) (F.length + 2) Lv.length w) := fun w u => ⟨_, P, ps, S, F, A, G, Lv, Lm, h.upR (r := 30) u (by omega), hL, hA, hG, by omega, by omega, Nat.le_refl _⟩
  clear h hL hA hG hF hps hpp hnn hr
  go_enter Try.func20, Try.ntmps20
  go_wp2_with fail
  have u1 : Up W (W.alloc (Obj.cells #[.int .i64 1, .int .i64 pp, .int .i64 nn, .bool rr] 54)) := (Up.refl W).alloc _
  have k1 : (W.alloc (Obj.cells #[.int .i64 1, .int .i64 pp, .int .i64 nn, .bool rr] 54)).heap[W.heap.size]? = some (.cells #[.int .i64 1, .int .i64 pp, .int .i64 nn, .bool rr] 54 (0, 0)) := heap_alloc_new W _
  obtain ⟨ob, hob⟩ : ∃ ob, ob = W.heap.size := ⟨_, rfl⟩
  rw [← hob] at k1 ⊢
  generalize World.alloc W _ = W1 at u1 k1 ⊢
  have ko2 := heap_cell k1 (o := 2) (v := .int .i64 nn) rfl
  clear k1 hob
  refine (HN1.out _).mono ?_
  rintro e w' ⟨rfl, hw⟩
  obtain rfl := hw.symm
  clear hw
  go_wp2_with fail
  refine (HN2.out _).mono ?_
  rintro e w' ⟨rfl, hw⟩
  obtain rfl := hw.symm
  clear hw
  go_wp2_with fail
  refine (num_any _ _).mono ?_
  rintro e w' ⟨rfl, hw⟩
  obtain rfl := hw.symm
  clear hw
  go_wp2_with fail
  refine (num_any _ _).mono ?_
  rintro e w' ⟨rfl, hw⟩
  obtain rfl := hw.symm
  clear hw
  go_wp2_with fail
  go_ret
  exact ⟨by first | rfl | (simp; done), HE.out _ u1⟩
set_option maxRecDepth 100000 in
set_option maxHeartbeats 4000000 in
theorem stepNewYes {pp nn : Int} {rr : Bool} (h : Bk 22 W0 ρ W wb P ps S S F A G Lv Lm) (hL : Lm.length = Lv.length) (hA : A.length = F.length) (hG : G = F.map Prod.snd) (hF : F.length ≤ 100) (hps : ps.length ≤ 1099511627776) (hpp : I64 pp) (hnn : I64 nn) {k : Nat} (hk1 : 1 ≤ k) (hk2 : k ≤ 8) (hkn : nn = (k : Int)) :
    Calls Try.prog 20 #[.pointer (some ⟨wb, 0, none⟩), .agg #[.int .i64 1, .int .i64 pp, .int .i64 nn, .bool rr]] W fun e w' => e = .returned (.bool true) ∧ Sp W0 wb (ps.length + 1) (F.length + 2) Lv.length w' := by
  obtain ⟨la, lc, hlv, l1, l2⟩ := own_slice h.lR.own
  have hip : Try.prog.info? 77 = some Try.t77 := by kernel_rfl
  obtain ⟨np, hnp⟩ : ∃ np, np = ps.length := ⟨_, rfl⟩
  have HN1 : Hid (∀ w, Calls Try.prog 23 #[.int .i64 nn] w fun e w' => ∃ sb, e = .returned (.tuple #[.pointer (some ⟨sb, 0, none⟩), .int .i64 0]) ∧ SdAt (fun b => b < w.heap.size) w' sb ⟨[], offs k⟩ ∧ Up w w' ∧ w.heap.size ≤ sb) := fun w => by rw [hkn]; exact new_ok hk1 hk2 (fun b hb => hb)
  have HN2 : Hid (∀ w, Calls Try.prog 29 #[.int .i64 nn] w fun e w' => ∃ yb, e = .returned (.tuple #[.pointer (some ⟨yb, 0, none⟩), .int .i64 0]) ∧ RfAt (fun b => b < w.heap.size) w' yb ⟨[], offs k⟩ ∧ Up w w' ∧ w.heap.size ≤ yb) := fun w => by rw [hkn]; exact newR_ok hk1 hk2 (fun b hb => hb)
  have HB1 : Hid (∀ w w1 w2 w3 xb yb, Up W w → SdAt (fun b => b < w.heap.size) w1 xb ⟨[], offs k⟩ → Up w w1 → RfAt (fun b => b < w1.heap.size) w2 yb ⟨[], offs k⟩ → Up w1 w2 → Up w2 w3 → w3.ownsRow 0 77 2 (.slice la np lc) np (ptrs ps) ∧ ∀ w4 v', w3.grownBy w4 (Value.slice la np lc).ownBlock → w4.ownsRow 0 77 2 v' (np + 1) (ptrs ps ++ [.pointer (some ⟨xb, 0, none⟩), .pointer (some ⟨yb, 0, none⟩)]) → (v'.ownBlock = (Value.slice la np lc).ownBlock ∨ v'.ownBlock = some w3.heap.size) → Sp W0 wb (np + 1) (F.length + 2) Lv.length (w4.setCell ⟨wb, 0, none⟩ v') ∧ w4.cell? ⟨wb, 0, none⟩ = some (.slice la np lc) ∧ w4.frozen? ⟨wb, 0, none⟩ = false) := fun w w1 w2 w3 xb yb u0 hx u1 hy u2 u3 => by
    have b0 := h.upR (r := 30) u0 (by omega)
    rw [hnp, ← hlv]
    refine ⟨ownsRow_up h.lR.own (((u0.trans u1).trans u2).trans u3), fun w4 v' g o a => ?_⟩
    obtain ⟨⟨ρ9, P9, b9⟩, q1, q2⟩ := b0.put u1 hx u2 hy u3 g o a
    exact ⟨⟨ρ9, P9, _, _, F, A, G, Lv, Lm, b9, hL, hA, hG, by simp, by omega, Nat.le_refl _⟩, q1, q2⟩
  have HLV : Hid (∀ w, Up W w → w.cell? ⟨wb, 0, none⟩ = some (.slice la np lc)) := fun w u => cell_up u (by rw [hnp, ← hlv]; exact heap_cell h.blk rfl)
  rw [← hnp] at l1 hps ⊢
  clear h hlv hA hG hL hpp hnn hF hnp hkn hk1 hk2
  generalize ptrs ps = cs at HB1
  go_enter Try.func20, Try.ntmps20
  go_wp2_with fail
  have u1 : Up W (W.alloc (Obj.cells #[.int .i64 1, .int .i64 pp, .int .i64 nn, .bool rr] 54)) := (Up.refl W).alloc _
  have k1 : (W.alloc (Obj.cells #[.int .i64 1, .int .i64 pp, .int .i64 nn, .bool rr] 54)).heap[W.heap.size]? = some (.cells #[.int .i64 1, .int .i64 pp, .int .i64 nn, .bool rr] 54 (0, 0)) := heap_alloc_new W _
  obtain ⟨ob, hob⟩ : ∃ ob, ob = W.heap.size := ⟨_, rfl⟩
  rw [← hob] at k1 ⊢
  generalize World.alloc W _ = W1 at u1 k1 ⊢
  have ko2 := heap_cell k1 (o := 2) (v := .int .i64 nn) rfl
  clear k1 hob
  refine (HN1.out _).mono ?_
  rintro e w2 ⟨xb, rfl, hx, u2, hxb⟩
  have HX : Hid _ := hx
  have ko := cell_up u2 ko2
  clear hx ko2 hxb
  go_wp2_with fail
  refine (HN2.out _).mono ?_
  rintro e w3 ⟨yb, rfl, hy, u3, hyb⟩
  have HY : Hid _ := hy
  clear hy ko hyb
  go_wp2_with fail
  refine (num_any _ _).mono ?_
  rintro e w' ⟨rfl, hw⟩
  obtain rfl := hw.symm
  clear hw
  go_wp2_with fail
  refine (num_any _ _).mono ?_
  rintro e w' ⟨rfl, hw⟩
  obtain rfl := hw.symm
  clear hw
  have HB2 : Hid _ := fun w4 u4 => HB1.out W1 w2 w3 w4 xb yb u1 HX.out u2 HY.out u3 u4
  have kl := HLV.out _ ((u1.trans u2).trans u3)
  clear HB1 HX HY
  go_wp2_with (at_builtin; refine wpList_append_own_at2 _ rfl _ _ 48 48 rfl 0 77 Try.t77 (.agg #[.pointer none, .pointer none]) 2 16 Try.underlying48 Try.underlying48 hip rfl rfl rfl rfl (by decide) _ _ _ rfl (HB2.out _ ((Up.refl w3).alloc _)).1 ⟨w3.heap.size, 0, none⟩ 1 1 [.pointer (some ⟨xb, 0, none⟩), .pointer (some ⟨yb, 0, none⟩)] rfl rfl (by intro j u hu; rw [Addr.add_lit, Nat.zero_add, cell_of_row _ _ _ _ _ _ (heap_alloc_new w3 _)]; simpa using hu) (by intro u hu; simp at hu; rcases hu with rfl | rfl <;> rfl) (by unfold maxLen; omega) (by omega) (Nat.zero_le _) ?_; intro v' w5 ho hg hat; have H5 : Hid _ := (HB2.out _ ((Up.refl w3).alloc _)).2 w5 v' hg ho hat; obtain ⟨va', vn', vc', rfl⟩ := own_slice3 ho; clear ho hg hat; have k5 := H5.out.2.1; have z5 := H5.out.2.2)
  go_ret
  exact ⟨by first | rfl | (simp; done), H5.out.1⟩
set_option maxRecDepth 100000 in
set_option maxHeartbeats 4000000 in
theorem stepNone {kd pp nn : Int} {rr : Bool} (h : Bk 22 W0 ρ W wb P ps S S F A G Lv Lm) (hL : Lm.length = Lv.length) (hA : A.length = F.length) (hG : G = F.map Prod.snd) (hF : F.length ≤ 100) (hps : ps.length ≤ 1099511627776) (hpp : I64 pp) (hnn : I64 nn) (hk : kd ≠ 1) (hn0 : ps = []) :
    Calls Try.prog 20 #[.pointer (some ⟨wb, 0, none⟩), .agg #[.int .i64 kd, .int .i64 pp, .int .i64 nn, .bool rr]] W fun e w' => e = .returned (.bool true) ∧ Sp W0 wb (ps.length + 1) (F.length + 2) Lv.length w' := by
  obtain ⟨la, lc, hlv, l1, l2⟩ := own_slice h.lR.own
  have HLV : Hid (∀ w, Up W w → w.cell? ⟨wb, 0, none⟩ = some (.slice la 0 lc)) := fun w u => cell_up u (by rw [hn0] at hlv; rw [List.length_nil] at hlv; rw [← hlv]; exact heap_cell h.blk rfl)
  have HE : Hid (∀ w, Up W w → Sp W0 wb (ps.length + 1) (F.length + 2) Lv.length w) := fun w u => ⟨_, P, ps, S, F, A, G, Lv, Lm, h.upR (r := 30) u (by omega), hL, hA, hG, by omega, by omega, Nat.le_refl _⟩
  have b1 : (kd == 1) = false := beq_eq_false_iff_ne.2 hk
  have HWb : Hid (wb < W.heap.size) := h.wlt
  clear h hlv hL hA hG hF hps hpp hnn hk hn0
  go_enter Try.func20, Try.ntmps20
  have hWbl : wb < W.heap.size := HWb.out
  have hWb2 : ¬ wb = W.heap.size := by omega
  have kw0 := HLV.out W (Up.refl W)
  go_wp2_with fail
  go_ret
  exact ⟨by first | rfl | (simp; done), HE.out _ ((Up.refl W).alloc _)⟩
end Go.Proofs.Ytakciepfckdpfaa
