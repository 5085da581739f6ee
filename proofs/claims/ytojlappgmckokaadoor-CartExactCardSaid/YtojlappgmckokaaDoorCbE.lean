/- Cart: slices.Concat of two lists of bytes. -/
import Derived.Test.YtojlappgmckokaaDoorCbB
import Derived.Deep.DeepCutAuto
import Derived.Lib.AppendZeros
namespace Go.Proofs.YtojlappgmckokaaDoor
open Go.Shelf Go.RowKit
set_option linter.unusedVariables false
set_option linter.unusedSimpArgs false
variable {w w' W : World} {b : Nat}
set_option maxRecDepth 100000 in
set_option maxHeartbeats 1000000 in
theorem grow_any {n : Nat} (hn : 1 ≤ n) (hn2 : n ≤ 1073741824) : Calls Tryd.prog 63 #[.slice none 0 0, .int .i64 (n : Int)] W fun e w' => ∃ v, e = .returned v ∧ w'.ownsRow W.heap.size 5 1 v 0 [] ∧ Up W w' := by
  have hrz : ∀ (w : World) ty, (Builtin.append_ #[24, 3] ty #[.slice none 0 0, .int .i64 (n : Int)]).run Tryd.prog w = .ok (.slice (some ⟨w.heap.size, 0, none⟩) n (grownCap w n 0 5)) (w.drew.alloc (.cells (Builtin.zeroCells (Value.int .u8 0).cells n ++ Builtin.zeroCells (Value.int .u8 0).cells (grownCap w n 0 5 - n)) 5)) := fun w ty =>
    Lib.run_append_nil_zeros (P := Tryd.prog) w 24 3 ty 5 Tryd.t5 (.int .u8 0) .i64 .i64 Tryd.underlying24 Tryd.underlying3 (by kernel_rfl) rfl n (by omega) (by decide) (by omega) (by show n * 1 ≤ _; omega)
  have hGn : ∀ w : World, n ≤ grownCap w n 0 5 := fun w => grownCap_ge w _ _ _
  have hGm : ∀ w : World, grownCap w n 0 5 ≤ maxLen := fun w => grownCap_le_maxLen w _ _ _ (by unfold maxLen; omega)
  have HG : Hid (∀ w : World, n ≤ grownCap w n 0 5 ∧ grownCap w n 0 5 ≤ maxLen) := fun w => ⟨hGn w, hGm w⟩
  have hG9 : ∀ w : World, grownCap w n 0 5 ≤ 9223372036854775807 := fun w => by have := hGm w; unfold maxLen at this; omega
  have e0 : (0 : Int) < (n : Int) := by omega
  have e1 : ¬ (n : Int) < 0 := by omega
  clear hGm
  go_enter Tryd.func63, Tryd.ntmps63
  go_wp2_with (at_builtin; refine Lib.wpList_append_run _ rfl _ _ _ _ rfl _ _ rfl rfl _ _ (hrz _ _) ?_)
  all_goals
    go_ret
    refine ⟨_, rfl, ⟨rfl, Or.inr ⟨_, _, _, rfl, Nat.le_refl _, heap_alloc_new _ _, Nat.zero_le _, (HG.out _).2, ?_, rfl⟩⟩, ?_⟩
    · have := (HG.out W).1
      simp [Builtin.zeroCells, Value.cells]
      omega
    · exact ((Up.refl W).drew).alloc _
def catF (n : Nat) (f h : Nat → Int) : Nat → Int := fun k => if k < n then f k else h (k - n)
theorem cat_list (f h : Nat → Int) (n m : Nat) : byL f n ++ byL h m = byL (catF n f h) (n + m) := by
  refine List.ext_getElem? fun k => ?_
  by_cases h1 : k < n
  · rw [List.getElem?_append_left (by rw [byL_len]; exact h1), byL_at h1, byL_at (by omega)]
    unfold catF
    rw [if_pos h1]
  · rw [List.getElem?_append_right (by rw [byL_len]; omega), byL_len]
    by_cases h2 : k < n + m
    · rw [byL_at (by omega), byL_at h2]
      unfold catF
      rw [if_neg h1]
    · rw [List.getElem?_eq_none_iff.2 (by rw [byL_len]; omega), List.getElem?_eq_none_iff.2 (by rw [byL_len]; omega)]
theorem grown_upB {n size : Nat} {ty : TypeId} {v : Value} {xs : List Value} {w1 : World} (u : Up W w) (h : w.ownsRow W.heap.size ty size v n xs) (g : w.grownBy w1 v.ownBlock) : Up W w1 := by
  refine ⟨g.os.trans u.os, g.output.trans u.output, Nat.le_trans u.size g.size, fun k hk => ?_⟩
  refine (g.block k (Nat.lt_of_lt_of_le hk u.size) (fun e => ?_)).trans (u.block k hk)
  rcases h.2 with ⟨hv, _⟩ | ⟨g', cap, cur, hv, hb, _⟩
  · rw [hv] at e
    cases e
  · rw [hv] at e
    have : some k = some g' := e
    cases this
    omega
theorem by_cells {g n : Nat} {f : Nat → Int} (h : By w g n f) : ∀ j u, (byL f n)[j]? = some u → w.cell? ((⟨g, 0, none⟩ : Addr).add j) = some u := by
  intro j u hj
  have hjn : j < n := by have := (List.getElem?_eq_some_iff.1 hj).1; rwa [byL_len] at this
  rw [byL_at hjn] at hj
  rw [← hj, show (⟨g, 0, none⟩ : Addr).add j = ⟨g, j, none⟩ by unfold Addr.add; split <;> simp_all]
  exact h.cell j hjn
set_option maxRecDepth 100000 in
set_option maxHeartbeats 1000000 in
theorem concat_any {sb g1 n1 c1 g2 n2 c2 : Nat} {f1 f2 : Nat → Int} (k0 : W.cell? ⟨sb, 0, none⟩ = some (.slice (some ⟨g1, 0, none⟩) n1 c1)) (k1 : W.cell? ⟨sb, 1, none⟩ = some (.slice (some ⟨g2, 0, none⟩) n2 c2)) (b1 : By W g1 n1 f1) (b2 : By W g2 n2 f2) (h1 : 1 ≤ n1) (h2 : n1 ≤ 1000) (h3 : n2 ≤ 131072) : Calls Tryd.prog 46 #[.slice (some ⟨sb, 0, none⟩) 2 2] W (Cop W (n1 + n2) (catF n1 f1 f2)) := by
  have HK : Hid (∀ w, Up W w → w.cell? ⟨sb, 0, none⟩ = some (.slice (some ⟨g1, 0, none⟩) n1 c1) ∧ w.cell? ⟨sb, 1, none⟩ = some (.slice (some ⟨g2, 0, none⟩) n2 c2)) := fun w u => ⟨cell_up u k0, cell_up u k1⟩
  have HB : Hid (∀ w, Up W w → By w g1 n1 f1 ∧ By w g2 n2 f2) := fun w u => ⟨b1.up u, b2.up u⟩
  have HGr : Hid (∀ w, Up W w → Calls Tryd.prog 63 #[.slice none 0 0, .int .i64 ((n1 : Int) + (n2 : Int))] w fun e w' => ∃ v, e = .returned v ∧ w'.ownsRow w.heap.size 5 1 v 0 [] ∧ Up w w') := fun w u => by
    have := grow_any (W := w) (n := n1 + n2) (by omega) (by omega)
    rw [Int.natCast_add] at this
    exact this
  clear b1 b2
  go_enter Tryd.func46, Tryd.ntmps46
  go_wp2_with fail
  have HU0 : Hid (Up W W) := Up.refl W
  go_loopw [3, 11] (fun S J wr => wr = W ∧ ((J = .int .i64 0 ∧ S = .int .i64 0) ∨ (J = .int .i64 1 ∧ S = .int .i64 (n1 : Int)) ∨ (J = .int .i64 2 ∧ S = .int .i64 ((n1 : Int) + (n2 : Int))))) (fun _ J _ => 2 - (intOf J).toNat)
  case atStart => exact ⟨rfl, Or.inl ⟨rfl, rfl⟩⟩
  case round =>
    obtain ⟨hwr, hcs⟩ := hrel
    subst hwr
    rcases hcs with ⟨rfl, rfl⟩ | ⟨rfl, rfl⟩ | ⟨rfl, rfl⟩
    · go_wp2_with fail
      go_round
      case rel => exact ⟨by trivial, Or.inr (Or.inl ⟨by go_num, by go_num⟩)⟩
      case measure => simp [intOf]
    · go_wp2_with fail
      go_round
      case rel => exact ⟨by trivial, Or.inr (Or.inr ⟨by go_num, by go_num⟩)⟩
      case measure => simp [intOf]
    · go_wp2_with fail
      refine (HGr.out _ (Up.refl _)).mono ?_
      rintro e w1 ⟨v, rfl, ho, u1⟩
      have HO1 : Hid (w1.ownsRow wr.heap.size 5 1 v 0 []) := ho
      have HU1 : Hid (Up wr w1) := u1
      clear ho u1 HU0 k0 k1 HGr
      obtain ⟨W0, hW0⟩ : ∃ W0, W0 = wr := ⟨_, rfl⟩
      subst hW0
      go_wp2_with fail
      go_loopw [6, 27] (fun S J wr => (J = .int .i64 0 ∧ Hid (wr.ownsRow W0.heap.size 5 1 S 0 [] ∧ Up W0 wr)) ∨ (J = .int .i64 1 ∧ Hid (wr.ownsRow W0.heap.size 5 1 S n1 (byL f1 n1) ∧ Up W0 wr)) ∨ (J = .int .i64 2 ∧ Hid (wr.ownsRow W0.heap.size 5 1 S (n1 + n2) (byL f1 n1 ++ byL f2 n2) ∧ Up W0 wr))) (fun _ J _ => 2 - (intOf J).toNat)
      case atStart => exact Or.inl ⟨rfl, HO1.out, HU1.out⟩
      case round =>
        clear HO1 HU1
        rcases hrel with ⟨rfl, HR⟩ | ⟨rfl, HR⟩ | ⟨rfl, HR⟩
        · obtain ⟨q0, q1⟩ := HK.out wr HR.out.2
          go_wp2_with (at_builtin; refine wpList_append_own_at2 _ rfl _ _ _ _ rfl W0.heap.size 5 Tryd.t5 (.int .u8 0) 1 1 Tryd.underlying24 Tryd.underlying24 (by kernel_rfl) (by kernel_rfl) (by kernel_rfl) (by kernel_rfl) rfl (by decide) _ 0 [] rfl HR.out.1 ⟨g1, 0, none⟩ n1 c1 (byL f1 n1) rfl (by rw [byL_len, Nat.mul_one]) (by_cells (HB.out wr HR.out.2).1) (byL_one f1 n1) (by unfold maxLen; omega) (by omega) HR.out.2.size ?_; intro v' w5 h5 h6 _; have HN : Hid (w5.ownsRow W0.heap.size 5 1 v' n1 (byL f1 n1) ∧ Up W0 w5) := ⟨by rw [Nat.zero_add, List.nil_append] at h5; exact h5, grown_upB HR.out.2 HR.out.1 h6⟩; clear h5 h6 q0 q1)
          go_round
          case rel => exact Or.inr (Or.inl ⟨by go_num, HN⟩)
          case measure => simp [intOf]
        · obtain ⟨q0, q1⟩ := HK.out wr HR.out.2
          go_wp2_with (at_builtin; refine wpList_append_own_at2 _ rfl _ _ _ _ rfl W0.heap.size 5 Tryd.t5 (.int .u8 0) 1 1 Tryd.underlying24 Tryd.underlying24 (by kernel_rfl) (by kernel_rfl) (by kernel_rfl) (by kernel_rfl) rfl (by decide) _ n1 (byL f1 n1) rfl HR.out.1 ⟨g2, 0, none⟩ n2 c2 (byL f2 n2) rfl (by rw [byL_len, Nat.mul_one]) (by_cells (HB.out wr HR.out.2).2) (byL_one f2 n2) (by unfold maxLen; omega) (by omega) HR.out.2.size ?_; intro v' w5 h5 h6 _; have HN : Hid (w5.ownsRow W0.heap.size 5 1 v' (n1 + n2) (byL f1 n1 ++ byL f2 n2) ∧ Up W0 w5) := ⟨h5, grown_upB HR.out.2 HR.out.1 h6⟩; clear h5 h6 q0 q1)
          go_round
          case rel => exact Or.inr (Or.inr ⟨by go_num, HN⟩)
          case measure => simp [intOf]
        · go_wp2_with fail
          go_ret
          obtain ⟨o1, u1⟩ := HR.out
          rw [cat_list] at o1
          rcases o1.2 with ⟨_, hz⟩ | ⟨g', cap', cur, hv, hbase, hg, hn', hcm, hcs, htk⟩
          · omega
          · refine ⟨g', cap', by rw [← hv]; first | rfl | (simp; done), by omega, ⟨cur, 5, hg, by omega, fun k hk => ?_⟩, hn', hcm, u1⟩
            rw [own_at htk k (by omega)]
            exact byL_at hk
end Go.Proofs.YtojlappgmckokaaDoor
