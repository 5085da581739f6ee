/- Block: the document's Image. -/
import Derived.Test.YtekffilokdmfgaaBcC
import Derived.Deep.CutBlock
namespace Go.Proofs.Ytekffilokdmfgaa
open Go.RowKit
set_option linter.unusedVariables false
set_option linter.unusedSimpArgs false
variable {w w' W : World} {g n m o : Nat} {f f' : Nat → Int} {K K' : Nat → Prop} {sb : Nat} {A : Rd} {S : Sto}
theorem copy_run {g o n m c k : Nat} {ad : Addr} {f h : Nat → Int} (hB : By w g n f) (ho : o + k ≤ n) (hk : k = Nat.min m c) (hs : ∀ j, j < k → w.cell? (ad.add j) = some (.int .u8 (h j))) (dc sc : Nat) (ty : TypeId) : (Builtin.copy_ #[25, 25] ty #[.slice (some ⟨g, o, none⟩) c dc, .slice (some ad) m sc]).run Try.prog w = .ok (goInt k) (w.setCells g o (byL h k)) := by
  have hr := run_copy_cells (P := Try.prog) w 25 25 ty 5 g o c dc ad m sc (byL h k) Try.underlying25 (by kernel_rfl) (by rw [byL_len]; exact hk) (fun j v hj => ?_) (fun j hj => ?_) (fun j hj => hB.fz _) (byL_one h k)
  · rw [byL_len] at hr
    exact hr
  · have hjn : j < k := by have := (List.getElem?_eq_some_iff.1 hj).1; rwa [byL_len] at this
    rw [byL_at hjn] at hj
    rw [← hj]
    exact hs j hjn
  · rw [byL_len] at hj
    rw [hB.cell (o + j) (by omega)]
    rfl
theorem RfR.wrCell (h : RfR K w sb A S) {gr cap j : Nat} {x : Wr} (hv : A.pv = .slice (some ⟨gr, 0, none⟩) A.ws.length cap) (hj : A.ws[j]? = some x) : w.cell? ⟨gr, j * 2, none⟩ = some (.int .i64 (x.sec : Int)) ∧ w.cell? ⟨gr, j * 2 + 1, none⟩ = some (.slice (some ⟨x.blk, 0, none⟩) 512 x.cap) := by
  have hl := (List.getElem?_eq_some_iff.1 hj).1
  have hr := h.row
  rw [hv] at hr
  have fr : ∀ r, r < 2 → w.cell? ⟨gr, j * 2 + r, none⟩ = x.cells[r]? := fun r hr2 => by
    have := own_cell hr (j * 2 + r) (by omega)
    rw [Nat.zero_add] at this
    rw [this]
    exact wrCells_at A.ws j r x hj hr2
  exact ⟨fr 0 (by decide), fr 1 (by decide)⟩
set_option maxRecDepth 100000 in
set_option maxHeartbeats 2000000 in
theorem imageR_any (h : RfR K W sb A S) (h8 : ∀ k, 0 ≤ S.safe k ∧ S.safe k ≤ 255) (hp : S.pend.length ≤ 1099511627776) :
    Calls Try.prog 29 #[.pointer (some ⟨sb, 0, none⟩)] W (Cop W (512 * S.n) (syncN S.pend S.safe S.pend.length)) := by
  have hn1 := h.n1
  have hn := h.n2
  have hpl : A.ws.length = S.pend.length := by rw [← h.tie, List.length_map]
  obtain ⟨pa, pc, hv, hp1, hp2⟩ := h.pv
  have hpc : pc ≤ 9223372036854775807 := by unfold maxLen at hp2; omega
  obtain ⟨u, w1, r1, o1, u1⟩ := want_runB (h.safe.byts h.fc1 h.fc2 h8) (fun e => by cases e) (by omega)
  have HR : Hid _ := r1
  have k0 : (W.alloc (.cells #[] 5)).cell? ⟨sb, 0, none⟩ = some (.slice (some ⟨A.fb, 0, none⟩) (512 * S.n) A.fc) := (h.up ((Up.refl W).alloc _)).cell.1
  have k1 := (h.up u1).cell.2.1
  rw [hv] at k1
  have HS : Hid (∀ w, Up W w → RfR K w sb A S) := fun w u => h.up u
  obtain ⟨g, gc, rfl, g1, g2, g3, g4⟩ : ∃ g cap, u = .slice (some ⟨g, 0, none⟩) (512 * S.n) cap ∧ 512 * S.n ≤ cap ∧ cap ≤ maxLen ∧ W.heap.size ≤ g ∧ By w1 g (512 * S.n) S.safe := by
    rcases own_cases o1 with ⟨_, e, _⟩ | ⟨g, cap, rfl, q1, q2, q3, q4⟩
    · omega
    · obtain ⟨cur, hg, hb, hc, hm, hs, ht⟩ := own_open o1
      exact ⟨g, cap, rfl, q1, q2, hb, ⟨cur, _, hg, by omega, fun k hk => by rw [own_at ht.1 k (by omega)]; exact byL_at hk⟩⟩
  have HI : Hid (By w1 g (512 * S.n) (syncN S.pend S.safe 0) ∧ Up W w1) := ⟨g4, u1⟩
  clear r1 o1 u1 g4
  go_enter Try.func29, Try.ntmps29
  go_upto_block 0 with (at_builtin; refine Lib.wpList_append_run _ rfl _ _ _ _ rfl _ _ rfl rfl _ _ HR.out ?_; clear HR)
  go_wp2_with fail
  have HWs : Hid (∀ k, k < S.pend.length → ∃ x, A.ws[k]? = some x ∧ S.pend[k]? = some x.pl) := fun k hk => by
    have hk2 : k < A.ws.length := by omega
    refine ⟨A.ws[k], List.getElem?_eq_getElem hk2, ?_⟩
    rw [← h.tie, List.getElem?_map, List.getElem?_eq_getElem hk2]
    rfl
  have HG : Hid (0 < S.pend.length → ∃ gr, pa = some ⟨gr, 0, none⟩ ∧ A.pv = .slice (some ⟨gr, 0, none⟩) A.ws.length pc) := fun hp => by
    rcases own_cases h.row with ⟨hv2, hn2, _⟩ | ⟨gr, cap, hv2, _⟩
    · omega
    · rw [hv] at hv2
      injection hv2 with e1 e2 e3
      exact ⟨gr, e1, by rw [hv, e1, hpl]⟩
  have HPv : Hid (A.pv = .slice pa S.pend.length pc) := hv
  clear h hv hpl hp2 k0 k1
  go_loopw [4] (fun I wr => ∃ k : Nat, k ≤ S.pend.length ∧ I = .int .i64 k ∧ Hid (By wr g (512 * S.n) (syncN S.pend S.safe k) ∧ Up W wr)) (fun I _ => S.pend.length - (intOf I).toNat)
  case atStart => exact ⟨0, Nat.zero_le _, rfl, HI⟩
  case round =>
    clear HI
    obtain ⟨k, hk, rfl, M0⟩ := hrel
    have k1 : wr.cell? ⟨sb, 1, none⟩ = some (.slice pa S.pend.length pc) := by rw [← HPv.out]; exact (HS.out wr M0.out.2).cell.2.1
    by_cases hlt : k < S.pend.length
    · have d1 : (k : Int) < (S.pend.length : Int) := by omega
      obtain ⟨x, hx, hx2⟩ := HWs.out k hlt
      obtain ⟨gr, rfl, hpv⟩ := HG.out (by omega)
      have HCl : Hid (∀ w, Up W w → w.cell? ⟨sb, 1, none⟩ = some (.slice (some ⟨gr, 0, none⟩) S.pend.length pc) ∧ w.cell? ⟨gr, k * 2, none⟩ = some (.int .i64 (x.sec : Int)) ∧ w.cell? ⟨gr, k * 2 + 1, none⟩ = some (.slice (some ⟨x.blk, 0, none⟩) 512 x.cap)) := fun w u => ⟨by rw [← HPv.out]; exact (HS.out w u).cell.2.1, (HS.out w u).wrCell hpv hx⟩
      obtain ⟨q1, q2, q3, q4⟩ := (HS.out wr M0.out.2).wr x (List.mem_of_getElem? hx)
      have q5 : x.cap ≤ 9223372036854775807 := by unfold maxLen at q3; omega
      obtain ⟨P, hP⟩ : ∃ P : Nat, P = 512 * x.sec := ⟨_, rfl⟩
      have eP : (x.sec : Int) * 512 = (P : Int) := by omega
      have lP : (P : Int) ≤ ((512 * S.n : Nat) : Int) := by omega
      have HCp : Hid (∀ w, Up wr w → ∀ ty, (Builtin.copy_ #[25, 25] ty #[.slice (some ⟨g, P, none⟩) (512 * S.n - P) (gc - P), .slice (some ⟨x.blk, 0, none⟩) 512 x.cap]).run Try.prog w = .ok (goInt 512) (w.setCells g P (byL x.f 512)) ∧ By (w.setCells g P (byL x.f 512)) g (512 * S.n) (syncN S.pend S.safe (k + 1)) ∧ Up W (w.setCells g P (byL x.f 512))) := fun w u ty => by
        have hB := M0.out.1.up u
        refine ⟨copy_run (k := 512) hB (by omega) ?_ (fun j hj => by rw [Addr.add_lit, Nat.zero_add]; exact (q1.up u).cell j hj) _ _ ty, ?_, Fr.up (M0.out.2.trans u) g3 (fr_setCells _ _ _ _)⟩
        · exact (Nat.min_eq_left (by omega)).symm
        · rw [syncN_succ hx2, hP]
          exact hB.setCells (512 * x.sec) 512 x.f (by omega)
      have HUw : Hid (Up W wr) := M0.out.2
      clear hx hx2 hpv M0 HWs HG HPv HS q1 hP
      go_upto_region 5 with fail
      clear k1
      refine wp_still2 19 (by kernel_rfl) (by kernel_rfl) ?_
      intro w5 hw5
      have u5 : Up wr w5 := by rw [hw5]; exact (Up.refl _).drew
      obtain ⟨k1, k2, k3⟩ := HCl.out w5 (HUw.out.trans u5)
      have H5 : Hid (Up wr w5) := u5
      clear hw5 u5 HCl
      simp only [List.take_succ_cons, List.take_zero, List.drop_succ_cons, List.drop_zero]
      repeat (go_big_quiet_step (fail))
      refine wpQuiet_nil ?_
      have H6 : Hid _ := (HCp.out w5 H5.out 0).2
      go_wp2_with (refine wpList_copy_runI _ rfl _ _ 25 25 rfl _ _ rfl rfl (HCp.out w5 H5.out _).1 ?_)
      refine ⟨⟨k + 1, by omega, by first | rfl | (simp; done), H6⟩, ?_⟩
      simp [intOf]
      omega
    · have d1 : ¬ (k : Int) < (S.pend.length : Int) := by omega
      obtain rfl : k = S.pend.length := by omega
      clear HWs HG HPv HS
      go_wp2_with fail
      go_ret
      exact ⟨g, gc, by first | rfl | (simp; done), g3, M0.out.1, g1, g2, M0.out.2⟩
end Go.Proofs.Ytekffilokdmfgaa
