/- Block: the document's Read. -/
import Derived.Test.YtekffilokdmfgaaBcD
namespace Go.Proofs.Ytekffilokdmfgaa
open Go.RowKit
set_option linter.unusedVariables false
set_option linter.unusedSimpArgs false
variable {w w' W : World} {g n m o : Nat} {f f' : Nat → Int} {K K' : Nat → Prop} {sb : Nat} {A : Rd} {S : Sto}
set_option maxRecDepth 100000 in
theorem readR_no (h : RfR K W sb A S) {x : Int} (hx : I64 x) (hno : x < 0 ∨ (S.n : Int) ≤ x) :
    Calls Try.prog 13 #[.pointer (some ⟨sb, 0, none⟩), .int .i64 x] W fun e w' => e = .returned (.tuple #[.slice none 0 0, .int .i64 1]) ∧ w' = W := by
  obtain ⟨x1, x2⟩ := hx
  have HS : Hid (Calls Try.prog 25 #[.pointer (some ⟨sb, 0, none⟩)] W fun e w' => e = .returned (.int .i64 (S.n : Int)) ∧ w' = W) := sectorsR_any h
  clear h
  by_cases d1 : x < 0
  · clear hno
    go_enter Try.func13, Try.ntmps13
    go_wp2_with fail
    go_ret2
    exact ⟨by first | rfl | (simp; done), rfl⟩
  · have d2 : (S.n : Int) ≤ x := by omega
    clear hno
    go_enter Try.func13, Try.ntmps13
    go_wp2_with fail
    refine Calls.mono HS.out ?_
    rintro e w' ⟨rfl, rfl⟩
    go_wp2_with fail
    go_ret2
    exact ⟨by first | rfl | (simp; done), rfl⟩
/-- a sector of what a write is laid over -/
theorem putF_sector (F h : Nat → Int) {s i k : Nat} (hk : k < 512) : putF F (512 * s) 512 h (512 * i + k) = if s = i then h k else F (512 * i + k) := by
  unfold putF
  by_cases e : s = i
  · subst e
    rw [if_pos ⟨by omega, by omega⟩, if_pos rfl, Nat.add_sub_cancel_left]
  · rw [if_neg (by omega), if_neg e]
set_option maxRecDepth 100000 in
set_option maxHeartbeats 2000000 in
theorem readR_any (h : RfR K W sb A S) (h8 : ∀ k, 0 ≤ S.safe k ∧ S.safe k ≤ 255) (hp : S.pend.length ≤ 1099511627776) {i : Nat} (hi : i < S.n) :
    Calls Try.prog 13 #[.pointer (some ⟨sb, 0, none⟩), .int .i64 (i : Int)] W fun e w' => ∃ g' cap', e = .returned (.tuple #[.slice (some ⟨g', 0, none⟩) 512 cap', .int .i64 0]) ∧ W.heap.size ≤ g' ∧ By w' g' 512 (fun k => syncN S.pend S.safe S.pend.length (512 * i + k)) ∧ 512 ≤ cap' ∧ cap' ≤ maxLen ∧ Up W w' := by
  have HSc : Hid (Calls Try.prog 25 #[.pointer (some ⟨sb, 0, none⟩)] W fun e w' => e = .returned (.int .i64 (S.n : Int)) ∧ w' = W) := sectorsR_any h
  have hn := h.n2
  have hpl : A.ws.length = S.pend.length := by rw [← h.tie, List.length_map]
  obtain ⟨pa, pc, hv, hp1, hp2⟩ := h.pv
  have hpc : pc ≤ 9223372036854775807 := by unfold maxLen at hp2; omega
  obtain ⟨P, hP⟩ : ∃ P : Nat, P = i * 512 := ⟨_, rfl⟩
  have eP : (i : Int) * 512 = (P : Int) := by omega
  have eQ : ((i : Int) + 1) * 512 = ((P + 512 : Nat) : Int) := by omega
  have lf : 512 * S.n ≤ A.fc := h.fc1
  have lf9 : A.fc ≤ 9223372036854775807 := by have := h.fc2; unfold maxLen at this; omega
  have hB0 : Byts W (some ⟨A.fb, P, none⟩) A.fb P 512 (A.fc - P) (fun k => S.safe (P + k)) := ⟨by omega, by have := h.fc2; omega, fun _ => rfl, fun k => h8 _, fun k hk => h.safe.cell (P + k) (by omega)⟩
  have eN : (i + 1) * 512 - i * 512 = 512 := by omega
  rw [hP] at hB0
  obtain ⟨u, w1, r1, o1, u1⟩ := want_runB (n := (i + 1) * 512 - i * 512) (w := W) (by rw [eN]; exact hB0) (fun e => by cases e) (by omega)
  rw [eN] at o1
  have HR : Hid _ := r1
  have k0 : (W.alloc (.cells #[] 5)).cell? ⟨sb, 0, none⟩ = some (.slice (some ⟨A.fb, 0, none⟩) (512 * S.n) A.fc) := (h.up ((Up.refl W).alloc _)).cell.1
  have k1 := (h.up u1).cell.2.1
  rw [hv] at k1
  have HS : Hid (∀ w, Up W w → RfR K w sb A S) := fun w u => h.up u
  obtain ⟨g, gc, rfl, g1, g2, g3, g4⟩ : ∃ g cap, u = .slice (some ⟨g, 0, none⟩) 512 cap ∧ 512 ≤ cap ∧ cap ≤ maxLen ∧ W.heap.size ≤ g ∧ By w1 g 512 (fun k => S.safe (i * 512 + k)) := by
    rcases own_cases o1 with ⟨_, e, _⟩ | ⟨g, cap, rfl, q1, q2, q3, q4⟩
    · omega
    · obtain ⟨cur, hg, hb, hc, hm, hs, ht⟩ := own_open o1
      exact ⟨g, cap, rfl, q1, q2, hb, ⟨cur, _, hg, by omega, fun k hk => by rw [own_at ht.1 k (by omega)]; exact byL_at hk⟩⟩
  have HI : Hid (By w1 g 512 (fun k => syncN S.pend S.safe 0 (512 * i + k)) ∧ Up W w1) := ⟨g4.congr fun k _ => by show S.safe (i * 512 + k) = S.safe (512 * i + k); rw [Nat.mul_comm], u1⟩
  have HWs : Hid (∀ k, k < S.pend.length → ∃ x, A.ws[k]? = some x ∧ S.pend[k]? = some x.pl) := fun k hk => by
    have hk2 : k < A.ws.length := by omega
    refine ⟨A.ws[k], List.getElem?_eq_getElem hk2, ?_⟩
    rw [← h.tie, List.getElem?_map, List.getElem?_eq_getElem hk2]
    rfl
  have HG : Hid (0 < S.pend.length → ∃ gr, pa = some ⟨gr, 0, none⟩ ∧ A.pv = .slice (some ⟨gr, 0, none⟩) A.ws.length pc) := fun hp => by
    rcases own_cases h.row with ⟨hv2, hn2, _⟩ | ⟨gr, cap, hv2, _⟩
    · omega
    · rw [hv] at hv2
      injection hv2 with e1 e2 e3
      exact ⟨gr, e1, by rw [hv, e1, hpl]⟩
  have HPv : Hid (A.pv = .slice pa S.pend.length pc) := hv
  have d1 : ¬ (i : Int) < 0 := by omega
  have d2 : ¬ (S.n : Int) ≤ (i : Int) := by omega
  clear r1 o1 u1 g4 h hv hpl hp2 hB0 eP eQ
  clear hP
  go_enter Try.func13, Try.ntmps13
  go_wp2_with fail
  refine Calls.mono HSc.out ?_
  rintro e w' ⟨rfl, rfl⟩
  clear HSc
  go_upto_block 0 with (at_builtin; refine Lib.wpList_append_run _ rfl _ _ _ _ rfl _ _ rfl rfl _ _ HR.out ?_; clear HR)
  go_wp2_with fail
  go_loopw [7] (fun I wr => ∃ k : Nat, k ≤ S.pend.length ∧ I = .int .i64 k ∧ Hid (By wr g 512 (fun j => syncN S.pend S.safe k (512 * i + j)) ∧ Up w' wr)) (fun I _ => S.pend.length - (intOf I).toNat)
  case atStart => exact ⟨0, Nat.zero_le _, rfl, HI⟩
  case round =>
    clear HI k1
    obtain ⟨k, hk, rfl, M0⟩ := hrel
    have k1 : wr.cell? ⟨sb, 1, none⟩ = some (.slice pa S.pend.length pc) := by rw [← HPv.out]; exact (HS.out wr M0.out.2).cell.2.1
    by_cases hlt : k < S.pend.length
    · have d3 : (k : Int) < (S.pend.length : Int) := by omega
      obtain ⟨x, hx, hx2⟩ := HWs.out k hlt
      obtain ⟨gr, rfl, hpv⟩ := HG.out (by omega)
      obtain ⟨k2, k3⟩ := (HS.out wr M0.out.2).wrCell hpv hx
      obtain ⟨q1, q2, q3, q4⟩ := (HS.out wr M0.out.2).wr x (List.mem_of_getElem? hx)
      have q5 : x.cap ≤ 9223372036854775807 := by unfold maxLen at q3; omega
      by_cases hs : x.sec = i
      · have e5 : ((x.sec : Int) == (i : Int)) = true := by rw [hs]; simp
        have HCp : Hid (∀ w, Up wr w → ∀ ty, (Builtin.copy_ #[25, 25] ty #[.slice (some ⟨g, 0, none⟩) 512 gc, .slice (some ⟨x.blk, 0, none⟩) 512 x.cap]).run Try.prog w = .ok (goInt 512) (w.setCells g 0 (byL x.f 512)) ∧ By (w.setCells g 0 (byL x.f 512)) g 512 (fun j => syncN S.pend S.safe (k + 1) (512 * i + j)) ∧ Up w' (w.setCells g 0 (byL x.f 512))) := fun w u ty => by
          have hB := M0.out.1.up u
          refine ⟨copy_run (k := 512) hB (by omega) rfl (fun j hj => by rw [Addr.add_lit, Nat.zero_add]; exact (q1.up u).cell j hj) _ _ ty, ?_, Fr.up (M0.out.2.trans u) g3 (fr_setCells _ _ _ _)⟩
          refine (hB.setCells 0 512 x.f (by omega)).congr fun j hj => ?_
          rw [syncN_succ hx2, show (x.pl).1 = x.sec from rfl, show (x.pl).2 = x.f from rfl, hs, putF_sector _ _ hj, if_pos rfl]
          unfold putF
          rw [if_pos ⟨Nat.zero_le _, by omega⟩, Nat.sub_zero]
        have H6 : Hid _ := (HCp.out wr (Up.refl wr) 0).2
        clear hx hx2 hpv M0 HWs HG HPv HS q1
        go_wp2_with (refine wpList_copy_runI _ rfl _ _ 25 25 rfl _ _ rfl rfl (HCp.out wr (Up.refl wr) _).1 ?_)
        refine ⟨⟨k + 1, by omega, by first | rfl | (simp; done), H6⟩, ?_⟩
        simp [intOf]
        omega
      · have e5 : ((x.sec : Int) == (i : Int)) = false := by simp; omega
        have HB : Hid (By wr g 512 (fun j => syncN S.pend S.safe (k + 1) (512 * i + j)) ∧ Up w' wr) := ⟨M0.out.1.congr fun j hj => by rw [syncN_succ hx2, show (x.pl).1 = x.sec from rfl, putF_sector _ _ hj, if_neg hs], M0.out.2⟩
        clear hx hx2 hpv M0 HWs HG HPv HS q1
        go_wp2_with fail
        refine ⟨⟨k + 1, by omega, by first | rfl | (simp; done), HB⟩, ?_⟩
        simp [intOf]
        omega
    · have d3 : ¬ (k : Int) < (S.pend.length : Int) := by omega
      obtain rfl : k = S.pend.length := by omega
      clear HWs HG HPv HS
      go_wp2_with fail
      go_ret2
      exact ⟨g, gc, by first | rfl | (simp; done), g3, M0.out.1, g1, g2, M0.out.2⟩
end Go.Proofs.Ytekffilokdmfgaa
