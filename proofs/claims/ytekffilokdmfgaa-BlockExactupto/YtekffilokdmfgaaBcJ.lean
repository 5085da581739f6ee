/- Block: the document's Crash. -/
import Derived.Test.YtekffilokdmfgaaBcI
import Derived.Deep.DeepCutAuto
import Derived.Deep.CutBlock
namespace Go.Proofs.Ytekffilokdmfgaa
open Go.RowKit
set_option linter.unusedVariables false
set_option linter.unusedSimpArgs false
variable {w w' W : World} {g n m o : Nat} {f f' : Nat → Int} {K K' : Nat → Prop} {sb : Nat} {A : Rd} {S : Sto}
theorem RfR.wrRange (h : RfR K w sb A S) {gr cap j : Nat} {x : Wr} (hv : A.pv = .slice (some ⟨gr, 0, none⟩) A.ws.length cap) (hj : A.ws[j]? = some x) : w.rangeAt gr (j * 2) x.cells := by
  have hl := (List.getElem?_eq_some_iff.1 hj).1
  have hr := h.row
  rw [hv] at hr
  have fr : ∀ r, r < 2 → w.cell? ⟨gr, j * 2 + r, none⟩ = x.cells[r]? := fun r hr2 => by
    have := own_cell hr (j * 2 + r) (by omega)
    rw [Nat.zero_add] at this
    rw [this]
    exact wrCells_at A.ws j r x hj hr2
  exact range2 (fr 0 (by decide)) (fr 1 (by decide))
/-- a torn write on its way: the first b of the sector's bytes have been looked at -/
def partN (F : Nat → Int) (s o L : Nat) (h : Nat → Int) (b : Nat) : Nat → Int := putF F (s + o) (min L (b - o)) (fun j => h (o + j))
theorem part_0 (F : Nat → Int) (s o L : Nat) (h : Nat → Int) (k : Nat) : F k = partN F s o L h 0 k := by
  unfold partN putF
  rw [if_neg (by omega)]
theorem part_in {F : Nat → Int} {s o L : Nat} {h : Nat → Int} {b : Nat} (h1 : o ≤ b) (h2 : b < o + L) (k : Nat) : putF (partN F s o L h b) (s + b) 1 (fun _ => h b) k = partN F s o L h (b + 1) k := by
  unfold partN
  by_cases e : k = s + b
  · subst e
    rw [putF_in _ _ (by omega) (by omega), putF_in _ _ (by omega) (by omega)]
    show h b = h (o + (s + b - (s + o)))
    congr 1
    omega
  · rw [putF_out _ _ (by omega)]
    by_cases e2 : s + o ≤ k ∧ k < s + b
    · rw [putF_in _ _ (by omega) (by omega), putF_in _ _ (by omega) (by omega)]
    · rw [putF_out _ _ (by omega), putF_out _ _ (by omega)]
theorem part_out {F : Nat → Int} {s o L : Nat} {h : Nat → Int} {b : Nat} (h1 : ¬ (o ≤ b ∧ b < o + L)) : partN F s o L h b = partN F s o L h (b + 1) := by
  unfold partN
  have : min L (b - o) = min L (b + 1 - o) := by omega
  rw [this]
theorem part_end {F : Nat → Int} {s o L : Nat} {h : Nat → Int} (h1 : o + L ≤ 512) : partN F s o L h 512 = putF F (s + o) L (fun j => h (o + j)) := by
  unfold partN
  have : min L (512 - o) = L := by omega
  rw [this]
/-- a torn write on its way, in memory -/
structure Tn (W : World) (g N : Nat) (Fb : Nat → Int) (xb : Nat) (x : Wr) (w : World) : Prop where
  by' : By w g N Fb
  up : Up W w
  row : w.heap[xb]? = some (.cells x.cells.toArray 70 (0, 0))
  src : By w x.blk 512 x.f
theorem Tn.upT {N xb : Nat} {x : Wr} {Fb : Nat → Int} (h : Tn W g N Fb xb x w) (u : Up w w') : Tn W g N Fb xb x w' :=
  ⟨h.by'.up u, h.up.trans u, (u.block xb (heap_at h.row)).trans h.row, h.src.up u⟩
theorem Tn.set {N xb i : Nat} {x : Wr} {Fb : Nat → Int} (h : Tn W g N Fb xb x w) (hg : W.heap.size ≤ g) (h1 : xb ≠ g) (h2 : x.blk ≠ g) (hi : i < N) (v : Int) : Tn W g N (putF Fb i 1 (fun _ => v)) xb x (w.setCell ⟨g, i, none⟩ (.int .u8 v)) := by
  have fr : Fr g w (w.setCell ⟨g, i, none⟩ (.int .u8 v)) := (Fr.refl g w).setCell
  exact ⟨h.by'.set i hi v, Fr.up h.up hg fr, (fr.block xb (heap_at h.row) (by omega)).trans h.row, h.src.of_block (fr.block x.blk h.src.lt (by omega))⟩
set_option maxRecDepth 100000 in
set_option maxHeartbeats 2000000 in
theorem crashR_any (h : RfR K W sb A S) (h8 : ∀ k, 0 ≤ S.safe k ∧ S.safe k ≤ 255) (hp : S.pend.length ≤ 1099511627776) {aa : Option Addr} {ab ao pl cc : Nat} {hh : Nat → Int} (D : Ints W aa ab ao pl cc hh) :
    Calls Try.prog 31 #[.pointer (some ⟨sb, 0, none⟩), .slice aa pl cc] W (Cop W (512 * S.n) (crashN (pkN pl hh) S.pend S.safe S.pend.length)) := by
  have hn1 := h.n1
  have hn := h.n2
  have hpl : A.ws.length = S.pend.length := by rw [← h.tie, List.length_map]
  obtain ⟨pa, pc, hv, hp1, hp2⟩ := h.pv
  have hpc : pc ≤ 9223372036854775807 := by unfold maxLen at hp2; omega
  obtain ⟨u, w1, r1, o1, u1⟩ := want_runB (h.safe.byts h.fc1 h.fc2 h8) (fun e => by cases e) (by omega)
  have HR : Hid _ := r1
  have k0 : (W.alloc (.cells #[] 5)).cell? ⟨sb, 0, none⟩ = some (.slice (some ⟨A.fb, 0, none⟩) (512 * S.n) A.fc) := (h.up ((Up.refl W).alloc _)).cell.1
  have k1 := (h.up u1).cell.2.1
  rw [hv] at k1
  have HS : Hid (∀ w, Up W w → RfR K w sb A S) := fun w u => h.up u
  obtain ⟨g, gc, rfl, g1, g2, g3, g4⟩ : ∃ g cap, u = .slice (some ⟨g, 0, none⟩) (512 * S.n) cap ∧ 512 * S.n ≤ cap ∧ cap ≤ maxLen ∧ W.heap.size ≤ g ∧ By w1 g (512 * S.n) S.safe := by
    rcases own_cases o1 with ⟨_, e, _⟩ | ⟨g, cap, rfl, q1, q2, q3, q4⟩
    · omega
    · obtain ⟨cur, hg, hb, hc, hm, hs, ht⟩ := own_open o1
      exact ⟨g, cap, rfl, q1, q2, hb, ⟨cur, _, hg, by omega, fun k hk => by rw [own_at ht.1 k (by omega)]; exact byL_at hk⟩⟩
  have HI : Hid (By w1 g (512 * S.n) (crashN (pkN pl hh) S.pend S.safe 0) ∧ Up W w1) := ⟨g4, u1⟩
  clear r1 o1 u1 g4
  go_enter Try.func31, Try.ntmps31
  go_upto_block 0 with (at_builtin; refine Lib.wpList_append_run _ rfl _ _ _ _ rfl _ _ rfl rfl _ _ HR.out ?_; clear HR)
  go_wp2_with fail
  have HWs : Hid (∀ k, k < S.pend.length → ∃ x, A.ws[k]? = some x ∧ S.pend[k]? = some x.pl) := fun k hk => by
    have hk2 : k < A.ws.length := by omega
    refine ⟨A.ws[k], List.getElem?_eq_getElem hk2, ?_⟩
    rw [← h.tie, List.getElem?_map, List.getElem?_eq_getElem hk2]
    rfl
  have HG : Hid (0 < S.pend.length → ∃ gr, pa = some ⟨gr, 0, none⟩ ∧ A.pv = .slice (some ⟨gr, 0, none⟩) A.ws.length pc) := fun hp => by
    rcases own_cases h.row with ⟨hv2, hn2, _⟩ | ⟨gr, cap, hv2, _⟩
    · omega
    · rw [hv] at hv2
      injection hv2 with e1 e2 e3
      exact ⟨gr, e1, by rw [hv, e1, hpl]⟩
  have HPv : Hid (A.pv = .slice pa S.pend.length pc) := hv
  have HD : Hid (∀ k, k < pl → ∀ w, Up W w → ∃ ad, aa = some ad ∧ w.cell? (ad.add k) = some (.int .i64 (hh k)) ∧ I64 (hh k)) := fun k hk w u => by
    have e := D.ad (by omega)
    exact ⟨_, e, by rw [Addr.add_lit]; exact (D.upI u).cell k hk, D.i64 k⟩
  have HPl : Hid (pl ≤ cc ∧ cc ≤ maxLen) := ⟨D.lc, D.cm⟩
  have HPk : Hid (∀ k, I64 (hh k)) := D.i64
  have hcc : cc ≤ 9223372036854775807 := by have := D.cm; unfold maxLen at this; omega
  have hplc := D.lc
  clear h hv hpl hp2 k0 k1 D
  go_loopw [6] (fun I wr => ∃ k : Nat, k ≤ S.pend.length ∧ I = .int .i64 k ∧ Hid (By wr g (512 * S.n) (crashN (pkN pl hh) S.pend S.safe k) ∧ Up W wr)) (fun I _ => S.pend.length - (intOf I).toNat)
  case atStart => exact ⟨0, Nat.zero_le _, rfl, HI⟩
  case round =>
    clear HI
    obtain ⟨k, hk, rfl, M0⟩ := hrel
    have k1 : wr.cell? ⟨sb, 1, none⟩ = some (.slice pa S.pend.length pc) := by rw [← HPv.out]; exact (HS.out wr M0.out.2).cell.2.1
    by_cases hlt : k < S.pend.length
    · have d1 : (k : Int) < (S.pend.length : Int) := by omega
      have ke : (k : Int) ≤ 1099511627776 := by have := hk; omega
      obtain ⟨x, hx, hx2⟩ := HWs.out k hlt
      obtain ⟨gr, rfl, hpv⟩ := HG.out (by omega)
      go_upto_if 30 with fail
      go_cut [7] (fun P wx => wx = wr ∧ P = .int .i64 (if k < pl then hh k else 0))
      case first =>
        by_cases hkp : k < pl
        · obtain ⟨ad, rfl, kc, hI1, hI2⟩ := HD.out k hkp wr M0.out.2
          have d2 : (k : Int) < (pl : Int) := by omega
          clear HD HPk
          go_wp2_with fail
          go_meet
          exact ⟨rfl, by rw [if_pos hkp]⟩
        · have d2 : ¬ (k : Int) < (pl : Int) := by omega
          clear HD HPk
          go_wp2_with fail
          go_meet
          exact ⟨rfl, by rw [if_neg hkp]⟩
      case rest =>
      obtain ⟨hwc, rfl⟩ := hcut
      obtain rfl := hwc.symm
      have hz : I64 (if k < pl then hh k else 0) := by
        split
        · exact HPk.out k
        · unfold I64; omega
      have hpk : pkN pl hh k = (if (if k < pl then hh k else 0) < 0 then -((if k < pl then hh k else 0) + 1) else (if k < pl then hh k else 0)) := by
        unfold pkN
        by_cases e : k < pl
        · rw [if_pos e, if_pos e]
        · rw [if_neg e, if_neg e]; rfl
      obtain ⟨z, hzz⟩ : ∃ z, z = (if k < pl then hh k else 0) := ⟨_, rfl⟩
      rw [← hzz] at hpk hz ⊢
      clear hzz
      obtain ⟨hz1, hz2⟩ := hz
      go_upto_if 36 with fail
      go_cut [7] (fun P wx => wx = wr ∧ P = .int .i64 (pkN pl hh k))
      case first =>
        by_cases hneg : z < 0
        · clear HD HPk
          go_wp2_with fail
          go_meet
          exact ⟨rfl, by rw [hpk, if_pos hneg]⟩
        · clear HD HPk
          go_wp2_with fail
          go_meet
          exact ⟨rfl, by rw [hpk, if_neg (by omega)]⟩
      case rest =>
      obtain ⟨hwc, rfl⟩ := hcut
      obtain rfl := hwc.symm
      have HU0 : Hid (Up W wr) := M0.out.2
      have HB0 : Hid (By wr g (512 * S.n) (crashN (pkN pl hh) S.pend S.safe k)) := M0.out.1
      have HRk : Hid _ := (HS.out wr M0.out.2).wrRange hpv hx
      obtain ⟨q1, q2, q3, q4⟩ := (HS.out wr M0.out.2).wr x (List.mem_of_getElem? hx)
      have q5 : x.cap ≤ 9223372036854775807 := by unfold maxLen at q3; omega
      have HX : Hid (By wr x.blk 512 x.f) := q1
      have HXl : Hid (x.blk < W.heap.size) := ((HS.out W (Up.refl W)).wr x (List.mem_of_getElem? hx)).1.lt
      have HE : Hid (crashN (pkN pl hh) S.pend S.safe (k + 1) = tear (crashN (pkN pl hh) S.pend S.safe k) x.pl (pkN pl hh k)) := crashN_succ hx2 _
      have p1 : 0 ≤ pkN pl hh k := pkN_lo
      have p2 : pkN pl hh k ≤ 9223372036854775807 := pkN_hi HPk.out
      unfold tear at HE
      obtain ⟨F, hF⟩ : ∃ F, F = spFrom (pkN pl hh k) := ⟨_, rfl⟩
      obtain ⟨L, hL⟩ : ∃ L, L = spLen (pkN pl hh k) := ⟨_, rfl⟩
      have hFL : F + L ≤ 512 := by rw [hF, hL]; exact sp_le _
      rw [← hF, ← hL] at HE
      obtain ⟨N1, hN1⟩ : ∃ N, N = crashN (pkN pl hh) S.pend S.safe (k + 1) := ⟨_, rfl⟩
      rw [← hN1] at HE
      have HN1 : Hid (N1 = crashN (pkN pl hh) S.pend S.safe (k + 1)) := hN1
      clear hN1
      generalize crashN (pkN pl hh) S.pend S.safe k = N0 at HE HB0
      have hcase : ∃ t : Bool, ((pkN pl hh k / 513 % 2) == 1) = t ∧ F = (if t then 512 - L else 0) := by
        unfold spFrom at hF
        unfold spLen at hL
        by_cases ev : pkN pl hh k / 513 % 2 = 0
        · exact ⟨false, by rw [ev]; rfl, by simpa [ev] using hF⟩
        · have e1 : pkN pl hh k / 513 % 2 = 1 := by omega
          refine ⟨true, by rw [e1]; rfl, ?_⟩
          rw [if_neg ev, ← hL] at hF
          simpa using hF
      obtain ⟨t, b1, hFt⟩ := hcase
      have em : (pkN pl hh k).tmod 513 = (L : Int) := by rw [Int.tmod_eq_emod_of_nonneg p1, hL]; unfold spLen; omega
      have ed : (pkN pl hh k).tdiv 513 = pkN pl hh k / 513 := Int.tdiv_eq_ediv_of_nonneg p1
      have e2 : (pkN pl hh k / 513).tmod 2 = pkN pl hh k / 513 % 2 := Int.tmod_eq_emod_of_nonneg (by omega)
      have HA2 : Hid (∀ o, (wr.alloc o).heap[wr.heap.size]? = some o) := fun o => heap_alloc_new wr o
      have HU : Hid (∀ w old, (wr.alloc (Obj.cells old 70)).setRow wr.heap.size x.cells.toArray = w → Up wr w ∧ w.heap[wr.heap.size]? = some (.cells x.cells.toArray 70 (0, 0))) := by
        rintro w old rfl
        exact ⟨((Up.refl wr).alloc _).setRow (Nat.le_refl _) _, setRow_heap _ _ _ _ _ _ (heap_alloc_new wr _)⟩
      clear hx hx2 hpv HWs HG HPv HS HD HPk HPl M0 hF hL q1 hpk
      generalize pkN pl hh k = pp at *
      have HQ : Hid (∀ w1, Up wr w1 → w1.heap[wr.heap.size]? = some (.cells x.cells.toArray 70 (0, 0)) → w1.cell? ⟨wr.heap.size, 0, none⟩ = some (.int .i64 (x.sec : Int)) ∧ w1.cell? ⟨wr.heap.size, 1, none⟩ = some (.slice (some ⟨x.blk, 0, none⟩) 512 x.cap)) := fun w1 u hb => ⟨heap_cell hb rfl, heap_cell hb rfl⟩
      go_wp2_with (first
        | (refine wpList_load_mid rfl 70 _ rfl gr (k * 2) rfl x.cells _ HRk.out Try.underlying70 rfl (by kernel_rfl) ?_)
        | (refine wpList_store_rowTo rfl 70 _ _ rfl rfl wr.heap.size x.cells.toArray rfl rfl 70 _ (HA2.out _) (by kernel_rfl) rfl x.one ?_
           generalize hW3 : World.setRow _ _ _ = w3
           obtain ⟨hU, hA⟩ := HU.out _ _ hW3
           have H3 : Hid (Up wr w3) := hU
           have HR3 : Hid (w3.heap[wr.heap.size]? = some (.cells x.cells.toArray 70 (0, 0))) := hA
           clear hW3 hU hA))
      have hgl : g < wr.heap.size := HB0.out.lt
      generalize hxb : wr.heap.size = xb at HR3 HQ hgl ⊢
      have HT0 : Hid (Tn W g (512 * S.n) (partN N0 (512 * x.sec) F L x.f 0) xb x w3) := ⟨(HB0.out.up H3.out).congr (fun k _ => part_0 _ _ _ _ _ k), HU0.out.trans H3.out, HR3.out, HX.out.up H3.out⟩
      obtain ⟨P, hP⟩ : ∃ P : Nat, P = 512 * x.sec := ⟨_, rfl⟩
      have eP : (x.sec : Int) * 512 = (P : Int) := by omega
      have lP : (P : Int) + 512 ≤ ((512 * S.n : Nat) : Int) := by omega
      have HEN : Hid (N1 = putF N0 (P + F) L (fun j => x.f (F + j))) := by rw [hP]; exact HE.out
      rw [← hP] at HT0
      have HGn : Hid (W.heap.size ≤ g ∧ xb ≠ g ∧ x.blk ≠ g) := ⟨g3, by omega, by have := HXl.out; omega⟩
      clear HRk HA2 HU HQ HB0 HU0 HE HX HXl H3 HR3 hP hxb hgl em ed e2 b1 p1 p2
      go_loopw [11] (fun I wi => ∃ b : Nat, b ≤ 512 ∧ I = .int .i64 b ∧ Hid (Tn W g (512 * S.n) (partN N0 P F L x.f b) xb x wi)) (fun I _ => 512 - (intOf I).toNat)
      case atStart => exact ⟨0, Nat.zero_le _, rfl, HT0⟩
      case round =>
        clear HT0
        obtain ⟨b, hb, rfl, HT⟩ := hrel
        by_cases hlb : b < 512
        · have c0 : (b : Int) < 512 := by omega
          have hno : ¬ (F ≤ b ∧ b < F + L) → Hid (Tn W g (512 * S.n) (partN N0 P F L x.f (b + 1)) xb x wr) := fun h => by rw [← part_out h]; exact HT
          obtain ⟨Q, hQ⟩ : ∃ Q : Nat, Q = P + b := ⟨_, rfl⟩
          have eQ : (P : Int) + (b : Int) = (Q : Int) := by omega
          have lQ : (Q : Int) < ((512 * S.n : Nat) : Int) := by omega
          have HSt : Hid (∀ w5, Up wr w5 → w5.cell? ⟨xb, 0, none⟩ = some (.int .i64 (x.sec : Int)) ∧ w5.cell? ⟨xb, 1, none⟩ = some (.slice (some ⟨x.blk, 0, none⟩) 512 x.cap) ∧ w5.cell? ⟨x.blk, b, none⟩ = some (.int .u8 (x.f b)) ∧ (∃ v, w5.cell? ⟨g, Q, none⟩ = some v) ∧ w5.frozen? ⟨g, Q, none⟩ = false ∧ (F ≤ b ∧ b < F + L → Tn W g (512 * S.n) (partN N0 P F L x.f (b + 1)) xb x (w5.setCell ⟨g, Q, none⟩ (.int .u8 (x.f b))))) := fun w5 u => by
            have h5 := HT.out.upT u
            refine ⟨heap_cell h5.row rfl, heap_cell h5.row rfl, h5.src.cell b hlb, ⟨_, h5.by'.cell Q (by omega)⟩, h5.by'.fz Q, fun h => ?_⟩
            have h6 := h5.set (i := Q) HGn.out.1 HGn.out.2.1 HGn.out.2.2 (by omega) (x.f b)
            rw [hQ] at h6 ⊢
            exact ⟨h6.by'.congr (fun k _ => part_in h.1 h.2 k), h6.up, h6.row, h6.src⟩
          clear hQ
          cases t with
          | false =>
            simp only [Bool.false_eq_true, if_false] at hFt
            by_cases hin : b < L
            · have c1 : (b : Int) < (L : Int) := by omega
              go_upto_region 17 with fail
              refine wp_still2 12 (by kernel_rfl) (by kernel_rfl) ?_
              intro w5 hw5
              have u5 : Up wr w5 := by rw [hw5]; exact (Up.refl _).drew
              obtain ⟨k1, k2, k3, ⟨v4, k4⟩, k5, h6⟩ := HSt.out w5 u5
              have H6 : Hid _ := h6 (by omega)
              clear hw5 u5 h6 HSt hno HT
              simp only [List.take_succ_cons, List.take_zero, List.drop_succ_cons, List.drop_zero]
              repeat (go_big_quiet_step (fail))
              refine wpQuiet_nil ?_
              go_wp2_with fail
              refine ⟨⟨b + 1, by omega, by first | rfl | (simp; done), H6⟩, ?_⟩
              simp [intOf]
              omega
            · have c1 : ¬ (b : Int) < (L : Int) := by omega
              have HN := hno (by omega)
              clear HSt hno HT
              go_wp2_with fail
              refine ⟨⟨b + 1, by omega, by first | rfl | (simp; done), HN⟩, ?_⟩
              simp [intOf]
              omega
          | true =>
            simp only [if_true] at hFt
            by_cases hin : 512 - L ≤ b
            · have c1 : (512 : Int) - (L : Int) ≤ (b : Int) := by omega
              go_upto_region 17 with fail
              refine wp_still2 12 (by kernel_rfl) (by kernel_rfl) ?_
              intro w5 hw5
              have u5 : Up wr w5 := by rw [hw5]; exact (Up.refl _).drew
              obtain ⟨k1, k2, k3, ⟨v4, k4⟩, k5, h6⟩ := HSt.out w5 u5
              have H6 : Hid _ := h6 (by omega)
              clear hw5 u5 h6 HSt hno HT
              simp only [List.take_succ_cons, List.take_zero, List.drop_succ_cons, List.drop_zero]
              repeat (go_big_quiet_step (fail))
              refine wpQuiet_nil ?_
              go_wp2_with fail
              refine ⟨⟨b + 1, by omega, by first | rfl | (simp; done), H6⟩, ?_⟩
              simp [intOf]
              omega
            · have c1 : ¬ (512 : Int) - (L : Int) ≤ (b : Int) := by omega
              have HN := hno (by omega)
              clear HSt hno HT
              go_wp2_with fail
              refine ⟨⟨b + 1, by omega, by first | rfl | (simp; done), HN⟩, ?_⟩
              simp [intOf]
              omega
        · have c0 : ¬ (b : Int) < 512 := by omega
          obtain rfl : b = 512 := by omega
          have HF : Hid (By wr g (512 * S.n) (crashN (pkN pl hh) S.pend S.safe (k + 1)) ∧ Up W wr) := ⟨by rw [← HN1.out, HEN.out, ← part_end hFL]; exact HT.out.by', HT.out.up⟩
          clear HT
          go_wp2_with fail
          refine ⟨⟨k + 1, by omega, by first | rfl | (simp; done), HF⟩, ?_⟩
          simp [intOf]
          omega
    · have d1 : ¬ (k : Int) < (S.pend.length : Int) := by omega
      obtain rfl : k = S.pend.length := by omega
      clear HWs HG HPv HS
      go_wp2_with fail
      go_ret
      exact ⟨g, gc, by first | rfl | (simp; done), g3, M0.out.1, g1, g2, M0.out.2⟩
end Go.Proofs.Ytekffilokdmfgaa
