/- Block: Sync. -/
import Derived.Test.YtekffilokdmfgaaBkG
import Derived.Great.BuildSlice
namespace Go.Proofs.Ytekffilokdmfgaa
open Go.RowKit
set_option linter.unusedVariables false
set_option linter.unusedSimpArgs false
variable {w w' W : World} {g n m o : Nat} {f f' : Nat → Int} {K K' : Nat → Prop} {sb : Nat} {A : Ad} {S : Sto}
theorem Wr.one (x : Wr) : x.cells.toArray.all (·.oneCell') = true := by
  unfold Wr.cells
  simp [Value.oneCell']
/-- a write in the row of them -/
theorem StR.wrRange (h : StR K w sb A S) {gr cap j : Nat} {x : Wr} (hv : A.pv = .slice (some ⟨gr, 0, none⟩) A.ws.length cap) (hj : A.ws[j]? = some x) : w.rangeAt gr (j * 2) x.cells := by
  have hl := (List.getElem?_eq_some_iff.1 hj).1
  have hr := h.row
  rw [hv] at hr
  have fr : ∀ r, r < 2 → w.cell? ⟨gr, j * 2 + r, none⟩ = x.cells[r]? := fun r hr2 => by
    have := own_cell hr (j * 2 + r) (by omega)
    rw [Nat.zero_add] at this
    rw [this]
    exact wrCells_at A.ws j r x hj hr2
  exact range2 (fr 0 (by decide)) (fr 1 (by decide))
/-- what Sync makes -/
def Sto.synced (S : Sto) : Sto := { S with safe := syncN S.pend S.safe S.pend.length, pend := [] }
/-- Sync on its way: i of the writes are safe -/
structure Sy (W : World) (K : Nat → Prop) (sb : Nat) (A : Ad) (S : Sto) (i : Nat) (w : World) : Prop where
  st : StR K w sb A { S with safe := syncN S.pend S.safe i }
  fk : FK K W w
theorem Sy.up {i : Nat} (h : Sy W K sb A S i w) (u : Up w w') : Sy W K sb A S i w' := ⟨h.st.up u, h.fk.trans (FK.ofUp u)⟩
set_option maxRecDepth 100000 in
set_option maxHeartbeats 2000000 in
theorem sync_any (h : StAt K W sb S) (hp : S.pend.length ≤ 1099511627776) :
    Calls Try.prog 20 #[.pointer (some ⟨sb, 0, none⟩)] W fun e w' => e = .returned (.tuple #[]) ∧ StAt K w' sb S.synced ∧ FK K W w' := by
  obtain ⟨A, h⟩ := h
  have hn := h.n2
  have hpl : A.ws.length = S.pend.length := by rw [← h.tie, List.length_map]
  have k2 := h.cell.2.2.1
  obtain ⟨pa, pc, hv, hp1, hp2⟩ := h.pv
  have hpc : pc ≤ 9223372036854775807 := by unfold maxLen at hp2; omega
  rw [hv] at k2
  have H0 : Hid (Sy W K sb A S 0 W) := ⟨h, ⟨rfl, rfl, Nat.le_refl _, fun _ _ _ => rfl⟩⟩
  have HG : Hid (0 < S.pend.length → ∃ gr, pa = some ⟨gr, 0, none⟩ ∧ A.pv = .slice (some ⟨gr, 0, none⟩) A.ws.length pc) := fun hp => by
    rcases own_cases h.row with ⟨hv2, hn2, _⟩ | ⟨gr, cap, hv2, _⟩
    · omega
    · rw [hv] at hv2
      injection hv2 with e1 e2 e3
      exact ⟨gr, e1, by rw [hv, e1, hpl]⟩
  have HWs : Hid (∀ k, k < S.pend.length → ∃ x, A.ws[k]? = some x ∧ S.pend[k]? = some x.pl) := fun k hk => by
    have hk2 : k < A.ws.length := by omega
    refine ⟨A.ws[k], List.getElem?_eq_getElem hk2, ?_⟩
    rw [← h.tie, List.getElem?_map, List.getElem?_eq_getElem hk2]
    rfl
  have HN : Hid (∀ w, Sy W K sb A S S.pend.length w → StAt K (w.setCell ⟨sb, 2, none⟩ (.slice none 0 0)) sb S.synced ∧ FK K W (w.setCell ⟨sb, 2, none⟩ (.slice none 0 0))) := fun w hs => ⟨⟨_, hs.st.setNone.1⟩, hs.fk.trans hs.st.setNone.2⟩
  have HC : Hid (∀ i w, Sy W K sb A S i w → w.cell? ⟨sb, 1, none⟩ = some (.slice (some ⟨A.fb, 0, none⟩) (512 * S.n) A.fc) ∧ (∃ v, w.cell? ⟨sb, 2, none⟩ = some v) ∧ w.frozen? ⟨sb, 2, none⟩ = false) := fun i w hs => ⟨hs.st.cell.2.1, ⟨_, hs.st.cell.2.2.1⟩, hs.st.fz 2⟩
  have HSe : Hid (∀ (x : Wr), x ∈ A.ws → ∀ w, Calls Try.prog 37 #[.slice (some ⟨A.fb, 0, none⟩) (512 * S.n) A.fc, .int .i64 (x.sec : Int)] w fun e w' => e = .returned (.slice (some ⟨A.fb, 512 * x.sec, none⟩) 512 512) ∧ w' = w) := fun x hx w => sector_any (h.wr x hx).2.2.2 hn h.fc1 h.fc2
  have HCp : Hid (∀ i (x : Wr) w, A.ws[i]? = some x → S.pend[i]? = some x.pl → Sy W K sb A S i w → ∀ ty, (Builtin.copy_ #[25, 25] ty #[.slice (some ⟨A.fb, 512 * x.sec, none⟩) 512 512, .slice (some ⟨x.blk, 0, none⟩) 512 x.cap]).run Try.prog w = .ok (goInt 512) (w.setCells A.fb (512 * x.sec) (byL x.f 512)) ∧ Sy W K sb A S (i + 1) (w.setCells A.fb (512 * x.sec) (byL x.f 512))) := fun i x w hx hx2 hs ty => by
    have hm := List.mem_of_getElem? hx
    obtain ⟨q1, q2, q3, q4⟩ := hs.st.wr x hm
    have nw := hs.st.safe
    refine ⟨?_, ?_, ?_⟩
    · have hr := run_copy_cells (P := Try.prog) w 25 25 ty 5 A.fb (512 * x.sec) 512 512 ⟨x.blk, 0, none⟩ 512 x.cap (byL x.f 512) Try.underlying25 (by kernel_rfl) (by rw [byL_len]; rfl) (fun j v hj => ?_) (fun j hj => ?_) (fun j hj => nw.fz _) (byL_one x.f 512)
      · rw [byL_len] at hr
        exact hr
      · have hjn : j < 512 := by have := (List.getElem?_eq_some_iff.1 hj).1; rwa [byL_len] at this
        rw [byL_at hjn] at hj
        rw [Addr.add_lit, ← hj, Nat.zero_add]
        exact q1.cell j hjn
      · rw [byL_len] at hj
        rw [nw.cell (512 * x.sec + j) (by show _ < 512 * S.n; have : x.sec < S.n := q4; omega)]
        rfl
    · have q4' : x.sec < S.n := q4
      have := hs.st.setSafe (fr_setCells A.fb (byL x.f 512) (512 * x.sec) w) (nw.setCells (512 * x.sec) 512 x.f (by show _ ≤ 512 * S.n; omega))
      rw [syncN_succ hx2]
      exact this.1
    · have q4' : x.sec < S.n := q4
      exact hs.fk.trans (hs.st.setSafe (fr_setCells A.fb (byL x.f 512) (512 * x.sec) w) (nw.setCells (512 * x.sec) 512 x.f (by show _ ≤ 512 * S.n; omega))).2
  have HMem : Hid (∀ k (x : Wr), A.ws[k]? = some x → x ∈ A.ws) := fun k x hx => List.mem_of_getElem? hx
  have HR : Hid (∀ i w gr k (x : Wr), Sy W K sb A S i w → A.pv = .slice (some ⟨gr, 0, none⟩) A.ws.length pc → A.ws[k]? = some x → w.rangeAt gr (k * 2) x.cells) := fun i w gr k x hs e hx => hs.st.wrRange e hx
  clear h hv hpl hp2 hn
  have hpend := hp
  clear hp
  have HS2 : Hid (S.synced = S.synced) := rfl
  go_enter Try.func20, Try.ntmps20
  go_wp2_with fail
  go_loopw [3, 9] (fun _ I wr => ∃ k : Nat, k ≤ S.pend.length ∧ I = .int .i64 k ∧ Hid (Sy W K sb A S k wr)) (fun _ I _ => S.pend.length - (intOf I).toNat)
  case atStart => exact ⟨0, Nat.zero_le _, rfl, H0⟩
  case round =>
    clear H0 k2
    obtain ⟨k, hk, rfl, M0⟩ := hrel
    by_cases hlt : k < S.pend.length
    · have d1 : (k : Int) < (S.pend.length : Int) := by omega
      obtain ⟨x, hx, hx2⟩ := HWs.out k hlt
      obtain ⟨gr, rfl, hpv⟩ := HG.out (by omega)
      have HRk : Hid _ := HR.out k wr gr k x M0.out hpv hx
      have HSx : Hid _ := HSe.out x (HMem.out k x hx)
      have HX : Hid (∀ w, Sy W K sb A S k w → ∀ ty, _) := fun w hs => HCp.out k x w hx hx2 hs
      have HA2 : Hid (∀ o, (wr.alloc o).heap[wr.heap.size]? = some o) := fun o => heap_alloc_new wr o
      have HU : Hid (∀ w old, (wr.alloc (Obj.cells old 73)).setRow wr.heap.size x.cells.toArray = w → Sy W K sb A S k w ∧ w.heap[wr.heap.size]? = some (.cells x.cells.toArray 73 (0, 0))) := by
        rintro w old rfl
        exact ⟨M0.out.up (((Up.refl wr).alloc _).setRow (Nat.le_refl _) _), setRow_heap _ _ _ _ _ _ (heap_alloc_new wr _)⟩
      clear hx hx2 hpv HWs HG HCp HSe HMem HR HN M0
      go_wp2_with (first
        | (refine wpList_load_mid rfl 73 _ rfl gr (k * 2) rfl x.cells _ HRk.out Try.underlying73 rfl (by kernel_rfl) ?_)
        | (refine wpList_store_rowTo rfl 73 _ _ rfl rfl wr.heap.size x.cells.toArray rfl rfl 73 _ (HA2.out _) (by kernel_rfl) rfl x.one ?_
           generalize hW3 : World.setRow _ _ _ = w3
           obtain ⟨hU, hA⟩ := HU.out _ _ hW3
           have H3 : Hid (Sy W K sb A S k w3) := hU
           have HR3 : Hid (w3.heap[wr.heap.size]? = some (.cells x.cells.toArray 73 (0, 0))) := hA
           clear hW3 hU hA))
      generalize wr.heap.size = xb at HR3 ⊢
      have HQ : Hid (∀ w1, Up w3 w1 → w1.cell? ⟨sb, 1, none⟩ = some (.slice (some ⟨A.fb, 0, none⟩) (512 * S.n) A.fc) ∧ w1.cell? ⟨xb, 0, none⟩ = some (.int .i64 (x.sec : Int)) ∧ w1.cell? ⟨xb, 1, none⟩ = some (.slice (some ⟨x.blk, 0, none⟩) 512 x.cap)) := fun w1 u => by
        have hb := (u.block xb (heap_at HR3.out)).trans HR3.out
        exact ⟨(HC.out k w1 (H3.out.up u)).1, heap_cell hb rfl, heap_cell hb rfl⟩
      clear HR3 HRk HA2 HU
      refine wp_still2 9 (by kernel_rfl) (by kernel_rfl) ?_
      intro w1 hw1
      have u1 : Up w3 w1 := by rw [hw1]; exact (Up.refl _).drew
      obtain ⟨k1, k2, k3⟩ := HQ.out w1 u1
      have H4 : Hid (Sy W K sb A S k w1) := H3.out.up u1
      clear hw1 u1 H3 HQ
      simp only [List.take_succ_cons, List.take_zero, List.drop_succ_cons, List.drop_zero]
      repeat (go_big_quiet_step (fail))
      go_big_quiet_want
      go_big_quiet_op
      refine ⟨_, HSx.out _, ?_⟩
      go_big_quiet_on
      repeat (go_big_quiet_step (fail))
      refine wpQuiet_nil ?_
      have H5 : Hid (Sy W K sb A S (k + 1) (w1.setCells A.fb (512 * x.sec) (byL x.f 512))) := (HX.out w1 H4.out 0).2
      go_wp2_with (refine wpList_copy_runI _ rfl _ _ 25 25 rfl _ _ rfl rfl (HX.out w1 H4.out _).1 ?_)
      refine ⟨⟨k + 1, by omega, by first | rfl | (simp; done), H5⟩, ?_⟩
      simp [intOf]
      omega
    · have d1 : ¬ (k : Int) < (S.pend.length : Int) := by omega
      obtain rfl : k = S.pend.length := by omega
      obtain ⟨k1, ⟨v2, k2⟩, z2⟩ := HC.out _ wr M0.out
      have HE : Hid _ := HN.out wr M0.out
      clear HWs HG HCp HSe HMem HR HN M0 HC
      go_wp2_with fail
      go_end0
      exact ⟨rfl, HE.out⟩
end Go.Proofs.Ytekffilokdmfgaa
