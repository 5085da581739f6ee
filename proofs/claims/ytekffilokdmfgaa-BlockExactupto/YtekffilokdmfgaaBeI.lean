/- Block: what Read, Image and Crash of the program tell owns its room. -/
import Derived.Test.YtekffilokdmfgaaBeG
namespace Go.Proofs.Ytekffilokdmfgaa
open Go.RowKit
set_option linter.unusedVariables false
set_option linter.unusedSimpArgs false
variable {w w' W : World} {g n m o : Nat} {f f' : Nat → Int} {K K' : Nat → Prop} {sb : Nat} {A : Ad} {S : Sto}
/-- bytes in a block of a known size -/
structure Bz (c : Nat) (w : World) (g n : Nat) (f : Nat → Int) : Prop where
  row : ∃ cs, w.heap[g]? = some (.cells cs 5 (0, 0)) ∧ cs.size = c ∧ n ≤ c ∧ ∀ k, k < n → cs[k]? = some (.int .u8 (f k))
theorem Bz.by' {c : Nat} (h : Bz c w g n f) : By w g n f := by
  obtain ⟨cs, h1, h2, h3, h4⟩ := h.row
  exact ⟨cs, _, h1, by omega, h4⟩
theorem Bz.lt {c : Nat} (h : Bz c w g n f) : g < w.heap.size := h.by'.lt
theorem Bz.cell {c : Nat} (h : Bz c w g n f) (k : Nat) (hk : k < n) : w.cell? ⟨g, k, none⟩ = some (.int .u8 (f k)) := h.by'.cell k hk
theorem Bz.fz {c : Nat} (h : Bz c w g n f) (k : Nat) : w.frozen? ⟨g, k, none⟩ = false := h.by'.fz k
theorem Bz.of_block {c : Nat} (h : Bz c w g n f) (e : w'.heap[g]? = w.heap[g]?) : Bz c w' g n f := by
  obtain ⟨cs, h1, h2⟩ := h.row
  exact ⟨cs, e.trans h1, h2⟩
theorem Bz.up {c : Nat} (h : Bz c w g n f) (u : Up w w') : Bz c w' g n f := h.of_block (u.block g h.lt)
theorem Bz.congr {c : Nat} (h : Bz c w g n f) (e : ∀ k, k < n → f k = f' k) : Bz c w g n f' := by
  obtain ⟨cs, h1, h2, h3, h4⟩ := h.row
  exact ⟨cs, h1, h2, h3, fun k hk => by rw [h4 k hk, e k hk]⟩
theorem Bz.setCells {c : Nat} (h : Bz c w g n f) (o m : Nat) (h' : Nat → Int) (hm : o + m ≤ n) : Bz c (w.setCells g o (byL h' m)) g n (putF f o m h') := by
  obtain ⟨cs, h1, h2, h3, h4⟩ := h.row
  have hl := byL_len h' m
  refine ⟨_, heap_setCells_same g _ _ o cs w h1, by rw [putL_size]; exact h2, h3, fun k hk => ?_⟩
  rw [putL_at _ _ _ _ (by rw [hl]; omega), hl]
  unfold putF
  by_cases e : o ≤ k ∧ k < o + m
  · rw [if_pos e, if_pos e, byL_at (by omega)]
  · rw [if_neg e, if_neg e]
    exact h4 k hk
theorem Bz.own {c base : Nat} (h : Bz c w g n f) (hb : base ≤ g) (hc : n ≤ c) (hm : c ≤ maxLen) : w.ownsRow base 5 1 (.slice (some ⟨g, 0, none⟩) n c) n (byL f n) := by
  obtain ⟨cs, h1, h2, h3, h4⟩ := h.row
  exact own_of h1 hb hc hm (by omega) (by rw [byL_len, Nat.mul_one]) (fun k hk => by rw [h4 k (by omega), byL_at (by omega)])
/-- what a copy gives -/
def CopZ (W : World) (n : Nat) (f : Nat → Int) (e : Ending) (w' : World) : Prop := ∃ g' cap', e = .returned (.slice (some ⟨g', 0, none⟩) n cap') ∧ W.heap.size ≤ g' ∧ Bz cap' w' g' n f ∧ n ≤ cap' ∧ cap' ≤ maxLen ∧ Up W w'
theorem copZ_of {e : Ending} {base : Nat} {v' : Value} (hb : base = W.heap.size) (h1 : e = .returned v') (h2 : w'.ownsRow base 5 1 v' n (byL f n)) (h3 : v' ≠ .slice none 0 0) (h4 : Below W.heap.size W w') : CopZ W n f e w' := by
  rcases h2.2 with ⟨hv, _⟩ | ⟨g', cap', cur, hv, hbase, hg, hn', hcm, hcs, htk⟩
  · exact absurd hv h3
  · refine ⟨g', cap', by rw [h1, hv], by omega, ⟨cur, hg, by omega, hn', fun k hk => ?_⟩, hn', hcm, Up.ofBelow h4⟩
    rw [own_at htk k (by omega)]
    exact byL_at hk
theorem cloneBZ {cap : Nat} (hn : n ≤ 4194304) (hc : ∀ k, k < n → W.cell? ⟨g, o + k, none⟩ = some (.int .u8 (f k))) :
    Calls Try.prog 36 #[.slice (some ⟨g, o, none⟩) n cap] W (CopZ W n f) := by
  refine (Go.Proofs.AnyE.slices_Clone cloB Try.t5 (.int .u8 0) 1 1 (by kernel_rfl) (by kernel_rfl) (by kernel_rfl) (by kernel_rfl) rfl (by decide) Try.sizeOf5 g o n cap (byL f n) W (by rw [byL_len, Nat.mul_one]) (by unfold maxLen; omega) (by omega) (fun j u hj => ?_) (byL_one f n)).mono ?_
  · have hjn : j < n := by have := (List.getElem?_eq_some_iff.1 hj).1; rwa [byL_len] at this
    rw [byL_at hjn] at hj
    rw [← hj]
    exact hc j hjn
  · rintro e w' ⟨v', h1, h2, h3, h4⟩
    exact copZ_of rfl h1 h2 h3 h4
theorem cloneMZ {cap : Nat} (hn : n ≤ 4194304) (hc : ∀ k, k < n → W.cell? ⟨g, o + k, none⟩ = some (.int .u8 (f k))) :
    Calls Try.prog 40 #[.slice (some ⟨g, o, none⟩) n cap] W (CopZ W n f) := by
  refine (Go.Proofs.AnyE.slices_Clone cloM Try.t5 (.int .u8 0) 1 1 (by kernel_rfl) (by kernel_rfl) (by kernel_rfl) (by kernel_rfl) rfl (by decide) Try.sizeOf5 g o n cap (byL f n) W (by rw [byL_len, Nat.mul_one]) (by unfold maxLen; omega) (by omega) (fun j u hj => ?_) (byL_one f n)).mono ?_
  · have hjn : j < n := by have := (List.getElem?_eq_some_iff.1 hj).1; rwa [byL_len] at this
    rw [byL_at hjn] at hj
    rw [← hj]
    exact hc j hjn
  · rintro e w' ⟨v', h1, h2, h3, h4⟩
    exact copZ_of rfl h1 h2 h3 h4
set_option maxRecDepth 100000 in
theorem imageZ (h : StR K W sb A S) :
    Calls Try.prog 28 #[.pointer (some ⟨sb, 0, none⟩)] W (CopZ W (512 * S.n) S.now) := by
  have k0 := h.cell.1
  have hn := h.n2
  have HC : Hid (∀ w, w = W → Calls Try.prog 40 #[.slice (some ⟨A.nb, 0, none⟩) (512 * S.n) A.nc] w (CopZ W (512 * S.n) S.now)) := fun w hw => by subst hw; exact cloneMZ (by omega) (fun k hk => by rw [Nat.zero_add]; exact h.now.cell k hk)
  clear h
  generalize 512 * S.n = N at *
  go_enter Try.func28, Try.ntmps28
  go_wp2_with fail
  refine (HC.out _ rfl).mono ?_
  rintro e w1 ⟨fb, fc, rfl, hh⟩
  have H1 : Hid _ := hh
  clear hh HC k0
  go_wp2_with fail
  go_ret
  exact ⟨_, _, by first | rfl | (simp; done), H1.out⟩
set_option maxRecDepth 100000 in
theorem readZ (h : StR K W sb A S) {i : Nat} (hi : i < S.n) :
    Calls Try.prog 12 #[.pointer (some ⟨sb, 0, none⟩), .int .i64 (i : Int)] W fun e w' => ∃ g cap, e = .returned (.tuple #[.slice (some ⟨g, 0, none⟩) 512 cap, .int .i64 0]) ∧ W.heap.size ≤ g ∧ Bz cap w' g 512 (fun k => S.now (512 * i + k)) ∧ 512 ≤ cap ∧ cap ≤ maxLen ∧ Up W w' := by
  have k0 := h.cell.1
  have hn := h.n2
  have HH : Hid (∀ w, w = W → Calls Try.prog 35 #[.pointer (some ⟨sb, 0, none⟩), .int .i64 (i : Int)] w fun e w' => e = .returned (.bool true) ∧ w' = w) := fun w hw => by
    subst hw
    have := has_any h (x := (i : Int)) ⟨by omega, by omega⟩
    rw [decide_eq_true ⟨by omega, by omega⟩] at this
    exact this
  have HS : Hid (∀ w, w = W → Calls Try.prog 37 #[.slice (some ⟨A.nb, 0, none⟩) (512 * S.n) A.nc, .int .i64 (i : Int)] w fun e w' => e = .returned (.slice (some ⟨A.nb, 512 * i, none⟩) 512 512) ∧ w' = w) := fun w hw => sector_any hi hn h.nc1 h.nc2
  have HC : Hid (∀ w, w = W → Calls Try.prog 36 #[.slice (some ⟨A.nb, 512 * i, none⟩) 512 512] w (CopZ W 512 (fun k => S.now (512 * i + k)))) := fun w hw => by subst hw; exact cloneBZ (by omega) (fun k hk => h.now.cell _ (by omega))
  clear h
  generalize 512 * S.n = N at *
  generalize 512 * i = I at *
  go_enter Try.func12, Try.ntmps12
  go_wp2_with fail
  refine (HH.out _ rfl).mono ?_
  rintro e w' ⟨rfl, hw'⟩
  obtain rfl := hw'.symm
  go_wp2_with fail
  refine (HS.out _ rfl).mono ?_
  rintro e w' ⟨rfl, hw'⟩
  obtain rfl := hw'.symm
  go_wp2_with fail
  refine (HC.out _ rfl).mono ?_
  rintro e w1 ⟨fb, fc, rfl, hh⟩
  have H1 : Hid _ := hh
  clear hh HC k0 HH HS
  go_wp2_with fail
  go_ret2
  exact ⟨_, _, by first | rfl | (simp; done), H1.out⟩
/-- Crash on its way: i of the writes are there as their picks say -/
structure CrZ (lc : Nat) (W : World) (lb N : Nat) (pk : Nat → Int) (S : Sto) (i : Nat) (w : World) : Prop where
  by' : Bz lc w lb N (crashN pk S.pend S.safe i)
  up : Up W w
theorem CrZ.more {lc lb N i : Nat} {pk : Nat → Int} (h : CrZ lc W lb N pk S i w) (u : Up w w') : CrZ lc W lb N pk S i w' := ⟨h.by'.up u, h.up.trans u⟩
set_option maxRecDepth 100000 in
set_option maxHeartbeats 2000000 in
theorem crashZ (h : StR K W sb A S) (hp : S.pend.length ≤ 1099511627776) {aa : Option Addr} {ab ao pl cc : Nat} {hh : Nat → Int} (D : Ints W aa ab ao pl cc hh) :
    Calls Try.prog 30 #[.pointer (some ⟨sb, 0, none⟩), .slice aa pl cc] W (CopZ W (512 * S.n) (crashN (pkN pl hh) S.pend S.safe S.pend.length)) := by
  have hn := h.n2
  have hpl : A.ws.length = S.pend.length := by rw [← h.tie, List.length_map]
  have k1 := h.cell.2.1
  obtain ⟨pa, pc, hv, hp1, hp2⟩ := h.pv
  have hpc : pc ≤ 9223372036854775807 := by unfold maxLen at hp2; omega
  have HG : Hid (0 < S.pend.length → ∃ gr, pa = some ⟨gr, 0, none⟩ ∧ A.pv = .slice (some ⟨gr, 0, none⟩) A.ws.length pc) := fun hp => by
    rcases own_cases h.row with ⟨hv2, hn2, _⟩ | ⟨gr, cap, hv2, _⟩
    · omega
    · rw [hv] at hv2
      injection hv2 with e1 e2 e3
      exact ⟨gr, e1, by rw [hv, e1, hpl]⟩
  have HWs : Hid (∀ k, k < S.pend.length → ∃ x, A.ws[k]? = some x ∧ S.pend[k]? = some x.pl) := fun k hk => by
    have hk2 : k < A.ws.length := by omega
    refine ⟨A.ws[k], List.getElem?_eq_getElem hk2, ?_⟩
    rw [← h.tie, List.getElem?_map, List.getElem?_eq_getElem hk2]
    rfl
  have HK2 : Hid (∀ w, Up W w → w.cell? ⟨sb, 2, none⟩ = some (.slice pa S.pend.length pc)) := fun w u => by
    have := (h.up u).cell.2.2.1
    rw [hv] at this
    exact this
  have HCl : Hid (Calls Try.prog 40 #[.slice (some ⟨A.fb, 0, none⟩) (512 * S.n) A.fc] W (CopZ W (512 * S.n) S.safe)) := cloneMZ (by omega) (fun k hk => by rw [Nat.zero_add]; exact h.safe.cell k hk)
  have HPk : Hid (∀ k w, k < S.pend.length → Up W w → Calls Try.prog 42 #[.slice aa pl cc, .int .i64 (k : Int)] w fun e w' => e = .returned (.int .i64 (pkN pl hh k)) ∧ w' = w) := fun k w hk u => pickAt_any (D.upI u) k (by omega)
  have HSp : Hid (∀ k w, Calls Try.prog 41 #[.int .i64 (pkN pl hh k)] w fun e w' => e = .returned (.tuple #[.int .i64 (spFrom (pkN pl hh k) : Int), .int .i64 ((spFrom (pkN pl hh k) + spLen (pkN pl hh k) : Nat) : Int)]) ∧ w' = w) := fun k w => span_any pkN_lo (pkN_hi D.i64)
  have HSe : Hid (∀ (x : Wr) lb lc, x ∈ A.ws → 512 * S.n ≤ lc → lc ≤ maxLen → ∀ w, Calls Try.prog 37 #[.slice (some ⟨lb, 0, none⟩) (512 * S.n) lc, .int .i64 (x.sec : Int)] w fun e w' => e = .returned (.slice (some ⟨lb, 512 * x.sec, none⟩) 512 512) ∧ w' = w) := fun x lb lc hx h1 h2 w => sector_any (h.wr x hx).2.2.2 hn h1 h2
  have HR : Hid (∀ w gr k (x : Wr), Up W w → A.pv = .slice (some ⟨gr, 0, none⟩) A.ws.length pc → A.ws[k]? = some x → w.rangeAt gr (k * 2) x.cells) := fun w gr k x u e hx => (h.up u).wrRange e hx
  have HMem : Hid (∀ k (x : Wr), A.ws[k]? = some x → x ∈ A.ws) := fun k x hx => List.mem_of_getElem? hx
  -- the copy
  have HCp : Hid (∀ lb lc k (x : Wr) w, W.heap.size ≤ lb → A.ws[k]? = some x → S.pend[k]? = some x.pl → CrZ lc W lb (512 * S.n) (pkN pl hh) S k w → ∀ F L, spFrom (pkN pl hh k) = F → spLen (pkN pl hh k) = L → (0 < L → ∀ ty dc sc, (Builtin.copy_ #[25, 25] ty #[.slice (some ⟨lb, 512 * x.sec + F, none⟩) L dc, .slice (some ⟨x.blk, F, none⟩) L sc]).run Try.prog w = .ok (goInt L) (w.setCells lb (512 * x.sec + F) (byL (fun j => x.f (F + j)) L)) ∧ CrZ lc W lb (512 * S.n) (pkN pl hh) S (k + 1) (w.setCells lb (512 * x.sec + F) (byL (fun j => x.f (F + j)) L))) ∧ (L = 0 → CrZ lc W lb (512 * S.n) (pkN pl hh) S (k + 1) w)) := fun lb lc k x w hlb hx hx2 hs F L hF hL => by
    have hm := List.mem_of_getElem? hx
    obtain ⟨q1, q2, q3, q4⟩ := (h.up hs.up).wr x hm
    have nw := hs.by'
    have hle : F + L ≤ 512 := by rw [← hF, ← hL]; exact sp_le _
    have he : crashN (pkN pl hh) S.pend S.safe (k + 1) = putF (crashN (pkN pl hh) S.pend S.safe k) (512 * x.sec + F) L (fun j => x.f (F + j)) := by
      rw [crashN_succ hx2]
      unfold tear
      rw [hF, hL]
      rfl
    refine ⟨fun h0 ty dc sc => ⟨?_, ?_, ?_⟩, fun h0 => ⟨?_, hs.up⟩⟩
    · have hr := run_copy_cells (P := Try.prog) w 25 25 ty 5 lb (512 * x.sec + F) L dc ⟨x.blk, F, none⟩ L sc (byL (fun j => x.f (F + j)) L) Try.underlying25 (by kernel_rfl) (by rw [byL_len]; exact (Nat.min_self L).symm) (fun j v hj => ?_) (fun j hj => ?_) (fun j hj => nw.fz _) (byL_one _ L)
      · rw [byL_len] at hr
        exact hr
      · have hjn : j < L := by have := (List.getElem?_eq_some_iff.1 hj).1; rwa [byL_len] at this
        rw [byL_at hjn] at hj
        rw [Addr.add_lit, ← hj]
        exact q1.cell (F + j) (by omega)
      · rw [byL_len] at hj
        rw [nw.cell (512 * x.sec + F + j) (by omega)]
        rfl
    · rw [he]
      exact nw.setCells (512 * x.sec + F) L _ (by omega)
    · exact Fr.up hs.up hlb (fr_setCells lb _ _ w)
    · rw [he]
      refine nw.congr (fun j hj => ?_)
      rw [putF_out _ _ (by omega)]
  have HXc : Hid (∀ x : Wr, x ∈ A.ws → 512 ≤ x.cap ∧ x.cap ≤ 9223372036854775807) := fun x hx => by
    obtain ⟨_, q2, q3, _⟩ := h.wr x hx
    unfold maxLen at q3
    exact ⟨q2, by omega⟩
  have HFc : Hid (∀ k, spFrom (pkN pl hh k) + spLen (pkN pl hh k) ≤ 512) := fun k => sp_le _
  clear h hv hpl hp2 D
  generalize pkN pl hh = pk at *
  go_enter Try.func30, Try.ntmps30
  go_wp2_with fail
  refine Calls.mono HCl.out ?_
  rintro e w1 ⟨lb, lc, rfl, q1, q2, q3, q4, q5⟩
  have H0 : Hid (CrZ lc W lb (512 * S.n) pk S 0 w1) := ⟨q2, q5⟩
  have HL : Hid (W.heap.size ≤ lb ∧ 512 * S.n ≤ lc ∧ lc ≤ maxLen) := ⟨q1, q3, q4⟩
  have hlc : 512 * S.n ≤ lc := q3
  have hlcm : lc ≤ 9223372036854775807 := by unfold maxLen at q4; omega
  have k2 := HK2.out w1 q5
  clear q1 q2 q3 q4 q5 HCl HK2
  go_wp2_with fail
  go_loopw [6, 7, 8, 9, 20] (fun _ _ _ _ I wr => ∃ k : Nat, k ≤ S.pend.length ∧ I = .int .i64 k ∧ Hid (CrZ lc W lb (512 * S.n) pk S k wr)) (fun _ _ _ _ I _ => S.pend.length - (intOf I).toNat)
  case atStart => exact ⟨0, Nat.zero_le _, rfl, H0⟩
  case round =>
    clear H0 k2 k1
    obtain ⟨k, hk, rfl, M0⟩ := hrel
    by_cases hlt : k < S.pend.length
    · have d1 : (k : Int) < (S.pend.length : Int) := by omega
      obtain ⟨x, hx, hx2⟩ := HWs.out k hlt
      obtain ⟨gr, rfl, hpv⟩ := HG.out (by omega)
      have HRk : Hid _ := HR.out wr gr k x M0.out.up hpv hx
      have HSx : Hid _ := HSe.out x lb lc (HMem.out k x hx) HL.out.2.1 HL.out.2.2
      have HX : Hid (∀ w, CrZ lc W lb (512 * S.n) pk S k w → ∀ F L, _) := fun w hs => HCp.out lb lc k x w HL.out.1 hx hx2 hs
      have HPx : Hid (∀ w, Up W w → _) := fun w u => HPk.out k w hlt u
      have HSx2 : Hid (∀ w : World, _) := fun w => HSp.out k w
      have hF := HFc.out k
      obtain ⟨hxc, hxm⟩ := HXc.out x (HMem.out k x hx)
      have HA2 : Hid (∀ o, (wr.alloc o).heap[wr.heap.size]? = some o) := fun o => heap_alloc_new wr o
      have HU : Hid (∀ w old, (wr.alloc (Obj.cells old 73)).setRow wr.heap.size x.cells.toArray = w → CrZ lc W lb (512 * S.n) pk S k w ∧ w.heap[wr.heap.size]? = some (.cells x.cells.toArray 73 (0, 0))) := by
        rintro w old rfl
        exact ⟨M0.out.more (((Up.refl wr).alloc _).setRow (Nat.le_refl _) _), setRow_heap _ _ _ _ _ _ (heap_alloc_new wr _)⟩
      clear hx hx2 hpv HWs HG HCp HSe HMem HR HPk HSp HFc HXc M0
      obtain ⟨T, hT⟩ : ∃ T, T = spFrom (pk k) + spLen (pk k) := ⟨_, rfl⟩
      have hLT : spLen (pk k) = T - spFrom (pk k) := by omega
      rw [← hT] at hF HSx2
      have HX2 : Hid (∀ w, CrZ lc W lb (512 * S.n) pk S k w → _) := fun w hs => HX.out w hs (spFrom (pk k)) (T - spFrom (pk k)) rfl hLT
      have hFT : spFrom (pk k) ≤ T := by omega
      clear HX hT hLT
      generalize spFrom (pk k) = F at *
      have i1 : (F : Int) ≤ (T : Int) := by omega
      have i2 : (T : Int) ≤ 512 := by omega
      go_wp2_with (first
        | (refine wpList_load_mid rfl 73 _ rfl gr (k * 2) rfl x.cells _ HRk.out Try.underlying73 rfl (by kernel_rfl) ?_)
        | (refine wpList_store_rowTo rfl 73 _ _ rfl rfl wr.heap.size x.cells.toArray rfl rfl 73 _ (HA2.out _) (by kernel_rfl) rfl x.one ?_
           generalize hW3 : World.setRow _ _ _ = w3
           obtain ⟨hU, hA⟩ := HU.out _ _ hW3
           have H3 : Hid (CrZ lc W lb (512 * S.n) pk S k w3) := hU
           have HR3 : Hid (w3.heap[wr.heap.size]? = some (.cells x.cells.toArray 73 (0, 0))) := hA
           clear hW3 hU hA))
      refine (HPx.out w3 H3.out.up).mono ?_
      rintro e w' ⟨rfl, hw'⟩
      obtain rfl := hw'.symm
      go_wp2_with fail
      refine (HSx2.out _).mono ?_
      rintro e w' ⟨rfl, hw'⟩
      obtain rfl := hw'.symm
      generalize wr.heap.size = xb at HR3 ⊢
      have HQ : Hid (∀ w1, Up w3 w1 → w1.cell? ⟨xb, 0, none⟩ = some (.int .i64 (x.sec : Int)) ∧ w1.cell? ⟨xb, 1, none⟩ = some (.slice (some ⟨x.blk, 0, none⟩) 512 x.cap)) := fun w1 u => by
        have hb := (u.block xb (heap_at HR3.out)).trans HR3.out
        exact ⟨heap_cell hb rfl, heap_cell hb rfl⟩
      clear HR3 HRk HA2 HU HPx HSx2
      go_wp2_with fail
      by_cases hf : F = 512
      · have hT0 : T = 512 := by omega
        subst hf hT0
        have HX3 : Hid _ := HX2.out
        by_cases hcap : x.cap = 512
        · have hcap2 : Hid (x.cap = 512) := hcap
          refine wp_still2 12 (by kernel_rfl) (by kernel_rfl) ?_
          intro w1 hw1
          have u1 : Up w3 w1 := by rw [hw1]; exact (Up.refl _).drew
          obtain ⟨k2, k3⟩ := HQ.out w1 u1
          have H4 : Hid (CrZ lc W lb (512 * S.n) pk S k w1) := H3.out.more u1
          clear hw1 u1 H3 HQ
          simp only [List.take_succ_cons, List.take_zero, List.drop_succ_cons, List.drop_zero]
          repeat (go_big_quiet_step (fail))
          go_big_quiet_want
          go_big_quiet_op
          refine ⟨_, HSx.out _, ?_⟩
          go_big_quiet_on
          repeat (go_big_quiet_step (fail))
          refine wpQuiet_nil ?_
          have H5 : Hid (CrZ lc W lb (512 * S.n) pk S (k + 1) w1) := (HX2.out w1 H4.out).2 (by omega)
          go_wp2_with (refine wpList_copy_nothing rfl _ _ 25 25 rfl 5 Try.underlying25 (by kernel_rfl) _ _ _ _ _ _ rfl rfl (by simp) ?_)
          refine ⟨⟨k + 1, by omega, by first | rfl | (simp; done), H5⟩, ?_⟩
          simp [intOf]
          omega
        · have hcap3 : ¬ (512 = x.cap) := fun e => hcap e.symm
          refine wp_still2 12 (by kernel_rfl) (by kernel_rfl) ?_
          intro w1 hw1
          have u1 : Up w3 w1 := by rw [hw1]; exact (Up.refl _).drew
          obtain ⟨k2, k3⟩ := HQ.out w1 u1
          have H4 : Hid (CrZ lc W lb (512 * S.n) pk S k w1) := H3.out.more u1
          clear hw1 u1 H3 HQ
          simp only [List.take_succ_cons, List.take_zero, List.drop_succ_cons, List.drop_zero]
          repeat (go_big_quiet_step (fail))
          go_big_quiet_want
          go_big_quiet_op
          refine ⟨_, HSx.out _, ?_⟩
          go_big_quiet_on
          repeat (go_big_quiet_step (fail))
          refine wpQuiet_nil ?_
          have H5 : Hid (CrZ lc W lb (512 * S.n) pk S (k + 1) w1) := (HX2.out w1 H4.out).2 (by omega)
          go_wp2_with (refine wpList_copy_nothing rfl _ _ 25 25 rfl 5 Try.underlying25 (by kernel_rfl) _ _ _ _ _ _ rfl rfl (by simp) ?_)
          refine ⟨⟨k + 1, by omega, by first | rfl | (simp; done), H5⟩, ?_⟩
          simp [intOf]
          omega
      · have hf1 : F < 512 := by omega
        have hf2 : ¬ (512 = F) := fun e => hf e.symm
        have hf3 : ¬ (x.cap = F) := by omega
        have i3 : (T : Int) ≤ (x.cap : Int) := by omega
        refine wp_still2 12 (by kernel_rfl) (by kernel_rfl) ?_
        intro w1 hw1
        have u1 : Up w3 w1 := by rw [hw1]; exact (Up.refl _).drew
        obtain ⟨k2, k3⟩ := HQ.out w1 u1
        have H4 : Hid (CrZ lc W lb (512 * S.n) pk S k w1) := H3.out.more u1
        clear hw1 u1 H3 HQ
        simp only [List.take_succ_cons, List.take_zero, List.drop_succ_cons, List.drop_zero]
        repeat (go_big_quiet_step (fail))
        go_big_quiet_want
        go_big_quiet_op
        refine ⟨_, HSx.out _, ?_⟩
        go_big_quiet_on
        repeat (go_big_quiet_step (fail))
        refine wpQuiet_nil ?_
        by_cases hT : T = F
        · subst hT
          have H5 : Hid (CrZ lc W lb (512 * S.n) pk S (k + 1) w1) := (HX2.out w1 H4.out).2 (by omega)
          go_wp2_with (refine wpList_copy_nothing rfl _ _ 25 25 rfl 5 Try.underlying25 (by kernel_rfl) _ _ _ _ _ _ rfl rfl (by simp) ?_)
          refine ⟨⟨k + 1, by omega, by first | rfl | (simp; done), H5⟩, ?_⟩
          simp [intOf]
          omega
        · have HY : Hid _ := (HX2.out w1 H4.out).1 (by omega)
          have H5 : Hid (CrZ lc W lb (512 * S.n) pk S (k + 1) _) := (HY.out 0 0 0).2
          go_wp2_with (refine wpList_copy_runI _ rfl _ _ 25 25 rfl _ _ rfl rfl (HY.out _ _ _).1 ?_)
          refine ⟨⟨k + 1, by omega, by first | rfl | (simp; done), H5⟩, ?_⟩
          simp [intOf]
          omega
    · have d1 : ¬ (k : Int) < (S.pend.length : Int) := by omega
      obtain rfl : k = S.pend.length := by omega
      clear HWs HG HCp HSe HMem HR HPk HSp HFc HXc
      go_wp2_with fail
      go_ret
      exact ⟨lb, lc, by first | rfl | (simp; done), HL.out.1, M0.out.by', HL.out.2.1, HL.out.2.2, M0.out.up⟩
end Go.Proofs.Ytekffilokdmfgaa
