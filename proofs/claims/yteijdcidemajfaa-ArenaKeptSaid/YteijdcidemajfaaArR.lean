/- Arena: New, the walk. -/
import Derived.Test.YteijdcidemajfaaArQ
namespace Go.Proofs.Yteijdcidemajfaa
open Go.RowKit
set_option linter.unusedVariables false
variable {W : World}
/-- a class that is being made: its cell and its free buffers so far -/
structure Mk (W1 : World) (mb s : Nat) (f : List Nat) (v : Value) (w : World) : Prop where
  up : Up W1 w
  blk : w.heap[mb]? = some (.cells #[.int .i64 (s : Int), v] 94 (0, 0))
  ge : W1.heap.size ≤ mb
  own : w.ownsRow 0 3 1 v f.length (nums f)
  nw : ∀ g, v.ownBlock = some g → W1.heap.size ≤ g ∧ g ≠ mb
theorem Mk.chg {W1 w w' : World} {mb s : Nat} {f f' : List Nat} {v v' : Value} (h : Mk W1 mb s f v w) (ch : Chg w w' mb 1 v v') (ow : w'.ownsRow 0 3 1 v' f'.length (nums f')) : Mk W1 mb s f' v' w' := by
  refine ⟨⟨ch.os.trans h.up.os, ch.output.trans h.up.output, Nat.le_trans h.up.size ch.size, fun b hb => ?_⟩, ?_, h.ge, ow, fun g hg => ?_⟩
  · refine (ch.block b (Nat.lt_of_lt_of_le hb h.up.size) (fun e => ?_) (fun e => ?_)).trans (h.up.block b hb)
    · have := h.ge
      omega
    · have := (h.nw b e).1
      omega
  · have := ch.cellq _ _ h.blk
    exact this
  · rcases ch.own with e | ⟨g', e, hg'⟩
    · exact h.nw g (e ▸ hg)
    · rw [e] at hg
      injection hg with hg
      have := h.up.size
      have := heap_at h.blk
      omega
theorem made_nil (w : World) (n : Nat) : (w.alloc (.cells (madeCells #[.pointer none] n) 96)).heap[w.heap.size]? = some (.cells (Array.replicate n (.pointer none)) 96 (0, 0)) := by
  have e : madeCells #[Value.pointer none] n = Array.replicate n (.pointer none) := by
    apply Array.ext
    · simp [madeCells]
    · intro i h1 h2
      simp [madeCells, Nat.mod_one]
  rw [e]
  exact heap_alloc_new w _
theorem manyOf_le {cf : List (Nat × Nat)} {m : Nat} (h : Cfg cf m) (k : Nat) : manyOf (cf.take k) ≤ 4096 := by
  have e : ∀ j, manyOf (cf.take j) ≤ 512 * j := by
    intro j
    induction j with
    | zero => simp [manyOf]
    | succ j ih =>
      cases hx : cf[j]? with
      | none => rw [List.take_add_one, hx]; simp only [Option.toList, List.append_nil]; omega
      | some x =>
        rw [take_snoc' hx, manyOf_snoc]
        have := (h.up j x hx).2.2
        omega
  by_cases hk : k ≤ 8
  · have := e k
    omega
  · rw [List.take_of_length_le (by have := h.n8; omega)]
    have := e 8
    rw [List.take_of_length_le h.n8] at this
    omega
/-- under way: k classes are made -/
def NwK (W : World) (pb ab m : Nat) (cf : List (Nat × Nat)) (k : Nat) (w : World) : Prop := ∃ R cv fv, Nw R W pb ab m cv fv (mkCls 0 (cf.take k)) w
set_option maxRecDepth 100000 in
set_option maxHeartbeats 4000000 in
theorem new_ok {K : Nat → Prop} {g o cap m : Nat} {cf : List (Nat × Nat)} (h : Cfg cf m) (hc : cf.length ≤ cap) (hm : cap ≤ maxLen) (HG : Hid (∀ w, Up W w → ∀ k x, cf[k]? = some x → w.rangeAt g (o + k * 2) [.int .i64 (x.1 : Int), .int .i64 (x.2 : Int)])) (hk : ∀ b, K b → b < W.heap.size) :
    Calls Try.prog 12 #[.agg #[.slice (some ⟨g, o, none⟩) cf.length cap, .int .i64 (m : Int)]] W fun e w' => ∃ pb, e = .returned (.tuple #[.pointer (some ⟨pb, 0, none⟩), .int .i64 0]) ∧ W.heap.size ≤ pb ∧ PlAt K w' pb (Pl.new cf m) ∧ Up W w' := by
  have n1 := h.n1
  have n8 := h.n8
  have m1 := h.m1
  have m64 := h.m64
  have hm2 : cap ≤ 9223372036854775807 := by unfold maxLen at hm; omega
  have HMB : Hid (∀ w, Up W w → Calls Try.prog 31 #[.agg #[.slice (some ⟨g, o, none⟩) cf.length cap, .int .i64 (m : Int)]] w fun e w' => e = .returned (.bool true) ∧ Up w w') := fun w u => mayBe_yes h hc hm (fun w' u' k x hx => HG.out w' (u.trans u') k x hx)
  have HC : Hid (Cfg cf m) := h
  have HK : Hid (∀ b, K b → b < W.heap.size) := hk
  have ua := (Up.refl W).alloc (Obj.cells #[.slice (some ⟨g, o, none⟩) cf.length cap, .int .i64 (m : Int)] 32)
  have ka : (W.alloc (Obj.cells #[.slice (some ⟨g, o, none⟩) cf.length cap, .int .i64 (m : Int)] 32)).heap[W.heap.size]? = some (.cells #[.slice (some ⟨g, o, none⟩) cf.length cap, .int .i64 (m : Int)] 32 (0, 0)) := heap_alloc_new W _
  have HU : Hid (Up W (W.alloc (Obj.cells #[.slice (some ⟨g, o, none⟩) cf.length cap, .int .i64 (m : Int)] 32)) ∧ ∀ w, Up (W.alloc (Obj.cells #[.slice (some ⟨g, o, none⟩) cf.length cap, .int .i64 (m : Int)] 32)) w → w.cell? ⟨W.heap.size, 0, none⟩ = some (.slice (some ⟨g, o, none⟩) cf.length cap) ∧ w.cell? ⟨W.heap.size, 1, none⟩ = some (.int .i64 (m : Int))) := ⟨ua, fun w u => ⟨heap_cell ((u.block _ (heap_at ka)).trans ka) rfl, heap_cell ((u.block _ (heap_at ka)).trans ka) rfl⟩⟩
  clear h hm hk ua ka
  go_enter Try.func12, Try.ntmps12
  go_wp2_with fail
  generalize World.alloc W _ = Wa at HU ⊢
  generalize W.heap.size = ccb at HU ⊢
  refine (HMB.out _ HU.out.1).mono ?_
  rintro e w1 ⟨rfl, u1⟩
  obtain ⟨k0, k1⟩ := HU.out.2 w1 u1
  have H1 : Hid (Up W w1 ∧ ∀ w, Up w1 w → w.cell? ⟨ccb, 0, none⟩ = some (.slice (some ⟨g, o, none⟩) cf.length cap)) := ⟨HU.out.1.trans u1, fun w u => (HU.out.2 w (u1.trans u)).1⟩
  have hcc := World.block_lt_of_cell? _ _ k0
  have hcc2 : ccb < w1.heap.size + 1 := by have : ccb < w1.heap.size := hcc; omega
  clear u1 HU HMB
  have hmk : ∀ w : World, (Instr.makeSlice 88 (.int .i64 (m : Int)) (.int .i64 (m : Int))).run Try.prog w = .ok (.slice (some ⟨w.heap.size, 0, none⟩) m m) (w.alloc (.cells (madeCells #[.pointer none] m) 96)) := fun w => by
    have := run_make (P := Try.prog) w 88 96 Try.t96 (.pointer none) Try.underlying88 (by kernel_rfl) rfl .i64 .i64 (m : Int) (m : Int) (by omega) (by omega) (by show (8 : Int) * (m : Int) ≤ 281474976710656; omega) (by omega)
    have e1 : (Value.pointer none).cells = #[Value.pointer none] := rfl
    have e2 : Try.t96.size = 1 := rfl
    rw [e1, e2] at this
    simpa using this
  go_wp2_with fail
  have N0 : NwK W (w1.heap.size + 1) w1.heap.size m cf 0 ((w1.alloc (Obj.cells (madeCells #[.pointer none] m) 96)).alloc (Obj.cells #[.slice none 0 0, .slice (some ⟨w1.heap.size, 0, none⟩) m m] 91)) := by
    have ub : Up w1 ((w1.alloc (Obj.cells (madeCells #[.pointer none] m) 96)).alloc (Obj.cells #[.slice none 0 0, .slice (some ⟨w1.heap.size, 0, none⟩) m m] 91)) := ((Up.refl w1).alloc _).alloc _
    have hs := H1.out.1.size
    refine ⟨fun b => if b = w1.heap.size + 1 then some .pool else if b = w1.heap.size then some .ars else none, .slice none 0 0, fun _ => .slice none 0 0, ⟨H1.out.1.trans ub, fun b r hb => ?_, if_pos rfl, heap_alloc2 w1 _ _, ⟨rfl, Or.inl ⟨rfl, rfl⟩⟩, fun g hg => (by cases hg), ?_, ?_, fun c x hx => (by simp [mkCls] at hx)⟩⟩
    · have z : ((w1.alloc (Obj.cells (madeCells #[.pointer none] m) 96)).alloc (Obj.cells #[.slice none 0 0, .slice (some ⟨w1.heap.size, 0, none⟩) m m] 91)).heap.size = w1.heap.size + 2 := by simp
      by_cases e1 : b = w1.heap.size + 1
      · omega
      · rw [if_neg e1] at hb
        by_cases e2 : b = w1.heap.size
        · omega
        · rw [if_neg e2] at hb
          cases hb
    · show (if w1.heap.size = w1.heap.size + 1 then _ else if w1.heap.size = w1.heap.size then _ else _) = _
      rw [if_neg (by omega), if_pos rfl]
    · rw [Below.heap_alloc _ _ _ (by simp)]
      exact made_nil w1 m
  have HN0 : Hid (NwK W (w1.heap.size + 1) w1.heap.size m cf 0 ((w1.alloc (Obj.cells (madeCells #[.pointer none] m) 96)).alloc (Obj.cells #[.slice none 0 0, .slice (some ⟨w1.heap.size, 0, none⟩) m m] 91)) ∧ Up w1 ((w1.alloc (Obj.cells (madeCells #[.pointer none] m) 96)).alloc (Obj.cells #[.slice none 0 0, .slice (some ⟨w1.heap.size, 0, none⟩) m m] 91))) := ⟨N0, ((Up.refl w1).alloc _).alloc _⟩
  have HPB : Hid (W.heap.size ≤ w1.heap.size + 1) := by have := H1.out.1.size; show _ ≤ _; omega
  clear N0 hmk k1 k0 hcc hcc2
  generalize World.alloc (World.alloc w1 _) _ = w2 at HN0 ⊢
  generalize w1.heap.size + 1 = pb at HN0 HPB ⊢
  generalize w1.heap.size = ab at HN0 ⊢
  have HN : Hid (NwK W pb ab m cf 0 w2) := HN0.out.1
  clear HN0 H1
  go_loopw [5, 7, 8, 20, 29] (fun N _ _ I _ wr => ∃ k : Nat, k ≤ cf.length ∧ N = .int .i64 (manyOf (cf.take k) : Nat) ∧ I = .int .i64 k ∧ Hid (NwK W pb ab m cf k wr)) (fun _ _ _ I _ _ => cf.length - (intOf I).toNat)
  case atStart => exact ⟨0, Nat.zero_le _, rfl, rfl, HN⟩
  case round =>
    clear HN
    obtain ⟨k, hk, rfl, rfl, M0⟩ := hrel
    have HUW : Hid (Up W wr) := by
      obtain ⟨R, cv, fv, h⟩ := M0.out
      exact h.up
    by_cases hlt : k < cf.length
    · have d1 : (k : Int) < (cf.length : Int) := by omega
      obtain ⟨x, hy⟩ : ∃ y, cf[k]? = some y := ⟨_, List.getElem?_eq_getElem hlt⟩
      obtain ⟨b1, b2, b3⟩ := HC.out.up k x hy
      have HRk : Hid _ := HG.out wr HUW.out k x hy
      have HA2 : Hid (∀ o, (wr.alloc o).heap[wr.heap.size]? = some o) := fun o => heap_alloc_new wr o
      have HU : Hid (∀ w old, (wr.alloc (Obj.cells old 29)).setRow wr.heap.size #[.int .i64 (x.1 : Int), .int .i64 (x.2 : Int)] = w → Up wr w ∧ wr.heap.size < w.heap.size ∧ w.cell? ⟨wr.heap.size, 0, none⟩ = some (.int .i64 (x.1 : Int)) ∧ w.cell? ⟨wr.heap.size, 1, none⟩ = some (.int .i64 (x.2 : Int))) := by
        rintro w old rfl
        refine ⟨((Up.refl wr).alloc _).setRow (Nat.le_refl _) _, heap_at (setRow_heap _ _ _ _ _ _ (heap_alloc_new wr _)), ?_, ?_⟩
        · rw [cell_of_row _ _ _ _ _ _ (setRow_heap _ _ _ _ _ _ (heap_alloc_new wr _))]
          rfl
        · rw [cell_of_row _ _ _ _ _ _ (setRow_heap _ _ _ _ _ _ (heap_alloc_new wr _))]
          rfl
      have HB : Hid (manyOf (cf.take (k + 1)) = manyOf (cf.take k) + x.2) := by rw [take_snoc' hy]; exact manyOf_snoc _ _
      have HCL : Hid (mkCls 0 (cf.take (k + 1)) = mkCls 0 (cf.take k) ++ [⟨x.1, manyOf (cf.take k), x.2, List.range' (manyOf (cf.take k)) x.2⟩]) := by show _ = _; rw [take_snoc' hy, mkCls_snoc, Nat.zero_add]
      have HM8 : Hid (manyOf (cf.take k) ≤ 4096) := manyOf_le HC.out k
      have HLk : Hid ((mkCls 0 (cf.take k)).length = k) := by rw [mkCls_len, List.length_take]; show _ = _; omega
      clear hy HG
      obtain ⟨s, n⟩ := x
      dsimp only at *
      have m8 := HM8.out
      generalize manyOf (cf.take k) = ST at *
      go_wp2_with (first
        | (refine wpList_load_mid rfl 29 _ rfl g (o + k * 2) rfl [.int .i64 (s : Int), .int .i64 (n : Int)] _ HRk.out Try.underlying29 rfl (by kernel_rfl) ?_)
        | (refine wpList_store_rowTo rfl 29 _ _ rfl rfl wr.heap.size #[.int .i64 (s : Int), .int .i64 (n : Int)] rfl rfl 29 _ (HA2.out _) (by kernel_rfl) rfl (by simp [Value.oneCell']) ?_
           generalize hW3 : World.setRow _ _ _ = w3
           obtain ⟨hU, hlt3, hA0, hA1⟩ := HU.out _ _ hW3
           have H3 : Hid (Up wr w3) := hU
           clear hW3 hU))
      have HK0 : Hid (∃ v, Mk w3 w3.heap.size s (List.range' ST 0) v (w3.alloc (Obj.cells #[.int .i64 (s : Int), .slice none 0 0] 94))) := ⟨.slice none 0 0, ⟨(Up.refl w3).alloc _, heap_alloc_new w3 _, Nat.le_refl _, ⟨rfl, Or.inl ⟨rfl, rfl⟩⟩, fun g hg => by cases hg⟩⟩
      have HN3 : Hid (∃ R cv fv, Nw R W pb ab m cv fv (mkCls 0 (cf.take k)) w3) := by
        obtain ⟨R, cv, fv, h⟩ := M0.out
        exact ⟨R, cv, fv, h.more H3.out⟩
      clear M0 hA0 hA1 hlt3 HU HRk HA2
      generalize World.alloc w3 _ = w4 at HK0 ⊢
      generalize w3.heap.size = mb at HK0 ⊢
      obtain ⟨wo, rfl⟩ : ∃ wo : World, wo = wr := ⟨_, rfl⟩
      go_loopw [5, 29] (fun N I wr => ∃ j : Nat, j ≤ n ∧ N = .int .i64 ((ST + j : Nat) : Int) ∧ I = .int .i64 j ∧ Hid (∃ v, Mk w3 mb s (List.range' ST j) v wr)) (fun _ I _ => n - (intOf I).toNat)
      case atStart => exact ⟨0, Nat.zero_le _, rfl, rfl, HK0⟩
      case round =>
        clear HK0
        obtain ⟨j, hj, rfl, rfl, M1⟩ := hrel
        obtain ⟨v, hM⟩ := M1.out
        have HMk : Hid (Mk w3 mb s (List.range' ST j) v wr) := hM
        have hsl : ∃ va vc, v = .slice va j vc ∧ j ≤ 100000 ∧ vc ≤ 9223372036854775807 := by
          rcases own_cases hM.own with ⟨hv, hn, _⟩ | ⟨g, cap, hv, h1, h2, _⟩
          · rw [List.length_range'] at hn
            exact ⟨none, 0, by rw [hv, hn], by omega, by omega⟩
          · rw [List.length_range'] at hv
            unfold maxLen at h2
            exact ⟨_, _, hv, by omega, by omega⟩
        obtain ⟨va, vc, rfl, hj2, hvc⟩ := hsl
        have km : wr.cell? ⟨mb, 1, none⟩ = some (.slice va j vc) := heap_cell hM.blk rfl
        by_cases hjn : j < n
        · have d2 : (j : Int) < (n : Int) := by omega
          have HP : Hid (Calls Try.prog 32 #[.pointer (some ⟨mb, 1, none⟩), .int .i64 (j : Int), .int .i64 ((ST + j : Nat) : Int)] wr fun e w' => e = .returned (.tuple #[]) ∧ ∃ v, Mk w3 mb s (List.range' ST (j + 1)) v w') := by
            have h1 := putI_end (x := ST + j) (l := List.range' ST j) (o := 1) hM.blk rfl hM.own (fun e => (hM.nw mb e).2 rfl) (by rw [List.length_range']; omega)
            rw [List.length_range'] at h1
            refine h1.mono fun e w' ⟨g1, v', g2, g3⟩ => ⟨g1, v', hM.chg g2 ?_⟩
            rw [List.range'_concat, Nat.one_mul]
            exact g3
          clear hM M1 HMk
          go_wp2_with fail
          refine Calls.mono HP.out ?_
          rintro e w5 ⟨rfl, h5⟩
          have H5 : Hid (∃ v, Mk w3 mb s (List.range' ST (j + 1)) v w5) := h5
          clear h5 HP km
          go_wp2_with fail
          refine ⟨⟨j + 1, by omega, by first | rfl | (simp; done) | (simp; omega), by first | rfl | (simp; done), H5⟩, ?_⟩
          simp [intOf]
          omega
        · have d2 : ¬ (j : Int) < (n : Int) := by omega
          obtain rfl : j = n := by omega
          obtain ⟨R, cv, fv, hN⟩ := HN3.out
          have HNw : Hid (Nw R W pb ab m cv fv (mkCls 0 (cf.take k)) wr) := hN.more hM.up
          have HNm : Hid (∀ b r, R b = some r → b < w3.heap.size) := fun b r hr => (hN.ge b r hr).2
          have hcs : ∃ ca cn cc, cv = .slice ca cn cc := own_slice3 hN.own
          obtain ⟨ca, cn, cc, rfl⟩ := hcs
          have hpl : pb < wr.heap.size := heap_at HNw.out.pool
          have HS : Hid (∀ w, Up wr w → w.cell? ⟨pb, 0, none⟩ = some (.slice ca cn cc) ∧ w.rangeAt mb 0 [.int .i64 (s : Int), .slice va j vc]) := fun w u => by
            have hb := (u.block mb (heap_at hM.blk)).trans hM.blk
            exact ⟨heap_cell ((u.block pb hpl).trans HNw.out.pool) rfl, range2 (heap_cell hb rfl) (heap_cell hb rfl)⟩
          have HCM : Hid ((Value.slice ca cn cc).ownBlock ≠ some mb) := fun e => by
            have := HNm.out mb _ (hN.rc mb e)
            have := hM.ge
            omega
          have HPM : Hid (pb ≠ mb) := fun e => by
            have := (hN.ge pb _ hN.rp).2
            have := hM.ge
            omega
          have HE : Hid (∀ w w' cv', Up wr w → Chg w w' pb 0 (.slice ca cn cc) cv' → w'.ownsRow 0 94 2 cv' ((mkCls 0 (cf.take k)).length + 1) (stockCells (mkCls 0 (cf.take k)) fv ++ [.int .i64 (s : Int), .slice va j vc]) → NwK W pb ab m cf (k + 1) w') := fun w w' cv' u ch ow => by
            have h1 := (HNw.out.more u).add (x := ⟨s, ST, j, List.range' ST j⟩) (v := .slice va j vc) ch ow (ownsRow_up hM.own u) (fun g hg => ⟨?_, ?_⟩) ?_
            · have hc := HCL.out
              rw [← hc] at h1
              exact ⟨_, _, _, h1⟩
            · have := (hM.nw g hg).1
              have := hN.up.size
              omega
            · cases hr : R g with
              | none => rfl
              | some r =>
                have := HNm.out g r hr
                have := (hM.nw g hg).1
                omega
            · show j ≤ vc
              rcases own_cases hM.own with ⟨hv, hn, _⟩ | ⟨g, cap, hv, h1, h2, _⟩
              · rw [List.length_range'] at hn
                omega
              · rw [List.length_range'] at h1
                injection hv with _ _ e
                omega
          have HOW : Hid (∀ w, Up wr w → w.ownsRow 0 94 2 (.slice ca cn cc) (mkCls 0 (cf.take k)).length (stockCells (mkCls 0 (cf.take k)) fv)) := fun w u => ownsRow_up HNw.out.own u
          have HRP : Hid (wr.heap[pb]? = some (.cells #[.slice ca cn cc, .slice (some ⟨ab, 0, none⟩) m m] 91 (0, 0)) ∧ (Value.slice ca cn cc).ownBlock ≠ some pb) := ⟨HNw.out.pool, fun e => by have h1 := hN.rc pb e; have h2 := hN.rp; rw [h1] at h2; cases h2⟩
          have hlk := HLk.out
          have hie : Try.prog.info? 94 = some Try.t94 := by kernel_rfl
          clear hM M1 HMk hN HNw km HN3
          go_wp2_with fail
          have HD : Hid (Up wr wr.drew) := (Up.refl _).drew
          refine wp_region_held_drew (S := fun w' => w'.rangeAt mb 0 [.int .i64 (s : Int), .slice va j vc]) (by kernel_rfl) ?_ (fun hHeld => ?_)
          · (try dsimp only); exact (HS.out _ HD.out).2
          refine wpAnyH_take (i := 0) (v := ?_) (by simp only [List.getElem?_toArray, List.getElem?_cons_zero]; rfl) (by kernel_rfl) (by kernel_rfl) (by kernel_rfl) (by intro _ _ _ h; exact h) (Or.inl ⟨by rfl, ?_⟩) (by assumption) ?_
          rotate_left
          · (intro w hSw; (try dsimp only at hSw); go_simp <;> with_reducible rfl)
          try simp only [Act.put, List.setIfInBounds_toArray, List.set_cons_zero, List.set_cons_succ]
          refine wpAnyH_take (i := 1) (v := ?_) (by simp only [List.getElem?_toArray, List.getElem?_cons_succ, List.getElem?_cons_zero]; rfl) (by kernel_rfl) (by kernel_rfl) (by kernel_rfl) (by intro _ _ _ h; exact h) (Or.inl ⟨by rfl, ?_⟩) (by assumption) ?_
          rotate_left
          · (intro w hSw; (try dsimp only at hSw); go_simp <;> with_reducible rfl)
          try simp only [Act.put, List.setIfInBounds_toArray, List.set_cons_zero, List.set_cons_succ]
          refine wpAnyH_take (i := 2) (v := ?_) (by simp only [List.getElem?_toArray, List.getElem?_cons_succ, List.getElem?_cons_zero]; rfl) (by kernel_rfl) (by kernel_rfl) (by kernel_rfl) (by intro _ _ _ h; exact h) (Or.inl ⟨by rfl, ?_⟩) (by assumption) ?_
          rotate_left
          · (intro w hSw; (try dsimp only at hSw); go_simp <;> with_reducible rfl)
          try simp only [Act.put, List.setIfInBounds_toArray, List.set_cons_zero, List.set_cons_succ]
          refine wpAnyH_take (i := 3) (v := ?_) (by simp only [List.getElem?_toArray, List.getElem?_cons_succ, List.getElem?_cons_zero]; rfl) (by kernel_rfl) (by kernel_rfl) (by kernel_rfl) (by intro _ _ _ h; exact h) (Or.inl ⟨by rfl, ?_⟩) (by assumption) ?_
          rotate_left
          · (intro w hSw; (try dsimp only at hSw); go_simp <;> with_reducible rfl)
          try simp only [Act.put, List.setIfInBounds_toArray, List.set_cons_zero, List.set_cons_succ]
          refine wpAnyH_take (i := 5) (v := .agg [.int .i64 (s : Int), .slice va j vc].toArray) (by simp only [List.getElem?_toArray, List.getElem?_cons_succ, List.getElem?_cons_zero]; rfl) (by kernel_rfl) (by kernel_rfl) (by kernel_rfl) (by intro _ _ _ h; exact h) (yieldsIf_load_mid (by rfl) 94 _ rfl mb 0 rfl [.int .i64 (s : Int), .slice va j vc] _ (fun w hw => hw) Try.underlying94 rfl (by kernel_rfl)) (by assumption) ?_
          simp only [Act.put, List.setIfInBounds_toArray, List.set_cons_zero, List.set_cons_succ]
          refine wpAnyH_ready (rs := [4, 6]) (by kernel_rfl) (by simp) ?_
          refine AllReadyH.cons (by simp only [List.getElem?_toArray, List.getElem?_cons_succ, List.getElem?_cons_zero]; rfl) (fun KK hK => ?_) (AllReadyH.cons (by simp only [List.getElem?_toArray, List.getElem?_cons_succ, List.getElem?_cons_zero]; rfl) (fun KK hK => ?_) AllReadyH.nil)
          · skip
            have kl := (HS.out _ HD.out).1
            go_simp
            refine hK.out _ _ ?_ (fun hHeld => ?_)
            · (try dsimp only); exact (HS.out _ HD.out).2
            clear hK KK kl
            try simp only [Act.put, List.setIfInBounds_toArray, List.set_cons_zero, List.set_cons_succ]
            refine wpAnyH_ready (rs := [6]) (by kernel_rfl) (by simp) ?_
            refine AllReadyH.cons (by simp only [List.getElem?_toArray, List.getElem?_cons_succ, List.getElem?_cons_zero]; rfl) (fun KK hK => ?_) AllReadyH.nil
            go_simp
            have HB2 : Hid (Up wr (wr.alloc (Obj.cells #[.int .i64 (s : Int), .slice va j vc] 94)).drew ∧ (wr.alloc (Obj.cells #[.int .i64 (s : Int), .slice va j vc] 94)).drew.heap[wr.heap.size]? = some (.cells #[.int .i64 (s : Int), .slice va j vc] 94 (0, 0))) := ⟨((Up.refl wr).alloc _).drew, heap_alloc_new wr _⟩
            generalize World.drew (World.alloc wr _) = wb at HB2 ⊢
            generalize wr.heap.size = nb at HB2 ⊢
            refine hK.out _ _ ?_ (fun hHeld => ?_)
            · (try dsimp only); exact (HS.out _ HB2.out.1).2
            clear hK KK
            try simp only [Act.put, List.setIfInBounds_toArray, List.set_cons_zero, List.set_cons_succ]
            refine wpAnyH_ready (rs := [7]) (by kernel_rfl) (by simp) ?_
            refine AllReadyH.cons (by simp only [List.getElem?_toArray, List.getElem?_cons_succ, List.getElem?_cons_zero]; rfl) (fun KK hK => ?_) AllReadyH.nil
            rw [if_pos (by rfl)]
            refine wp_append_at _ _ _ 89 rfl 0 94 Try.t94 (.agg #[.int .i64 0, .slice none 0 0]) 2 32 Try.underlying89 hie rfl rfl rfl rfl (by decide) (.slice ca cn cc) (mkCls 0 (cf.take k)).length _ rfl (HOW.out wb HB2.out.1) ⟨nb, 0, none⟩ 1 1 [.int .i64 (s : Int), .slice va j vc] rfl rfl ?c1 ?c2 ?c3 ?c4 ?c5 ?_
            case c1 =>
              intro i u hu
              rw [Addr.add_lit, Nat.zero_add, cell_of_row _ _ _ _ _ _ HB2.out.2]
              simpa using hu
            case c2 =>
              intro u hu
              simp at hu
              rcases hu with rfl | rfl <;> rfl
            case c3 => unfold maxLen; omega
            case c4 => omega
            case c5 => exact Nat.zero_le _
            intro v' w6 ho6 hg6 hat
            have hpb6 : pb < wb.heap.size := Nat.lt_of_lt_of_le (heap_at HRP.out.1) HB2.out.1.size
            have hq6 : w6.heap[pb]? = some (.cells #[.slice ca cn cc, .slice (some ⟨ab, 0, none⟩) m m] 91 (0, 0)) := (hg6.block pb hpb6 (fun e => HRP.out.2 e.symm)).trans ((HB2.out.1.block pb (heap_at HRP.out.1)).trans HRP.out.1)
            have k6 : w6.cell? ⟨pb, 0, none⟩ = some (.slice ca cn cc) := heap_cell hq6 rfl
            have z6 : w6.frozen? ⟨pb, 0, none⟩ = false := heap_fz hq6
            have HCh : Hid (Chg wr (w6.setCell ⟨pb, 0, none⟩ v') pb 0 (.slice ca cn cc) v') := Chg.grown (ob := none) HB2.out.1 hg6 (heap_at HRP.out.1) HRP.out.2 hat
            have HO6 : Hid (w6.ownsRow 0 94 2 v' ((mkCls 0 (cf.take k)).length + 1) (stockCells (mkCls 0 (cf.take k)) fv ++ [.int .i64 (s : Int), .slice va j vc])) := ho6
            have HNE : Hid (v'.ownBlock ≠ some pb) := fun e => by
              rcases hat with h | h
              · exact HRP.out.2 (h ▸ e)
              · rw [h] at e
                have := Option.some.inj e
                omega
            have HR6 : Hid (w6.rangeAt mb 0 [.int .i64 (s : Int), .slice va j vc]) := fun i u hv => by
              have h0 := (HS.out wb HB2.out.1).2 i u hv
              have hw : w6.heap[mb]? = wb.heap[mb]? := hg6.block mb (World.block_lt_of_cell? _ _ h0) (fun e => HCM.out e.symm)
              unfold World.cell? at h0 ⊢
              simp only [hw]
              exact h0
            obtain ⟨ca', cn', cc', rfl⟩ := own_slice3 ho6
            clear ho6 hg6 hat hq6
            refine hK.out _ _ ?_ (fun hHeld => ?_)
            · (try dsimp only); exact HR6.out
            clear hK KK
            try simp only [Act.put, List.setIfInBounds_toArray, List.set_cons_zero, List.set_cons_succ]
            refine wpAnyH_take (i := 8) (v := ?_) (by simp only [List.getElem?_toArray, List.getElem?_cons_succ, List.getElem?_cons_zero]; rfl) (by kernel_rfl) (by kernel_rfl) (by kernel_rfl) (by intro _ _ _ h; exact h) (Or.inl ⟨by rfl, ?_⟩) (by assumption) ?_
            rotate_left
            · (intro w hSw; (try dsimp only at hSw); go_simp <;> with_reducible rfl)
            try simp only [Act.put, List.setIfInBounds_toArray, List.set_cons_zero, List.set_cons_succ]
            refine wpAnyH_take (i := 9) (v := ?_) (by simp only [List.getElem?_toArray, List.getElem?_cons_succ, List.getElem?_cons_zero]; rfl) (by kernel_rfl) (by kernel_rfl) (by kernel_rfl) (by intro _ _ _ h; exact h) (Or.inl ⟨by rfl, ?_⟩) (by assumption) ?_
            rotate_left
            · (intro w hSw; (try dsimp only at hSw); go_simp <;> with_reducible rfl)
            try simp only [Act.put, List.setIfInBounds_toArray, List.set_cons_zero, List.set_cons_succ]
            refine wpAnyH_ready (rs := [10]) (by kernel_rfl) (by simp) ?_
            refine AllReadyH.cons (by simp only [List.getElem?_toArray, List.getElem?_cons_succ, List.getElem?_cons_zero]; rfl) (fun KK hK => ?_) AllReadyH.nil
            go_simp
            have fs : Fr pb w6 (w6.setCell ⟨pb, 0, none⟩ (.slice ca' cn' cc')) := (Fr.refl pb w6).setCell
            refine hK.out _ _ ?_ (fun hHeld => ?_)
            · (try dsimp only)
              intro i u hv
              have := HR6.out i u hv
              rw [← this]
              exact fs.cell (World.block_lt_of_cell? _ _ this) (fun e => HPM.out e.symm)
            clear hK KK
            try simp only [Act.put, List.setIfInBounds_toArray, List.set_cons_zero, List.set_cons_succ]
            refine wpAnyH_done (by kernel_rfl) ?_ _
            have HX : Hid (NwK W pb ab m cf (k + 1) (w6.setCell ⟨pb, 0, none⟩ (.slice ca' cn' cc'))) := HE.out wr _ _ (Up.refl wr) HCh.out (ownsRow_block HO6.out (fun g' hg' => fs.block g' (HO6.out.lt g' hg').2 (fun e => HNE.out (e ▸ hg'))))
            have HBo := HB.out
            clear HS HE HOW HRP HPM HCh HO6 HNE HR6 HB2 HD fs k6 z6 hpb6 hHeld
            generalize World.setCell w6 _ _ = w7 at HX ⊢
            go_wp2_with fail
            refine ⟨⟨k + 1, by omega, by rw [HBo]; simp, by first | rfl | (simp; done), HX⟩, ?_⟩
            simp [intOf]
            omega
          · skip
            go_simp
            have HB2 : Hid (Up wr (wr.alloc (Obj.cells #[.int .i64 (s : Int), .slice va j vc] 94)).drew ∧ (wr.alloc (Obj.cells #[.int .i64 (s : Int), .slice va j vc] 94)).drew.heap[wr.heap.size]? = some (.cells #[.int .i64 (s : Int), .slice va j vc] 94 (0, 0))) := ⟨((Up.refl wr).alloc _).drew, heap_alloc_new wr _⟩
            generalize World.drew (World.alloc wr _) = wb at HB2 ⊢
            generalize wr.heap.size = nb at HB2 ⊢
            refine hK.out _ _ ?_ (fun hHeld => ?_)
            · (try dsimp only); exact (HS.out _ HB2.out.1).2
            clear hK KK
            try simp only [Act.put, List.setIfInBounds_toArray, List.set_cons_zero, List.set_cons_succ]
            refine wpAnyH_ready (rs := [4]) (by kernel_rfl) (by simp) ?_
            refine AllReadyH.cons (by simp only [List.getElem?_toArray, List.getElem?_cons_succ, List.getElem?_cons_zero]; rfl) (fun KK hK => ?_) AllReadyH.nil
            have kl := (HS.out _ HB2.out.1).1
            go_simp
            refine hK.out _ _ ?_ (fun hHeld => ?_)
            · (try dsimp only); exact (HS.out _ HB2.out.1).2
            clear hK KK kl
            try simp only [Act.put, List.setIfInBounds_toArray, List.set_cons_zero, List.set_cons_succ]
            refine wpAnyH_ready (rs := [7]) (by kernel_rfl) (by simp) ?_
            refine AllReadyH.cons (by simp only [List.getElem?_toArray, List.getElem?_cons_succ, List.getElem?_cons_zero]; rfl) (fun KK hK => ?_) AllReadyH.nil
            rw [if_pos (by rfl)]
            refine wp_append_at _ _ _ 89 rfl 0 94 Try.t94 (.agg #[.int .i64 0, .slice none 0 0]) 2 32 Try.underlying89 hie rfl rfl rfl rfl (by decide) (.slice ca cn cc) (mkCls 0 (cf.take k)).length _ rfl (HOW.out wb HB2.out.1) ⟨nb, 0, none⟩ 1 1 [.int .i64 (s : Int), .slice va j vc] rfl rfl ?c1 ?c2 ?c3 ?c4 ?c5 ?_
            case c1 =>
              intro i u hu
              rw [Addr.add_lit, Nat.zero_add, cell_of_row _ _ _ _ _ _ HB2.out.2]
              simpa using hu
            case c2 =>
              intro u hu
              simp at hu
              rcases hu with rfl | rfl <;> rfl
            case c3 => unfold maxLen; omega
            case c4 => omega
            case c5 => exact Nat.zero_le _
            intro v' w6 ho6 hg6 hat
            have hpb6 : pb < wb.heap.size := Nat.lt_of_lt_of_le (heap_at HRP.out.1) HB2.out.1.size
            have hq6 : w6.heap[pb]? = some (.cells #[.slice ca cn cc, .slice (some ⟨ab, 0, none⟩) m m] 91 (0, 0)) := (hg6.block pb hpb6 (fun e => HRP.out.2 e.symm)).trans ((HB2.out.1.block pb (heap_at HRP.out.1)).trans HRP.out.1)
            have k6 : w6.cell? ⟨pb, 0, none⟩ = some (.slice ca cn cc) := heap_cell hq6 rfl
            have z6 : w6.frozen? ⟨pb, 0, none⟩ = false := heap_fz hq6
            have HCh : Hid (Chg wr (w6.setCell ⟨pb, 0, none⟩ v') pb 0 (.slice ca cn cc) v') := Chg.grown (ob := none) HB2.out.1 hg6 (heap_at HRP.out.1) HRP.out.2 hat
            have HO6 : Hid (w6.ownsRow 0 94 2 v' ((mkCls 0 (cf.take k)).length + 1) (stockCells (mkCls 0 (cf.take k)) fv ++ [.int .i64 (s : Int), .slice va j vc])) := ho6
            have HNE : Hid (v'.ownBlock ≠ some pb) := fun e => by
              rcases hat with h | h
              · exact HRP.out.2 (h ▸ e)
              · rw [h] at e
                have := Option.some.inj e
                omega
            have HR6 : Hid (w6.rangeAt mb 0 [.int .i64 (s : Int), .slice va j vc]) := fun i u hv => by
              have h0 := (HS.out wb HB2.out.1).2 i u hv
              have hw : w6.heap[mb]? = wb.heap[mb]? := hg6.block mb (World.block_lt_of_cell? _ _ h0) (fun e => HCM.out e.symm)
              unfold World.cell? at h0 ⊢
              simp only [hw]
              exact h0
            obtain ⟨ca', cn', cc', rfl⟩ := own_slice3 ho6
            clear ho6 hg6 hat hq6
            refine hK.out _ _ ?_ (fun hHeld => ?_)
            · (try dsimp only); exact HR6.out
            clear hK KK
            try simp only [Act.put, List.setIfInBounds_toArray, List.set_cons_zero, List.set_cons_succ]
            refine wpAnyH_take (i := 8) (v := ?_) (by simp only [List.getElem?_toArray, List.getElem?_cons_succ, List.getElem?_cons_zero]; rfl) (by kernel_rfl) (by kernel_rfl) (by kernel_rfl) (by intro _ _ _ h; exact h) (Or.inl ⟨by rfl, ?_⟩) (by assumption) ?_
            rotate_left
            · (intro w hSw; (try dsimp only at hSw); go_simp <;> with_reducible rfl)
            try simp only [Act.put, List.setIfInBounds_toArray, List.set_cons_zero, List.set_cons_succ]
            refine wpAnyH_take (i := 9) (v := ?_) (by simp only [List.getElem?_toArray, List.getElem?_cons_succ, List.getElem?_cons_zero]; rfl) (by kernel_rfl) (by kernel_rfl) (by kernel_rfl) (by intro _ _ _ h; exact h) (Or.inl ⟨by rfl, ?_⟩) (by assumption) ?_
            rotate_left
            · (intro w hSw; (try dsimp only at hSw); go_simp <;> with_reducible rfl)
            try simp only [Act.put, List.setIfInBounds_toArray, List.set_cons_zero, List.set_cons_succ]
            refine wpAnyH_ready (rs := [10]) (by kernel_rfl) (by simp) ?_
            refine AllReadyH.cons (by simp only [List.getElem?_toArray, List.getElem?_cons_succ, List.getElem?_cons_zero]; rfl) (fun KK hK => ?_) AllReadyH.nil
            go_simp
            have fs : Fr pb w6 (w6.setCell ⟨pb, 0, none⟩ (.slice ca' cn' cc')) := (Fr.refl pb w6).setCell
            refine hK.out _ _ ?_ (fun hHeld => ?_)
            · (try dsimp only)
              intro i u hv
              have := HR6.out i u hv
              rw [← this]
              exact fs.cell (World.block_lt_of_cell? _ _ this) (fun e => HPM.out e.symm)
            clear hK KK
            try simp only [Act.put, List.setIfInBounds_toArray, List.set_cons_zero, List.set_cons_succ]
            refine wpAnyH_done (by kernel_rfl) ?_ _
            have HX : Hid (NwK W pb ab m cf (k + 1) (w6.setCell ⟨pb, 0, none⟩ (.slice ca' cn' cc'))) := HE.out wr _ _ (Up.refl wr) HCh.out (ownsRow_block HO6.out (fun g' hg' => fs.block g' (HO6.out.lt g' hg').2 (fun e => HNE.out (e ▸ hg'))))
            have HBo := HB.out
            clear HS HE HOW HRP HPM HCh HO6 HNE HR6 HB2 HD fs k6 z6 hpb6 hHeld
            generalize World.setCell w6 _ _ = w7 at HX ⊢
            go_wp2_with fail
            refine ⟨⟨k + 1, by omega, by rw [HBo]; simp, by first | rfl | (simp; done), HX⟩, ?_⟩
            simp [intOf]
            omega
    · have d1 : ¬ (k : Int) < (cf.length : Int) := by omega
      have HTk : Hid (cf.take k = cf) := List.take_of_length_le (by omega)
      have HE : Hid (PlAt K wr pb (Pl.new cf m) ∧ Up W wr) := by
        obtain ⟨R, cv, fv, h⟩ := M0.out
        rw [HTk.out] at h
        exact ⟨h.done (by rw [mkCls_len]; omega) HK.out, h.up⟩
      clear M0
      go_wp2_with fail
      go_ret2
      exact ⟨pb, by first | rfl | (simp; done), HPB.out, HE.out⟩
end Go.Proofs.Yteijdcidemajfaa
