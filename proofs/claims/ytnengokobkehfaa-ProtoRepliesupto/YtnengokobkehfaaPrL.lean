/- Proto: frames one behind the other are read: Message. -/
import Derived.Test.YtnengokobkehfaaPrK
namespace Go.Proofs.Ytnengokobkehfaa
open Go.RowKit
set_option linter.unusedVariables false
variable {w w' W : World}
/-- rows as cells -/
def mrC (rs : List (C × Value)) : List Value := rs.flatMap fun x => mC x.1 x.2
theorem mrC_snoc (rs : List (C × Value)) (x : C × Value) : mrC (rs ++ [x]) = mrC rs ++ mC x.1 x.2 := by simp [mrC]
theorem mrC_len (rs : List (C × Value)) : (mrC rs).length = rs.length * 5 := by
  induction rs with
  | nil => rfl
  | cons x r ih => simp only [mrC, List.flatMap_cons, List.length_append] at ih ⊢; rw [ih]; simp [mC]; omega
/-- rows as they lie in memory -/
structure RowsM (P : Nat → Prop) (base : Nat) (w : World) (v : Value) (rs : List (C × Value)) : Prop where
  own : w.ownsRow base 35 5 v rs.length (mrC rs)
  dat : ∀ x ∈ rs, BsP P w x.2 x.1.data.bs
theorem RowsM.up {P : Nat → Prop} {base : Nat} {v : Value} {rs : List (C × Value)} (h : RowsM P base w v rs) (u : Up w w') : RowsM P base w' v rs := ⟨ownsRow_up h.own u, fun x hx => (h.dat x hx).up u⟩
/-- what comes of reading frames -/
def DecM (T : Tab) (f : Nat → Int) (N : Nat) (W : World) (x : Ending) (w' : World) : Prop :=
  ∃ lv rs r e, x = .returned (.tuple #[lv, .int .i64 ((r : Nat) : Int), .int .i64 e]) ∧ Dec T f N 0 (rs.map (·.1)) r e ∧ RowsM (fun b => W.heap.size ≤ b ∧ lv.ownBlock ≠ some b) W.heap.size w' lv rs ∧ Up W w'
/-- one row more -/
theorem mr_push {lv lv' : Value} {rs : List (C × Value)} {c : C} {d : Value} {w1 : World} (h : RowsM (fun b => W.heap.size ≤ b ∧ lv.ownBlock ≠ some b) W.heap.size w1 lv rs) (hW : Up W w1) (hU : Up w1 w) (hd : Bs w1.heap.size w d c.data.bs) (ho : w'.ownsRow W.heap.size 35 5 lv' (rs.length + 1) (mrC rs ++ mC c d)) (hg : w.grownBy w' lv.ownBlock) (hw : lv'.ownBlock = lv.ownBlock ∨ lv'.ownBlock = some w.heap.size) :
    RowsM (fun b => W.heap.size ≤ b ∧ lv'.ownBlock ≠ some b) W.heap.size w' lv' (rs ++ [(c, d)]) ∧ Up W w' := by
  have hlt : ∀ g, lv.ownBlock = some g → W.heap.size ≤ g ∧ g < w1.heap.size := fun g hb => h.own.lt g hb
  have hk : ∀ b, (W.heap.size ≤ b ∧ lv.ownBlock ≠ some b) → b < w.heap.size → w'.heap[b]? = w.heap[b]? ∧ (W.heap.size ≤ b ∧ lv'.ownBlock ≠ some b) := by
    intro b hb hb2
    refine ⟨hg.block b hb2 (fun e => hb.2 e.symm), hb.1, ?_⟩
    rcases hw with e | e
    · rw [e]; exact hb.2
    · rw [e]; intro e'; injection e' with e'; omega
  refine ⟨⟨?_, fun x hx => ?_⟩, ⟨hg.os.trans (hU.os.trans hW.os), hg.output.trans (hU.output.trans hW.output), Nat.le_trans hW.size (Nat.le_trans hU.size hg.size), fun b hb => ?_⟩⟩
  · rw [mrC_snoc, List.length_append]
    exact ho
  · rcases List.mem_append.1 hx with hx | hx
    · exact ((h.dat x hx).up hU).keep hk
    · have e : x = (c, d) := by simpa using hx
      subst e
      exact (hd.bsp (P := fun b => W.heap.size ≤ b ∧ lv.ownBlock ≠ some b) fun b hb _ => ⟨Nat.le_trans hW.size hb, fun e => by have := hlt b e; omega⟩).keep hk
  · refine (hg.block b (Nat.lt_of_lt_of_le hb (Nat.le_trans hW.size hU.size)) (fun e => ?_)).trans ((hU.block b (Nat.lt_of_lt_of_le hb hW.size)).trans (hW.block b hb))
    have := hlt b e.symm
    omega
theorem one_mC (c : C) {d : Value} (h : d.oneCell' = true) : ∀ v ∈ mC c d, v.oneCell' = true := by
  intro v hv
  simp only [mC, List.mem_cons, List.not_mem_nil, or_false] at hv
  rcases hv with rfl | rfl | rfl | rfl | rfl <;> first | rfl | exact h
set_option maxRecDepth 100000 in
set_option maxHeartbeats 800000 in
theorem decM_any {T : Tab} {tv : Value} {g O N c : Nat} {f : Nat → Int} (W : World) (hT : TabAt W tv T) (hD : Dt W g O N f) (hc : N ≤ c) (hm : c ≤ maxLen) (hN : N ≤ 1099511627776) :
    Calls Try.prog 18 #[.slice (some ⟨g, O, none⟩) N c, tv, .func (.func 20) #[] #[]] W (DecM T f N W) := by
  have HT : Hid (TabAt W tv T) := hT
  have HD : Hid (Dt W g O N f) := hD
  have HM : Hid (c ≤ maxLen) := hm
  clear hT hD
  unfold maxLen at hm
  go_enter Try.func18, Try.ntmps18
  go_wp2_with fail
  go_loopw [9, 10] (fun lv i wr => ∃ (a : Nat) (rs : List (C × Value)), a ≤ N ∧ 5 * rs.length ≤ a ∧ i = .int .i64 a ∧ Hid (∀ l r e, Dec T f N a l r e → Dec T f N 0 (rs.map (·.1) ++ l) r e) ∧ Hid (RowsM (fun b => W.heap.size ≤ b ∧ lv.ownBlock ≠ some b) W.heap.size wr lv rs) ∧ Hid (Up W wr)) (fun _ i _ => N - (intOf i).toNat)
  case atStart => exact ⟨0, [], Nat.zero_le _, Nat.le_refl _, rfl, fun l r e h => h, ⟨World.ownsRow_nil _ _ _ _, fun x h => by cases h⟩, Up.refl W⟩
  case round =>
    obtain ⟨a, rs, ha, hmany, rfl, hI, hR, hU⟩ := hrel
    obtain ⟨la, ln, lc, hlv⟩ := own_slice3 hR.out.own
    subst hlv
    have hai : (a : Int) ≤ N := by omega
    by_cases hca : c = a
    · have eN : N = a := by omega
      subst eN
      subst hca
      have HW : Hid (Dec T f c c [] c 0) := Dec.none (Nat.le_refl _)
      have HFst : Hid (Calls Try.prog 28 #[.slice (some ⟨g, O, none⟩) 0 0] wr fun e w' => e = .returned (.tuple #[.slice none 0 0, .int .i64 0]) ∧ w' = wr) := by
        have := first_any (N := c) (a := c) (c := 0) (some ⟨g, O, none⟩) wr (HD.out.up hU.out) (Nat.le_refl _) (by omega) (by unfold maxLen; omega) (fun h => absurd h (by omega))
        rw [Nat.sub_self, fst_wait.2 (Or.inl (by omega))] at this
        exact this
      go_wp2_with fail
      refine Calls.mono HFst.out ?_
      rintro e w1 ⟨rfl, rfl⟩
      go_wp2_with fail
      go_ret3
      exact ⟨_, rs, c, 0, rfl, by have := hI.out _ _ _ HW.out; rwa [List.append_nil] at this, hR.out, hU.out⟩
    · have HFst : Hid _ := first_any (N := N) (a := a) (c := c - a) (some ⟨g, O + a, none⟩) wr (HD.out.up hU.out) ha (by omega) (by have := HM.out; omega) (fun _ => rfl)
      go_wp2_with fail
      refine Calls.mono HFst.out ?_
      cases hF : fstF f N a with
      | wait =>
        have HW : Hid (Dec T f N a [] a 0) := Dec.wait hF
        clear hF HFst
        rintro e w1 ⟨rfl, rfl⟩
        unfold FirstV
        go_wp2_with fail
        go_ret3
        exact ⟨_, rs, a, 0, rfl, by have := hI.out _ _ _ HW.out; rwa [List.append_nil] at this, hR.out, hU.out⟩
      | bad =>
        have HW : Hid (Dec T f N a [] a 121) := Dec.bad hF
        clear hF HFst
        rintro e w1 ⟨rfl, rfl⟩
        unfold FirstV
        go_wp2_with fail
        go_ret3
        exact ⟨_, rs, a, 121, rfl, by have := hI.out _ _ _ HW.out; rwa [List.append_nil] at this, hR.out, hU.out⟩
      | whole L =>
        obtain ⟨f1, f2, f3, f4⟩ := fst_whole.1 hF
        have HFF : Hid (fstF f N a = .whole L) := hF
        have hL0 : ¬ ((L : Nat) : Int) = 0 := by omega
        have hL1 : ¬ L = 0 := by omega
        have hLi : ((L : Nat) : Int) ≤ 262400 := by omega
        clear hF HFst f4
        rintro e w1 ⟨rfl, rfl⟩
        unfold FirstV
        have HCt : Hid _ := contentOf_any (T := T) (tv := tv) (g := g) (O := O) (o := a + 4) (n := L) (cp := c - a - 4) (f := f) W w1 HT.out hU.out ((HD.out.up hU.out).le (by omega)) (by omega) (by omega) (by have := HM.out; omega)
        go_wp2_with fail
        refine Calls.mono HCt.out ?_
        cases hP : parseF T f (a + 4) L with
        | error x =>
          have HW : Hid (Dec T f N a [] a x) := Dec.wrong HFF.out hP
          have hx0 : ¬ x = 0 := by have := parse_err hP; omega
          clear hP HCt
          rintro e w2 ⟨rfl, hU2⟩
          have HU2 : Hid (Up W w2) := hU.out.trans hU2
          have HR2 : Hid _ := hR.out.up hU2
          clear hU2
          go_wp2_with (refine wpList_store_rowTo rfl 63 _ _ rfl rfl w2.heap.size (cCells (C0 0) u0) rfl rfl 63 _ (heap_alloc_new w2 _) (by kernel_rfl) rfl (cCells_one _ (fun _ => rfl)) ?_)
          go_ret3
          have u3 : ∀ old, Up w2 ((w2.alloc (.cells old 63)).setRow w2.heap.size (cCells (C0 0) u0)) := fun old => ((Up.refl w2).alloc _).setRow (Nat.le_refl _) _
          exact ⟨_, rs, a, x, rfl, by have := hI.out _ _ _ HW.out; rwa [List.append_nil] at this, HR2.out.up (u3 _), HU2.out.trans (u3 _)⟩
        | ok cc =>
          have HW : Hid (∀ l r e, Dec T f N (a + 4 + L) l r e → Dec T f N a (cc :: l) r e) := fun l r e h => Dec.step HFF.out hP h
          clear hP HCt
          rintro e w2 ⟨⟨u, rfl, hB⟩, hU2⟩
          have HU2 : Hid (Up W w2) := hU.out.trans hU2
          have HU21 : Hid (Up w1 w2) := hU2
          have HB : Hid (BsC w1.heap.size w2 u cc) := hB
          clear hU2 hB
          have HW3 : Hid (∀ old, ((w2.alloc (.cells old 63)).setRow w2.heap.size (cCells cc u)).heap[w2.heap.size]? = some (.cells (cCells cc u) 63 (0, 0)) ∧ Up w2 ((w2.alloc (.cells old 63)).setRow w2.heap.size (cCells cc u))) := fun old => ⟨setRow_heap _ _ _ _ _ _ (heap_alloc_new w2 _), ((Up.refl w2).alloc _).setRow (Nat.le_refl _) _⟩
          have HRB : Hid (∀ w3 : World, w3.heap[w2.heap.size]? = some (.cells (cCells cc u) 63 (0, 0)) → w3.rangeAt w2.heap.size 0 (cCells cc u).toList) := fun w3 h3 => range_heap h3
          go_wp2_with (first
            | (refine wpList_store_rowTo rfl 63 _ _ rfl rfl w2.heap.size (cCells cc u) rfl rfl 63 _ (heap_alloc_new w2 _) (by kernel_rfl) rfl (cCells_one _ HB.out.one) ?_
               have hq := HW3.out #[.int .i64 0, .int .i64 0, .slice none 0 0, .int .i64 0, .slice none 0 0, .int .i64 0, .slice none 0 0, .int .i64 0, .slice none 0 0, .int .i64 0, .slice none 0 0]
               generalize World.setRow _ _ _ = w3 at hq ⊢
               have HRg : Hid (w3.rangeAt w2.heap.size 0 (cCells cc u).toList) := HRB.out w3 hq.1
               have HU3 : Hid (Up w2 w3) := hq.2
               clear hq)
            | (refine wpList_load_mid rfl 63 _ rfl w2.heap.size 0 rfl (cCells cc u).toList _ HRg.out Try.underlying63 rfl (by kernel_rfl) ?_))
          refine (messageOf_any w3 (HB.out.up HU3.out)).mono ?_
          rintro e w4 ⟨rfl, hU4⟩
          obtain ⟨da, dg, do_, dc, hd, _⟩ := (HB.out .data).ex
          have HBd : Hid (Bs w1.heap.size w4 (u .data) cc.data.bs) := (HB.out .data).up (HU3.out.trans hU4)
          have HU4 : Hid (Up w1 w4) := HU21.out.trans (HU3.out.trans hU4)
          rw [hd] at HBd ⊢
          generalize (cc.get .data).bs.length = dl at *
          have HOw : Hid (∀ o, (w4.alloc o).ownsRow W.heap.size 35 5 (.slice la ln lc) rs.length (mrC rs)) := fun o => (hR.out.up (HU4.out.alloc o)).own
          have HX : Hid (∀ j v, (mC cc (.slice da dl dc))[j]? = some v → (w4.alloc (.cells (mC cc (.slice da dl dc)).toArray 35)).cell? ((⟨w4.heap.size, 0, none⟩ : Addr).add j) = some v) := fun j v hj => by
            rw [addr_add, Nat.zero_add]
            refine heap_cell (heap_alloc_new w4 _) ?_
            simpa using hj
          have HPU : Hid (∀ lv' w', w'.ownsRow W.heap.size 35 5 lv' (rs.length + 1) (mrC rs ++ mC cc (.slice da dl dc)) → (w4.alloc (.cells (mC cc (.slice da dl dc)).toArray 35)).grownBy w' (Value.slice la ln lc).ownBlock → (lv'.ownBlock = (Value.slice la ln lc).ownBlock ∨ lv'.ownBlock = some (w4.alloc (.cells (mC cc (.slice da dl dc)).toArray 35)).heap.size) → RowsM (fun b => W.heap.size ≤ b ∧ lv'.ownBlock ≠ some b) W.heap.size w' lv' (rs ++ [(cc, .slice da dl dc)]) ∧ Up W w') := fun lv' w' ho hg hw => mr_push hR.out hU.out (HU4.out.alloc _) (HBd.out.up ((Up.refl w4).alloc _)) ho hg hw
          have HOne : Hid (∀ v ∈ mC cc (.slice da dl dc), v.oneCell' = true) := one_mC cc rfl
          clear hU4 hd HRB HW3 HRg HU3 HB
          unfold mC at *
          go_wp2_with (first
            | (refine wpList_append_own_at2 _ rfl _ _ 27 27 rfl W.heap.size 35 Try.t35 _ 5 64 Try.underlying27 Try.underlying27 (by kernel_rfl) rfl rfl rfl rfl (by decide) (.slice la ln lc) rs.length (mrC rs) rfl (HOw.out _) ⟨w4.heap.size, 0, none⟩ 1 1 _ rfl (by simp) HX.out HOne.out (by unfold maxLen; omega) (by omega) (by have := hU.out.size; have := HU4.out.size; simp; omega) (fun v' w' ho hg hw => ?_)
               have HN : Hid _ := HPU.out v' w' ho hg hw
               clear ho hg hw))
          go_roundw
          case rel =>
            refine ⟨a + 4 + L, rs ++ [(cc, Value.slice da dl dc)], by omega, by simp; omega, by go_num, fun l r e h => ?_, ?_, ?_⟩
            · have := hI.out _ _ _ (HW.out _ _ _ h)
              simpa using this
            · exact HN.out.1
            · exact HN.out.2
          case measure =>
            simp [intOf]
            omega
end Go.Proofs.Ytnengokobkehfaa
