/- Sched: the document's own answer: without, Round, New. -/
import Derived.Test.YtakciepfckdpfaaScT
namespace Go.Proofs.Ytakciepfckdpfaa
open Go.RowKit
set_option linter.unusedVariables false
set_option linter.unusedSimpArgs false
variable {w w' W : World} {K K' : Nat → Prop} {yb : Nat} {lv lv' sv sv' : Value} {S S' : Sd}
/-- a row of entries of one's own, behind all that was there in W -/
structure NwM (W w : World) (v : Value) (l : List Mem) : Prop where
  own : w.ownsRow W.heap.size 85 2 v l.length (memCells l)
  up : Up W w
theorem NwM.up' {v : Value} {l : List Mem} (h : NwM W w v l) (u : Up w w') : NwM W w' v l := ⟨ownsRow_up h.own u, h.up.trans u⟩
theorem NwM.grow {v v' : Value} {l : List Mem} {x : Mem} (h : NwM W w v l) (g : w.grownBy w' v.ownBlock) (o : w'.ownsRow W.heap.size 85 2 v' (l.length + 1) (memCells l ++ x.cells)) : NwM W w' v' (l ++ [x]) := by
  refine ⟨by rw [List.length_append, memCells_app]; simpa [memCells] using o, ⟨g.os.trans h.up.os, g.output.trans h.up.output, Nat.le_trans h.up.size g.size, fun b hb => (g.block b (Nat.lt_of_lt_of_le hb h.up.size) (fun e => ?_)).trans (h.up.block b hb)⟩⟩
  rcases h.own.2 with ⟨rfl, _⟩ | ⟨g', cap, cur, rfl, hb', _⟩
  · cases e
  · have e := Option.some.inj e
    have e : b = g' := e
    omega
theorem erase_step {l : List Mem} {i k : Nat} {x : Mem} (hx : l[i]? = some x) : (l.take (i + 1)).eraseIdx k = if i = k then (l.take i).eraseIdx k else (l.take i).eraseIdx k ++ [x] := by
  have hil := (List.getElem?_eq_some_iff.1 hx).1
  have e : l.take (i + 1) = l.take i ++ [x] := by rw [List.take_add_one, hx]; rfl
  have hl : (l.take i).length = i := by rw [List.length_take]; omega
  rw [e]
  by_cases h : i = k
  · subst h
    have e2 : (l.take i).eraseIdx i = l.take i := List.eraseIdx_of_length_le (by omega)
    rw [if_pos rfl, List.eraseIdx_append_of_length_le (by omega), hl, Nat.sub_self, e2]
    exact List.append_nil _
  · rw [if_neg h]
    by_cases h2 : k < i
    · rw [List.eraseIdx_append_of_lt_length (by omega)]
    · rw [List.eraseIdx_of_length_le (by rw [List.length_append, hl]; simp; omega), List.eraseIdx_of_length_le (by omega)]
set_option maxRecDepth 100000 in
set_option maxHeartbeats 1000000 in
theorem without_any (h : RfR K W yb lv sv S) {k : Nat} (hk : k < S.rnd.length) :
    Calls Try.prog 43 #[.pointer (some ⟨yb, 0, none⟩), .int .i64 (k : Int)] W fun e w' => ∃ v, e = .returned v ∧ NwM W w' v (S.rnd.eraseIdx k) := by
  obtain ⟨va, vc, hv, c1, c2⟩ := own_slice h.row
  have HK : Hid (∀ w, Up W w → w.cell? ⟨yb, 0, none⟩ = some (.slice va S.rnd.length vc)) := fun w u => by rw [← hv]; exact (h.up u).k0
  have HR : Hid (∀ w j l, Up W w → S.rnd[j]? = some l → ∃ g, va = some ⟨g, 0, none⟩ ∧ w.rangeAt g (j * 2) l.cells) := fun w j l u hj => by
    have hr := (h.up u).row
    rcases own_cases hr with ⟨_, hn, _⟩ | ⟨g, cap, hv2, _⟩
    · have := (List.getElem?_eq_some_iff.1 hj).1
      omega
    · rw [hv2] at hr hv
      injection hv with e1
      exact ⟨g, e1.symm, mem_range hr hj⟩
  have hlen := h.len
  have hie : Try.prog.info? 85 = some Try.t85 := by kernel_rfl
  have H0 : Hid (∃ va vn vc, Value.slice none 0 0 = .slice va vn vc ∧ NwM W W (.slice va vn vc) ((S.rnd.take 0).eraseIdx k)) := ⟨_, _, _, rfl, by rw [List.take_zero]; exact ⟨⟨rfl, Or.inl ⟨rfl, rfl⟩⟩, Up.refl W⟩⟩
  clear h hv
  go_enter Try.func43, Try.ntmps43
  go_wp2_with fail
  go_loopw [5, 6] (fun V I wr => ∃ i : Nat, i ≤ S.rnd.length ∧ I = .int .i64 (i : Int) ∧ Hid (∃ va vn vc, V = .slice va vn vc ∧ NwM W wr (.slice va vn vc) ((S.rnd.take i).eraseIdx k))) (fun _ I _ => S.rnd.length - (intOf I).toNat)
  case atStart => exact ⟨0, by omega, rfl, H0⟩
  case round =>
    clear H0
    obtain ⟨i, hi, rfl, HV⟩ := hrel
    obtain ⟨xa, xn, xc, hx, hN⟩ := HV.out
    subst hx
    have HN : Hid (NwM W wr (.slice xa xn xc) ((S.rnd.take i).eraseIdx k)) := hN
    have k0 := HK.out wr hN.up
    clear HV hN
    by_cases hlt : i < S.rnd.length
    · have d1 : (i : Int) < (S.rnd.length : Int) := by omega
      obtain ⟨l, hl⟩ : ∃ l, S.rnd[i]? = some l := ⟨_, List.getElem?_eq_getElem hlt⟩
      have HE : Hid _ := erase_step (k := k) hl
      by_cases hik : i = k
      · have b1 : ((i : Int) == (k : Int)) = true := by simp [hik]
        have HF : Hid (NwM W wr (.slice xa xn xc) ((S.rnd.take (i + 1)).eraseIdx k)) := by rw [HE.out, if_pos hik]; exact HN.out
        clear HN HE HR hl HK
        subst hik
        have b2 : ((i : Int) == (i : Int)) = true := by simp
        go_wp2_with fail
        refine ⟨⟨i + 1, by omega, by first | rfl | (simp; done), ⟨_, _, _, rfl, HF.out⟩⟩, ?_⟩
        simp [intOf]
        omega
      · have b1 : ((i : Int) == (k : Int)) = false := by simp; omega
        obtain ⟨g, rfl, hr⟩ := HR.out wr i l HN.out.up hl
        have HRr : Hid _ := hr
        obtain ⟨xi, xr⟩ := l
        have hle : ((S.rnd.take i).eraseIdx k).length ≤ 64 := by
          have := List.length_eraseIdx_le (S.rnd.take i) k
          rw [List.length_take] at this
          omega
        have HG : Hid (∀ w w' v', Up wr w → w.grownBy w' (Value.slice xa xn xc).ownBlock → w'.ownsRow W.heap.size 85 2 v' (((S.rnd.take i).eraseIdx k).length + 1) (memCells ((S.rnd.take i).eraseIdx k) ++ [.int .i64 xi, .bool xr]) → NwM W w' v' ((S.rnd.take (i + 1)).eraseIdx k)) := fun w w' v' u g o => by
          rw [HE.out, if_neg hik]
          exact (HN.out.up' u).grow g o
        have HU : Hid (∀ w, Up wr w → w.ownsRow W.heap.size 85 2 (.slice xa xn xc) ((S.rnd.take i).eraseIdx k).length (memCells ((S.rnd.take i).eraseIdx k)) ∧ W.heap.size ≤ w.heap.size) := fun w u => ⟨(HN.out.up' u).own, (HN.out.up' u).up.size⟩
        clear HN HE HR hl HK hr
        generalize memCells ((S.rnd.take i).eraseIdx k) = L0 at HG HU
        generalize ((S.rnd.take i).eraseIdx k).length = n0 at HG HU hle
        go_wp2_with (first | refine wpList_load_mid rfl 85 _ rfl g (i * 2) rfl [.int .i64 xi, .bool xr] _ HRr.out Try.underlying85 rfl (by kernel_rfl) ?_ | (at_builtin; refine wpList_append_own_at2 _ rfl _ _ 80 80 rfl W.heap.size 85 Try.t85 (.agg #[.int .i64 0, .bool false]) 2 16 Try.underlying80 Try.underlying80 hie rfl rfl rfl rfl (by decide) _ _ _ rfl (HU.out _ ((Up.refl wr).alloc _)).1 ⟨wr.heap.size, 0, none⟩ 1 1 [.int .i64 xi, .bool xr] rfl rfl (by intro j u hu; rw [Addr.add_lit, Nat.zero_add, cell_of_row _ _ _ _ _ _ (heap_alloc_new wr _)]; simpa using hu) (by intro u hu; simp at hu; rcases hu with rfl | rfl <;> rfl) (by unfold maxLen; omega) (by omega) (HU.out _ ((Up.refl wr).alloc _)).2 ?_; intro v' w3 ho hg hat; have H3 : Hid _ := HG.out _ w3 v' ((Up.refl wr).alloc _) hg ho; obtain ⟨va', vn', vc', rfl⟩ := own_slice3 ho; clear ho hg hat HG HU))
        refine ⟨⟨i + 1, by omega, by first | rfl | (simp; done), ⟨_, _, _, rfl, H3.out⟩⟩, ?_⟩
        simp [intOf]
        omega
    · have d1 : ¬ (i : Int) < (S.rnd.length : Int) := by omega
      have HF : Hid (NwM W wr (.slice xa xn xc) (S.rnd.eraseIdx k)) := by
        have := HN.out
        rw [List.take_of_length_le (by omega)] at this
        exact this
      clear HN HK HR
      go_wp2_with fail
      go_ret
      exact ⟨_, by first | rfl | (simp; done), HF.out⟩
set_option maxRecDepth 100000 in
set_option maxHeartbeats 1000000 in
theorem roundR_any (h : RfR K W yb lv sv S) :
    Calls Try.prog 36 #[.pointer (some ⟨yb, 0, none⟩)] W fun e w' => ∃ v, e = .returned v ∧ Nw W w' v (S.rnd.map Mem.id) := by
  obtain ⟨va, vc, hv, c1, c2⟩ := own_slice h.row
  have HK : Hid (∀ w, Up W w → w.cell? ⟨yb, 0, none⟩ = some (.slice va S.rnd.length vc)) := fun w u => by rw [← hv]; exact (h.up u).k0
  have HR : Hid (∀ w j l, Up W w → S.rnd[j]? = some l → ∃ g, va = some ⟨g, 0, none⟩ ∧ w.cell? ⟨g, j * 2, none⟩ = some (.int .i64 l.id)) := fun w j l u hj => by
    have hr := (h.up u).row
    rcases own_cases hr with ⟨_, hn, _⟩ | ⟨g, cap, hv2, _⟩
    · have := (List.getElem?_eq_some_iff.1 hj).1
      omega
    · rw [hv2] at hr hv
      injection hv with e1
      exact ⟨g, e1.symm, mem_range hr hj 0 _ rfl⟩
  have hlen := h.len
  have hie : Try.prog.info? 3 = some Try.t3 := by kernel_rfl
  have H0 : Hid (∃ va vn vc, Value.slice none 0 0 = .slice va vn vc ∧ Nw W W (.slice va vn vc) ((S.rnd.map Mem.id).take 0)) := ⟨_, _, _, rfl, by rw [List.take_zero]; exact ⟨⟨rfl, Or.inl ⟨rfl, rfl⟩⟩, Up.refl W⟩⟩
  clear h hv
  go_enter Try.func36, Try.ntmps36
  go_wp2_with fail
  go_loopw [3, 4] (fun V I wr => ∃ i : Nat, i ≤ S.rnd.length ∧ I = .int .i64 (i : Int) ∧ Hid (∃ va vn vc, V = .slice va vn vc ∧ Nw W wr (.slice va vn vc) ((S.rnd.map Mem.id).take i))) (fun _ I _ => S.rnd.length - (intOf I).toNat)
  case atStart => exact ⟨0, by omega, rfl, H0⟩
  case round =>
    clear H0
    obtain ⟨i, hi, rfl, HV⟩ := hrel
    obtain ⟨xa, xn, xc, hx, hN⟩ := HV.out
    subst hx
    have HN : Hid (Nw W wr (.slice xa xn xc) ((S.rnd.map Mem.id).take i)) := hN
    have k0 := HK.out wr hN.up
    clear HV hN
    by_cases hlt : i < S.rnd.length
    · have d1 : (i : Int) < (S.rnd.length : Int) := by omega
      obtain ⟨⟨xi, xr⟩, hl⟩ : ∃ l, S.rnd[i]? = some l := ⟨_, List.getElem?_eq_getElem hlt⟩
      obtain ⟨g, rfl, kr⟩ := HR.out wr i _ HN.out.up hl
      have hl9 : ((S.rnd.map Mem.id).take i).length = i := by rw [List.length_take, List.length_map]; omega
      have HX : Hid ((S.rnd.map Mem.id).take (i + 1) = (S.rnd.map Mem.id).take i ++ [xi]) := by
        show _ = _
        rw [List.take_add_one, List.getElem?_map, hl]
        rfl
      have HG : Hid (∀ w w' v', Up wr w → w.grownBy w' (Value.slice xa xn xc).ownBlock → w'.ownsRow W.heap.size 3 1 v' (i + 1) (nums ((S.rnd.map Mem.id).take i) ++ [.int .i64 xi]) → Nw W w' v' ((S.rnd.map Mem.id).take (i + 1))) := fun w w' v' u g o => by
        rw [HX.out]
        exact (HN.out.up' u).grow g (by rw [hl9]; exact o)
      have HU : Hid (∀ w, Up wr w → w.ownsRow W.heap.size 3 1 (.slice xa xn xc) i (nums ((S.rnd.map Mem.id).take i)) ∧ W.heap.size ≤ w.heap.size) := fun w u => by
        have := HN.out.up' u
        have h2 := this.own
        rw [hl9] at h2
        exact ⟨h2, this.up.size⟩
      clear HN HX HR hl HK hl9
      dsimp only at kr
      generalize nums ((S.rnd.map Mem.id).take i) = L0 at HG HU
      go_wp2_with (at_builtin; refine wpList_append_own_at2 _ rfl _ _ 35 35 rfl W.heap.size 3 Try.t3 (.int .i64 0) 1 8 Try.underlying35 Try.underlying35 hie rfl rfl rfl rfl (by decide) _ _ _ rfl (HU.out _ ((Up.refl wr).alloc _)).1 ⟨wr.heap.size, 0, none⟩ 1 1 [.int .i64 xi] rfl rfl (cell_one_new _ _ _) (by intro u hu; simp at hu; subst hu; rfl) (by unfold maxLen; omega) (by omega) (HU.out _ ((Up.refl wr).alloc _)).2 ?_; intro v' w3 ho hg hat; have H3 : Hid _ := HG.out _ w3 v' ((Up.refl wr).alloc _) hg ho; obtain ⟨va', vn', vc', rfl⟩ := own_slice3 ho; clear ho hg hat HG HU)
      refine ⟨⟨i + 1, by omega, by first | rfl | (simp; done), ⟨_, _, _, rfl, H3.out⟩⟩, ?_⟩
      simp [intOf]
      omega
    · have d1 : ¬ (i : Int) < (S.rnd.length : Int) := by omega
      have HF : Hid (Nw W wr (.slice xa xn xc) (S.rnd.map Mem.id)) := by
        have := HN.out
        rw [List.take_of_length_le (by rw [List.length_map]; omega)] at this
        exact this
      clear HN HK HR
      go_wp2_with fail
      go_ret
      exact ⟨_, by first | rfl | (simp; done), HF.out⟩
end Go.Proofs.Ytakciepfckdpfaa
