/- Sched: Round; lists of numbers; the law's own calls. -/
import Derived.Test.YtakciepfckdpfaaScK
namespace Go.Proofs.Ytakciepfckdpfaa
open Go.RowKit
set_option linter.unusedVariables false
set_option linter.unusedSimpArgs false
variable {w w' W : World} {K K' : Nat → Prop} {sb sg sc : Nat} {rv rv' : Value} {S S' : Sd}
def nums (l : List Int) : List Value := l.map (Value.int .i64)
theorem nums_len (l : List Int) : (nums l).length = l.length := by simp [nums]
theorem nums_at {l : List Int} {j : Nat} {x : Int} (h : l[j]? = some x) : (nums l)[j]? = some (.int .i64 x) := by simp [nums, h]
theorem nums_app (l m : List Int) : nums (l ++ m) = nums l ++ nums m := by simp [nums]
theorem nums_one (l : List Int) : ∀ v ∈ nums l, v.oneCell' = true := by
  intro v hv
  obtain ⟨x, _, rfl⟩ := List.mem_map.1 hv
  rfl
/-- a list of one's own, behind all that was there in W -/
structure Nw (W w : World) (v : Value) (l : List Int) : Prop where
  own : w.ownsRow W.heap.size 3 1 v l.length (nums l)
  up : Up W w
theorem Nw.up' {v : Value} {l : List Int} (h : Nw W w v l) (u : Up w w') : Nw W w' v l := ⟨ownsRow_up h.own u, h.up.trans u⟩
theorem Nw.grow {v v' : Value} {l : List Int} {x : Int} (h : Nw W w v l) (g : w.grownBy w' v.ownBlock) (o : w'.ownsRow W.heap.size 3 1 v' (l.length + 1) (nums l ++ [.int .i64 x])) : Nw W w' v' (l ++ [x]) := by
  refine ⟨by rw [List.length_append, nums_app]; exact o, ⟨g.os.trans h.up.os, g.output.trans h.up.output, Nat.le_trans h.up.size g.size, fun b hb => (g.block b (Nat.lt_of_lt_of_le hb h.up.size) (fun e => ?_)).trans (h.up.block b hb)⟩⟩
  rcases h.own.2 with ⟨rfl, _⟩ | ⟨g', cap, cur, rfl, hb', _⟩
  · cases e
  · have e := Option.some.inj e
    have e : b = g' := e
    omega
theorem own_slice {base n : Nat} {ty : TypeId} {size : Nat} {v : Value} {xs : List Value} (h : w.ownsRow base ty size v n xs) : ∃ va vc, v = .slice va n vc ∧ n ≤ vc ∧ vc ≤ 9223372036854775807 := by
  rcases own_cases h with ⟨hv, hn, _⟩ | ⟨g, cap, hv, h1, h2, _⟩
  · exact ⟨none, 0, by rw [hv, hn], by omega, by omega⟩
  · exact ⟨_, cap, hv, h1, by unfold maxLen at h2; omega⟩
set_option maxRecDepth 100000 in
set_option maxHeartbeats 1000000 in
theorem round_any (h : SdAt K W sb S) :
    Calls Try.prog 14 #[.pointer (some ⟨sb, 0, none⟩)] W fun e w' => ∃ v, e = .returned v ∧ Nw W w' v (S.rnd.map Mem.id) := by
  obtain ⟨sg, sc, rv, h⟩ := h
  have hlen := h.len
  obtain ⟨ra, rc, hrv, c1, c2⟩ := h.rvl
  have k0 := h.k0
  have hmk : ∀ w : World, (Instr.makeSlice 35 (.int .i64 0) (.int .i64 (S.rnd.length : Int))).run Try.prog w = .ok (.slice (some ⟨w.heap.size, 0, none⟩) 0 S.rnd.length) (w.alloc (.cells (madeCells #[.int .i64 0] S.rnd.length) 3)) := fun w => by
    have := run_make (P := Try.prog) w 35 3 Try.t3 (.int .i64 0) Try.underlying35 (by kernel_rfl) rfl .i64 .i64 0 (S.rnd.length : Int) (by omega) (by omega) (by show (8 : Int) * (S.rnd.length : Int) ≤ 281474976710656; omega) (by omega)
    have e2 : Try.t3.size = 1 := rfl
    have e1 : (Value.int .i64 0).cells = #[.int .i64 0] := rfl
    rw [e1, e2, Nat.mul_one] at this
    simpa using this
  have HM : Hid (∀ w : World, w = W.alloc (.cells (madeCells #[.int .i64 0] S.rnd.length) 3) → Nw W w (.slice (some ⟨W.heap.size, 0, none⟩) 0 S.rnd.length) []) := fun w hw => by
    subst hw
    exact ⟨own_of (heap_alloc_new W _) (Nat.le_refl _) (Nat.zero_le _) (by unfold maxLen; omega) (by simp [madeCells]) rfl (fun k hk => by omega), (Up.refl W).alloc _⟩
  have HR : Hid (∀ w j l, Up W w → S.rnd[j]? = some l → ∃ g, ra = some ⟨g, 0, none⟩ ∧ w.rangeAt g (j * 2) l.cells) := fun w j l u hj => by
    have hr := (h.up u).row
    rcases own_cases hr with ⟨_, hn, _⟩ | ⟨g, cap, hv, _⟩
    · have := (List.getElem?_eq_some_iff.1 hj).1
      omega
    · rw [hrv] at hv
      injection hv with h1 h2 h3
      rw [hrv, h1] at hr
      exact ⟨g, h1, mem_range hr hj⟩
  have HK : Hid (∀ w, Up W w → w.cell? ⟨sb, 0, none⟩ = some (.slice ra S.rnd.length rc)) := fun w u => by rw [← hrv]; exact (h.up u).k0
  have hie : Try.prog.info? 3 = some Try.t3 := by kernel_rfl
  subst hrv
  have hsb := heap_at h.blk
  have hne : sb ≠ W.heap.size := by omega
  clear h
  go_enter Try.func14, Try.ntmps14
  go_wp2_with fail
  have H0 : Hid _ := HM.out _ rfl
  clear HM hmk k0 hne hsb
  generalize World.alloc W _ = W1 at H0 ⊢
  generalize W.heap.size = g0 at H0 ⊢
  have HI : Hid (∃ va vc, Value.slice (some ⟨g0, 0, none⟩) 0 S.rnd.length = .slice va 0 vc ∧ Nw W W1 (.slice va 0 vc) ((S.rnd.map Mem.id).take 0)) := ⟨_, _, rfl, by rw [List.take_zero]; exact H0.out⟩
  clear H0
  go_loopw [3, 5, 17] (fun V _ I wr => ∃ i : Nat, i ≤ S.rnd.length ∧ I = .int .i64 (i : Int) ∧ Hid (∃ va vc, V = .slice va i vc ∧ Nw W wr (.slice va i vc) ((S.rnd.map Mem.id).take i))) (fun _ _ I _ => S.rnd.length - (intOf I).toNat)
  case atStart => exact ⟨0, by omega, rfl, HI⟩
  case round =>
    clear HI
    obtain ⟨i, hi, rfl, HV⟩ := hrel
    by_cases hlt : i < S.rnd.length
    · have d1 : (i : Int) < (S.rnd.length : Int) := by omega
      obtain ⟨va, vc, hv, hN⟩ := HV.out
      have HN : Hid (Nw W wr (.slice va i vc) ((S.rnd.map Mem.id).take i)) := hN
      subst hv
      clear HV hN
      obtain ⟨⟨xi, xr⟩, hx⟩ : ∃ y, S.rnd[i]? = some y := ⟨_, List.getElem?_eq_getElem hlt⟩
      obtain ⟨g, rfl, hr⟩ := HR.out wr i _ HN.out.up hx
      have HRr : Hid (wr.rangeAt g (i * 2) [.int .i64 xi, .bool xr]) := hr
      have HX : Hid ((S.rnd.map Mem.id).take (i + 1) = (S.rnd.map Mem.id).take i ++ [xi] ∧ ((S.rnd.map Mem.id).take i).length = i) := by
        refine ⟨?_, by rw [List.length_take, List.length_map]; omega⟩
        rw [List.take_add_one, List.getElem?_map, hx]
        rfl
      clear hr hx HR HK
      have hl9 : ((S.rnd.map Mem.id).take i).length = i := HX.out.2
      have HU : Hid (∀ w, Up wr w → w.ownsRow W.heap.size 3 1 (.slice va i vc) i (nums ((S.rnd.map Mem.id).take i)) ∧ Nw W w (.slice va i vc) ((S.rnd.map Mem.id).take i) ∧ W.heap.size ≤ w.heap.size) := fun w u => by
        have := HN.out.up' u
        refine ⟨?_, this, this.up.size⟩
        have h2 := this.own
        rw [hl9] at h2
        exact h2
      have HG : Hid (∀ w w' v', Up wr w → w.grownBy w' (Value.slice va i vc).ownBlock → w'.ownsRow W.heap.size 3 1 v' (i + 1) (nums ((S.rnd.map Mem.id).take i) ++ [.int .i64 xi]) → Nw W w' v' ((S.rnd.map Mem.id).take (i + 1))) := fun w w' v' u g o => by
        rw [HX.out.1]
        exact ((HU.out w u).2.1).grow g (by rw [hl9]; exact o)
      clear HN HX hl9
      generalize (S.rnd.map Mem.id).take i = L0 at HU HG
      generalize hL1 : (S.rnd.map Mem.id).take (i + 1) = L1 at HG
      have HL1 : Hid ((S.rnd.map Mem.id).take (i + 1) = L1) := hL1
      clear hL1
      go_wp2_with (first | refine wpList_load_mid rfl 69 _ rfl g (i * 2) rfl [.int .i64 xi, .bool xr] _ HRr.out Try.underlying69 rfl (by kernel_rfl) ?_ | (at_builtin; refine wpList_append_own_at2 _ rfl _ _ 35 35 rfl W.heap.size 3 Try.t3 (.int .i64 0) 1 8 Try.underlying35 Try.underlying35 hie rfl rfl rfl rfl (by decide) _ _ _ rfl (HU.out _ (((Up.refl wr).alloc _).alloc _)).1 ⟨wr.heap.size + 1, 0, none⟩ 1 1 [.int .i64 xi] rfl rfl (by intro j u hu; rw [Addr.add_lit, Nat.zero_add]; match j, hu with | 0, hu => (simp at hu; subst hu; simp)) (by intro u hu; simp at hu; subst hu; rfl) (by unfold maxLen; omega) (by omega) (HU.out _ (((Up.refl wr).alloc _).alloc _)).2.2 ?_; intro v' w3 ho hg hat; have H3 : Hid _ := HG.out _ w3 v' (((Up.refl wr).alloc _).alloc _) hg ho; obtain ⟨va', vc', rfl, _, _⟩ := own_slice ho; clear ho hg hat HG HU))
      refine ⟨⟨i + 1, by omega, by first | rfl | (simp; done), ⟨_, _, rfl, by rw [HL1.out]; exact H3.out⟩⟩, ?_⟩
      simp [intOf]
      omega
    · have d1 : ¬ (i : Int) < (S.rnd.length : Int) := by omega
      obtain ⟨va, vc, hv, hN⟩ := HV.out
      subst hv
      have HN : Hid (Nw W wr (.slice va i vc) (S.rnd.map Mem.id)) := by rw [List.take_of_length_le (by rw [List.length_map]; omega)] at hN; exact hN
      clear HV hN
      go_wp2_with fail
      go_ret
      exact ⟨_, by first | rfl | (simp; done), HN.out⟩
end Go.Proofs.Ytakciepfckdpfaa
