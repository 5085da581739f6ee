/- Sched: Round to the cell; roles of blocks; the law's own book. -/
import Derived.Test.YtakciepfckdpfaaScY
import Derived.Deep.DeepAppendRoom
namespace Go.Proofs.Ytakciepfckdpfaa
open Go.RowKit
set_option linter.unusedVariables false
set_option linter.unusedSimpArgs false
variable {w w' W : World} {sb : Nat} {S : Sd} {K K' : Nat → Prop} {ρ ρ' : Nat → Nat} {r r' : Nat}
set_option maxRecDepth 100000 in
set_option maxHeartbeats 1000000 in
/-- Round: a list of its own, without spare room -/
theorem roundX_any (h : SdAt K W sb S) :
    Calls Try.prog 14 #[.pointer (some ⟨sb, 0, none⟩)] W fun e w' => ∃ g, e = .returned (.slice (some ⟨g, 0, none⟩) S.rnd.length S.rnd.length) ∧ Nw W w' (.slice (some ⟨g, 0, none⟩) S.rnd.length S.rnd.length) (S.rnd.map Mem.id) := by
  obtain ⟨sg, sc, rv, h⟩ := h
  have hlen := h.len
  obtain ⟨ra, rc, hrv, c1, c2⟩ := h.rvl
  have k0 := h.k0
  have hmk : ∀ w : World, (Instr.makeSlice 35 (.int .i64 0) (.int .i64 (S.rnd.length : Int))).run Try.prog w = .ok (.slice (some ⟨w.heap.size, 0, none⟩) 0 S.rnd.length) (w.alloc (.cells (madeCells #[.int .i64 0] S.rnd.length) 3)) := fun w => by
    have := run_make (P := Try.prog) w 35 3 Try.t3 (.int .i64 0) Try.underlying35 (by kernel_rfl) rfl .i64 .i64 0 (S.rnd.length : Int) (by omega) (by omega) (by show (8 : Int) * (S.rnd.length : Int) ≤ 281474976710656; omega) (by omega)
    have e2 : Try.t3.size = 1 := rfl
    have e1 : (Value.int .i64 0).cells = #[.int .i64 0] := rfl
    rw [e1, e2, Nat.mul_one] at this
    simpa using this
  have HM : Hid (∀ w : World, w = W.alloc (.cells (madeCells #[.int .i64 0] S.rnd.length) 3) → Nw W w (.slice (some ⟨W.heap.size, 0, none⟩) 0 S.rnd.length) []) := fun w hw => by
    subst hw
    exact ⟨own_of (heap_alloc_new W _) (Nat.le_refl _) (Nat.zero_le _) (by unfold maxLen; omega) (by simp [madeCells]) rfl (fun k hk => by omega), (Up.refl W).alloc _⟩
  have HR : Hid (∀ w j l, Up W w → S.rnd[j]? = some l → ∃ g, ra = some ⟨g, 0, none⟩ ∧ w.rangeAt g (j * 2) l.cells) := fun w j l u hj => by
    have hr := (h.up u).row
    rcases own_cases hr with ⟨_, hn, _⟩ | ⟨g, cap, hv, _⟩
    · have := (List.getElem?_eq_some_iff.1 hj).1
      omega
    · rw [hrv] at hv
      injection hv with h1 h2 h3
      rw [hrv, h1] at hr
      exact ⟨g, h1, mem_range hr hj⟩
  have hie : Try.prog.info? 3 = some Try.t3 := by kernel_rfl
  subst hrv
  have hsb := heap_at h.blk
  have hne : sb ≠ W.heap.size := by omega
  clear h
  go_enter Try.func14, Try.ntmps14
  go_wp2_with fail
  have H0 : Hid _ := HM.out _ rfl
  clear HM hmk k0 hne hsb
  generalize World.alloc W _ = W1 at H0 ⊢
  obtain ⟨g0, hg0⟩ : ∃ g0, g0 = W.heap.size := ⟨_, rfl⟩
  rw [← hg0] at H0 ⊢
  have HGE : Hid (W.heap.size ≤ g0) := (by omega : W.heap.size ≤ g0)
  have HI : Hid (Nw W W1 (.slice (some ⟨g0, 0, none⟩) 0 S.rnd.length) ((S.rnd.map Mem.id).take 0)) := by rw [List.take_zero]; exact H0.out
  clear H0 hg0
  go_loopw [3, 5, 17] (fun V _ I wr => ∃ i : Nat, i ≤ S.rnd.length ∧ I = .int .i64 (i : Int) ∧ V = .slice (some ⟨g0, 0, none⟩) i S.rnd.length ∧ Hid (Nw W wr (.slice (some ⟨g0, 0, none⟩) i S.rnd.length) ((S.rnd.map Mem.id).take i))) (fun _ _ I _ => S.rnd.length - (intOf I).toNat)
  case atStart => exact ⟨0, by omega, rfl, rfl, HI⟩
  case round =>
    clear HI
    obtain ⟨i, hi, rfl, rfl, HN⟩ := hrel
    by_cases hlt : i < S.rnd.length
    · have d1 : (i : Int) < (S.rnd.length : Int) := by omega
      obtain ⟨⟨xi, xr⟩, hx⟩ : ∃ y, S.rnd[i]? = some y := ⟨_, List.getElem?_eq_getElem hlt⟩
      obtain ⟨g, rfl, hr⟩ := HR.out wr i _ HN.out.up hx
      have HRr : Hid (wr.rangeAt g (i * 2) [.int .i64 xi, .bool xr]) := hr
      have hl9 : ((S.rnd.map Mem.id).take i).length = i := by rw [List.length_take, List.length_map]; omega
      have HX : Hid ((S.rnd.map Mem.id).take (i + 1) = (S.rnd.map Mem.id).take i ++ [xi]) := by
        show _ = _
        rw [List.take_add_one, List.getElem?_map, hx]
        rfl
      have HU : Hid (∀ w, Up wr w → w.ownsRow W.heap.size 3 1 (.slice (some ⟨g0, 0, none⟩) i S.rnd.length) i (nums ((S.rnd.map Mem.id).take i))) := fun w u => by
        have := (HN.out.up' u).own
        rw [hl9] at this
        exact this
      have HG : Hid (∀ w w' v', Up wr w → w.grownBy w' (some g0) → w'.ownsRow W.heap.size 3 1 v' (i + 1) (nums ((S.rnd.map Mem.id).take i) ++ [.int .i64 xi]) → Nw W w' v' ((S.rnd.map Mem.id).take (i + 1))) := fun w w' v' u g o => by
        rw [HX.out]
        exact (HN.out.up' u).grow g (by rw [hl9]; exact o)
      clear hr hx HR HN HX hl9
      generalize nums ((S.rnd.map Mem.id).take i) = L0 at HU HG
      go_wp2_with (first | refine wpList_load_mid rfl 69 _ rfl g (i * 2) rfl [.int .i64 xi, .bool xr] _ HRr.out Try.underlying69 rfl (by kernel_rfl) ?_ | (at_builtin; refine wpList_append_own_spare _ rfl _ _ 35 rfl W.heap.size 3 Try.t3 1 Try.underlying35 hie rfl g0 i S.rnd.length L0 rfl (HU.out _ (((Up.refl wr).alloc _).alloc _)) ⟨wr.heap.size + 1, 0, none⟩ 1 1 [.int .i64 xi] rfl rfl (by intro j u hu; rw [Addr.add_lit, Nat.zero_add]; match j, hu with | 0, hu => (simp at hu; subst hu; simp)) (by intro u hu; simp at hu; subst hu; rfl) (by omega) ?_; intro w3 ho hg; have H3 : Hid _ := HG.out _ w3 _ (((Up.refl wr).alloc _).alloc _) hg ho; clear ho hg HG HU))
      refine ⟨⟨i + 1, by omega, by first | rfl | (simp; done), rfl, H3⟩, ?_⟩
      simp [intOf]
      omega
    · have d1 : ¬ (i : Int) < (S.rnd.length : Int) := by omega
      have e9 : i = S.rnd.length := by omega
      have HN2 : Hid (Nw W wr (.slice (some ⟨g0, 0, none⟩) S.rnd.length S.rnd.length) (S.rnd.map Mem.id)) := by
        have := HN.out
        rw [List.take_of_length_le (by rw [List.length_map]; omega), e9] at this
        exact this
      clear HN
      subst e9
      go_wp2_with fail
      go_ret
      exact ⟨g0, by first | rfl | (simp; done), HN2.out⟩
/-- blocks that are not of a role -/
def Kr (ρ : Nat → Nat) (r : Nat) (w : World) : Nat → Prop := fun b => b < w.heap.size ∧ ρ b ≠ r
/-- new blocks are of the role r -/
def ext (ρ : Nat → Nat) (n r : Nat) : Nat → Nat := fun b => if b < n then ρ b else r
theorem ext_lt {n b : Nat} (h : b < n) : ext ρ n r b = ρ b := if_pos h
theorem ext_ge {n b : Nat} (h : n ≤ b) : ext ρ n r b = r := if_neg (by omega)
/-- nothing has changed but blocks of the role r, and there are new ones, of role r' -/
structure Ch (ρ : Nat → Nat) (r : Nat) (w w' : World) : Prop where
  os : w'.os = w.os
  output : w'.output = w.output
  size : w.heap.size ≤ w'.heap.size
  block : ∀ b, b < w.heap.size → ρ b ≠ r → w'.heap[b]? = w.heap[b]?
theorem Ch.ofFK (h : FK (Kr ρ r w) w w') : Ch ρ r w w' := ⟨h.os, h.output, h.size, fun b hb hr => h.block b hb ⟨hb, hr⟩⟩
theorem Ch.ofUp (h : Up w w') : Ch ρ r w w' := ⟨h.os, h.output, h.size, fun b hb _ => h.block b hb⟩
theorem Ch.ofFr {b : Nat} (h : Fr b w w') (hb : ρ b = r) : Ch ρ r w w' := ⟨h.os, h.output, h.size, fun c hc hr => h.block c hc (fun e => hr (e ▸ hb))⟩
theorem Ch.up (h : Ch ρ r w w') (u : Up W w) (hr : r ≠ 0) (h0 : ∀ b, b < W.heap.size → ρ b = 0) : Up W w' :=
  ⟨h.os.trans u.os, h.output.trans u.output, Nat.le_trans u.size h.size, fun b hb => (h.block b (Nat.lt_of_lt_of_le hb u.size) (by rw [h0 b hb]; exact fun e => hr e.symm)).trans (u.block b hb)⟩
/-- a thing of another role -/
theorem SdAt.other {r2 : Nat} (h : SdAt (Kr ρ r2 w) w sb S) (c : Ch ρ r w w') (n1 : r2 ≠ r) (n2 : r2 ≠ r') : SdAt (Kr (ext ρ w.heap.size r') r2 w') w' sb S := by
  obtain ⟨sg, sc, rv, h⟩ := h
  have own : ∀ b, b < w.heap.size → ¬ Kr ρ r2 w b → w'.heap[b]? = w.heap[b]? := fun b hb hk => c.block b hb (fun e => hk ⟨hb, fun e2 => n1 (e2.symm.trans e)⟩)
  have l1 := heap_at h.blk
  have l2 := h.sglt
  refine ⟨sg, sc, rv, h.keep (fun b hb => ?_) (fun b hb => hb.1) (own _ l1 (fun k => (h.kn _ k).1 rfl)) (own _ l2 (fun k => (h.kn _ k).2.1 rfl)) (fun b e => own b (own_lt h.row e) (fun k => (h.kn _ k).2.2 e))⟩
  by_cases hlt : b < w.heap.size
  · exact h.kn b ⟨hlt, fun e => hb.2 (by rw [ext_lt hlt]; exact e)⟩
  · exact ⟨by omega, by omega, fun e => by have := own_lt h.row e; omega⟩
theorem SdAt.less' (h : SdAt K' w sb S) (hk : ∀ b, K b → K' b) : SdAt K w sb S := by
  obtain ⟨sg, sc, rv, h⟩ := h
  exact ⟨sg, sc, rv, fun b hb => h.kn b (hk b hb), fun b hb => h.kb b (hk b hb), h.blk, h.slo, h.row, h.a1, h.a2, h.a3, h.len⟩
theorem SdAt.self (h : SdAt (Kr ρ r w) w' sb S) : SdAt (Kr (ext ρ w.heap.size r) r w') w' sb S := h.less' fun b hb => by
  by_cases hlt : b < w.heap.size
  · exact ⟨hlt, fun e => hb.2 (by rw [ext_lt hlt]; exact e)⟩
  · exact absurd (ext_ge (by omega)) hb.2
theorem RfAt.other {r2 : Nat} (h : RfAt (Kr ρ r2 w) w sb S) (c : Ch ρ r w w') (n1 : r2 ≠ r) (n2 : r2 ≠ r') : RfAt (Kr (ext ρ w.heap.size r') r2 w') w' sb S := by
  obtain ⟨lv, sv, h⟩ := h
  have own : ∀ b, b < w.heap.size → ¬ Kr ρ r2 w b → w'.heap[b]? = w.heap[b]? := fun b hb hk => c.block b hb (fun e => hk ⟨hb, fun e2 => n1 (e2.symm.trans e)⟩)
  have l1 := heap_at h.blk
  refine ⟨lv, sv, h.keep (fun b hb => ?_) (fun b hb => hb.1) (own _ l1 (fun k => (h.kn _ k).1 rfl)) (fun b e => own b (own_lt h.row e) (fun k => (h.kn _ k).2.1 e)) (fun b e => own b (own_lt h.slo e) (fun k => (h.kn _ k).2.2 e))⟩
  by_cases hlt : b < w.heap.size
  · exact h.kn b ⟨hlt, fun e => hb.2 (by rw [ext_lt hlt]; exact e)⟩
  · exact ⟨by omega, fun e => by have := own_lt h.row e; omega, fun e => by have := own_lt h.slo e; omega⟩
theorem RfAt.self (h : RfAt (Kr ρ r w) w' sb S) : RfAt (Kr (ext ρ w.heap.size r) r w') w' sb S := by
  obtain ⟨lv, sv, h⟩ := h
  have hk : ∀ b, Kr (ext ρ w.heap.size r) r w' b → Kr ρ r w b := fun b hb => by
    by_cases hlt : b < w.heap.size
    · exact ⟨hlt, fun e => hb.2 (by rw [ext_lt hlt]; exact e)⟩
    · exact absurd (ext_ge (by omega)) hb.2
  exact ⟨lv, sv, fun b hb => h.kn b (hk b hb), fun b hb => h.kb b (hk b hb), h.blk, h.row, h.slo, h.a1, h.a2, h.a3, h.len, h.gd⟩
/-- a row of one's own, of a role -/
structure Rw (ρ : Nat → Nat) (r : Nat) (w : World) (ty : TypeId) (size : Nat) (v : Value) (n : Nat) (xs : List Value) : Prop where
  own : w.ownsRow 0 ty size v n xs
  ro : ∀ g, v.ownBlock = some g → ρ g = r
variable {ty : TypeId} {size n : Nat} {v v' : Value} {xs ys : List Value}
theorem Rw.other {r2 : Nat} (h : Rw ρ r2 w ty size v n xs) (c : Ch ρ r w w') (n1 : r2 ≠ r) : Rw (ext ρ w.heap.size r') r2 w' ty size v n xs :=
  ⟨ownsRow_block h.own (fun g hg => c.block g (own_lt h.own hg) (by rw [h.ro g hg]; exact n1)), fun g hg => by rw [ext_lt (own_lt h.own hg)]; exact h.ro g hg⟩
theorem Rw.up (h : Rw ρ r w ty size v n xs) (u : Up w w') : Rw (ext ρ w.heap.size r') r w' ty size v n xs :=
  ⟨ownsRow_up h.own u, fun g hg => by rw [ext_lt (own_lt h.own hg)]; exact h.ro g hg⟩
theorem Rw.new {base : Nat} (h : w'.ownsRow base ty size v n xs) (hb : w.heap.size ≤ base) : Rw (ext ρ w.heap.size r) r w' ty size v n xs :=
  ⟨own_zero h, fun g hg => ext_ge (Nat.le_trans hb (h.lt g hg).1)⟩
/-- an append behind new blocks -/
theorem Rw.grow {m : Nat} {w1 : World} (h : Rw ρ r w ty size v n xs) (u : Up w w1) (g : w1.grownBy w' v.ownBlock) (o : w'.ownsRow 0 ty size v' m ys) (a : v'.ownBlock = v.ownBlock ∨ v'.ownBlock = some w1.heap.size) : Rw (ext ρ w.heap.size r) r w' ty size v' m ys ∧ Ch ρ r w w' := by
  refine ⟨⟨o, fun b hb => ?_⟩, ⟨g.os.trans u.os, g.output.trans u.output, Nat.le_trans u.size g.size, fun b hb hr => (g.block b (Nat.lt_of_lt_of_le hb u.size) (fun e => hr (h.ro b e.symm))).trans (u.block b hb)⟩⟩
  rcases a with e | e
  · rw [e] at hb
    rw [ext_lt (own_lt h.own hb)]
    exact h.ro b hb
  · rw [e] at hb
    injection hb with hb
    exact ext_ge (by have := u.size; omega)
end Go.Proofs.Ytakciepfckdpfaa
