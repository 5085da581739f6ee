/- Proto: reading a list; parts and kinds as they lie in memory. -/
import Derived.Test.YtnengokobkehfaaPrE
namespace Go.Proofs.Ytnengokobkehfaa
open Go.RowKit
set_option linter.unusedVariables false
variable {w w' W : World}
theorem addr_add (g o k : Nat) : (⟨g, o, none⟩ : Addr).add k = ⟨g, o + k, none⟩ := by
  unfold Addr.add
  by_cases h : k = 0 <;> simp [h]
theorem run_num (x : Int) (s : Value) (w : World) : (Instr.field 59 (.agg #[.int .i64 x, s]) 0).run Try.prog w = .ok (.int .i64 x) w := by
  kernel_rfl
set_option maxRecDepth 100000 in
set_option maxHeartbeats 400000 in
theorem list_ok {rb g O o e x : Nat} {f : Nat → Int} (wd : Nat) (h4 : wd ≤ 4) (h1 : 1 ≤ wd) (hx : num f o wd = x) (hm : o + wd + x ≤ e) (w : World) (h : Rs w rb g O o e f) :
    Calls Try.prog 34 #[.pointer (some ⟨rb, 0, none⟩), .int .i64 wd] w fun r w' => ∃ v, r = .returned (.agg #[.int .i64 x, v]) ∧ Bs w.heap.size w' v (bl f (o + wd) x) ∧ Rs w' rb g O (o + wd + x) e f ∧ Fr rb w w' := by
  have HH : Hid (Rs w rb g O o e f) := h
  have HL : Hid (rb < w.heap.size) := let ⟨c, hc⟩ := h.rd; hc.lt
  have HX : Hid (num f o wd = x) := hx
  have HX4 : Hid (x < 4294967296) := by have := num_hi4 h.dt.u8 o wd h4; show _ < _; omega
  have hrn := run_num
  clear h hx
  go_enter Try.func34, Try.ntmps34
  go_wp2_with fail
  refine (number_ok (o := o) (e := e) wd h4 h1 (by omega) _ (by exact HH.out.up ((Up.refl w).alloc _))).mono ?_
  rintro e1 w1 ⟨rfl, hR, hF⟩
  rw [HX.out]
  have hs1 : w.heap.size < w1.heap.size := by have := hF.size; simp at this; omega
  have HB : Hid (w1.heap[w.heap.size]? = some (.cells #[.int .i64 0, .slice none 0 0] 59 (0, 0))) := (hF.block _ (by simp) (by have := HL.out; omega)).trans (heap_alloc_new w _)
  have HF : Hid (Fr rb w w1) := (Fr.ofUp ((Up.refl w).alloc _)).trans hF
  obtain ⟨c, hc⟩ := hR.rd
  have HC : Hid (Rdr w1 rb g (O + (o + wd)) (e - (o + wd)) c) := hc
  have HN : Hid (g ≠ rb) := hR.ne
  clear hR hF hc
  go_wp2_with fail
  refine (take_ok (g := g) (o := O + (o + wd)) (n := e - (o + wd)) (c := c) x (by omega) _ HC.out).mono ?_
  rintro e2 w2 ⟨p, rfl, hp, hR2, hF2⟩
  have HF2 : Hid (Fr rb w w2) := HF.out.trans hF2
  have HB2 : Hid (w2.heap[w.heap.size]? = some (.cells #[.int .i64 0, .slice none 0 0] 59 (0, 0))) := (hF2.block _ hs1 (by have := HL.out; omega)).trans HB.out
  have HD2 : Hid (Dt w2 g O e f) := HH.out.dt.fr HF2.out HN.out
  have HR2 : Hid (Rdr w2 rb g (O + (o + wd + x)) (e - (o + wd + x)) (c - x)) := by
    have := hR2
    rw [Nat.add_assoc, Nat.sub_sub] at this
    exact this
  have hs2 : w.heap.size < w2.heap.size := Nat.lt_of_lt_of_le hs1 hF2.size
  have HP : Hid (0 < x → p = O + (o + wd)) := hp
  clear hp hR2 hF2
  go_wp2_with fail
  refine (copyOf_any ⟨g, p, none⟩ x c (bl f (o + wd) x) (bl_len _ _ _) (bl_u8 HH.out.dt.u8 _ _) (by have := HX4.out; omega) w2 (fun k y hk => ?_)).mono ?_
  · have hkx : k < x := by have := (List.getElem?_eq_some_iff.1 hk).1; rwa [bl_len] at this
    rw [bl_at hkx] at hk
    injection hk with hk
    rw [← hk, HP.out (by omega)]
    have := HD2.out.cell (o + wd + k) (by omega)
    rw [show O + (o + wd + k) = O + (o + wd) + k by omega] at this
    rw [addr_add]
    exact this
  · rintro e3 w3 ⟨v, rfl, hO, hU⟩
    rw [bl_len] at hO
    have hv : ∃ a c', v = .slice a x c' := by
      rcases own_cases hO with ⟨hv, hn, _⟩ | ⟨g', cap, hv, _⟩
      · exact ⟨none, 0, by rw [hv, hn]⟩
      · exact ⟨_, _, hv⟩
    obtain ⟨a, c', rfl⟩ := hv
    have HBs : Hid (Bs w2.heap.size w3 (.slice a x c') (bl f (o + wd) x)) := Bs.of_own (by rw [bl_len]; exact hO) (Nat.le_refl _) (bl_u8 HH.out.dt.u8 _ _)
    have HU : Hid (Up w2 w3) := hU
    clear hO hU
    go_wp2_with fail
    refine (listValue_any _ _ _ _).mono ?_
    rintro e4 w4 ⟨rfl, hU4⟩
    have HU4 : Hid (Up w2 w4) := HU.out.trans hU4
    have HBs4 : Hid (Bs w2.heap.size w4 (.slice a x c') (bl f (o + wd) x)) := HBs.out.up hU4
    have HB4 : Hid (w4.heap[w.heap.size]? = some (.cells #[.int .i64 0, .slice none 0 0] 59 (0, 0))) := (HU4.out.block _ hs2).trans HB2.out
    clear hU4
    go_wp2_with (refine wpList_store_rowTo rfl 59 _ _ rfl rfl w.heap.size #[.int .i64 x, .slice a x c'] rfl rfl 59 _ HB4.out (by kernel_rfl) rfl (by simp [Value.oneCell']) ?_)
    have hFF : Fr rb w (w4.setRow w.heap.size #[.int .i64 x, .slice a x c']) := (HF2.out.trans (Fr.ofUp HU4.out)).setNew (Nat.le_refl _)
    refine bodyPost_ret (results_row rfl _ _ w.heap.size 59 #[.int .i64 x, .slice a x c'] (0, 0) _ rfl (setRow_heap _ _ _ _ _ _ HB4.out) Try.underlying59 (by kernel_rfl) (by kernel_rfl)) rfl ⟨_, rfl, ?_, ⟨⟨_, (HR2.out.up HU4.out).of_block (setRow_other _ _ _ _ (by have := HL.out; omega))⟩, HH.out.dt.fr hFF HH.out.ne, hm, HH.out.ne⟩, hFF⟩
    exact (HBs4.out.keep fun b hb _ => setRow_other _ _ _ _ (by omega)).mono (by omega)
set_option maxRecDepth 100000 in
set_option maxHeartbeats 400000 in
theorem list_no1 {rb g O o e : Nat} {f : Nat → Int} (wd : Nat) (hm : e < o + wd) (w : World) (h : Rs w rb g O o e f) :
    Calls Try.prog 34 #[.pointer (some ⟨rb, 0, none⟩), .int .i64 wd] w fun r w' => r = .panicked (gaveV 121) ∧ Fr rb w w' := by
  have HH : Hid (Rs w rb g O o e f) := h
  clear h
  go_enter Try.func34, Try.ntmps34
  go_wp2_with fail
  refine (number_no (o := o) (e := e) wd hm _ (by exact HH.out.up ((Up.refl w).alloc _))).mono ?_
  rintro e1 w1 ⟨rfl, hU⟩
  go_wp2
  exact ⟨rfl, rfl, Fr.ofUp (((Up.refl w).alloc _).trans hU)⟩
set_option maxRecDepth 100000 in
set_option maxHeartbeats 400000 in
theorem list_no2 {rb g O o e x : Nat} {f : Nat → Int} (wd : Nat) (h4 : wd ≤ 4) (h1 : 1 ≤ wd) (hx : num f o wd = x) (hm : o + wd ≤ e) (hm2 : e < o + wd + x) (w : World) (h : Rs w rb g O o e f) :
    Calls Try.prog 34 #[.pointer (some ⟨rb, 0, none⟩), .int .i64 wd] w fun r w' => r = .panicked (gaveV 121) ∧ Fr rb w w' := by
  have HH : Hid (Rs w rb g O o e f) := h
  have HX : Hid (num f o wd = x) := hx
  have hrn := run_num
  clear h hx
  go_enter Try.func34, Try.ntmps34
  go_wp2_with fail
  refine (number_ok (o := o) (e := e) wd h4 h1 hm _ (by exact HH.out.up ((Up.refl w).alloc _))).mono ?_
  rintro e1 w1 ⟨rfl, hR, hF⟩
  rw [HX.out]
  have HF : Hid (Fr rb w w1) := (Fr.ofUp ((Up.refl w).alloc _)).trans hF
  obtain ⟨c, hc⟩ := hR.rd
  have HC : Hid (Rdr w1 rb g (O + (o + wd)) (e - (o + wd)) c) := hc
  clear hR hF hc
  go_wp2_with fail
  refine (take_no (g := g) (o := O + (o + wd)) (n := e - (o + wd)) (c := c) x (by omega) _ HC.out).mono ?_
  rintro e2 w2 ⟨rfl, hw⟩
  subst hw
  go_wp2
  exact ⟨rfl, rfl, HF.out⟩
/-- which function reads a part -/
def readK (b : Bool) : Nat := if b then 34 else 31
/-- what comes of reading a part -/
def ReadAns (W : World) (rb g O o e : Nat) (f : Nat → Int) (r : Option (V × Nat)) (x : Ending) (w' : World) : Prop :=
  match r with
  | some (v, k) => (∃ bv, x = .returned (.agg #[.int .i64 v.num, bv]) ∧ Bs W.heap.size w' bv v.bs ∧ Rs w' rb g O (o + k) e f) ∧ Fr rb W w'
  | none => x = .panicked (gaveV 121) ∧ Fr rb W w'
theorem read_any {rb g O o e : Nat} {f : Nat → Int} (p : Part) (hp : POk p) (w : World) (h : Rs w rb g O o e f) :
    Calls Try.prog (readK p.list) #[.pointer (some ⟨rb, 0, none⟩), .int .i64 p.width] w (ReadAns w rb g O o e f (readV f e o p)) := by
  unfold readV
  cases hl : p.list with
  | false =>
    show Calls _ 31 _ _ _
    by_cases h1 : o + p.width ≤ e
    · rw [if_pos h1]
      refine (number_ok p.width hp.w4 hp.w1 h1 w h).mono ?_
      rintro x w' ⟨rfl, hR, hF⟩
      exact ⟨⟨_, rfl, Bs.nil _ _, hR⟩, hF⟩
    · rw [if_neg h1]
      refine (number_no p.width (by omega) w h).mono ?_
      rintro x w' ⟨rfl, hU⟩
      exact ⟨rfl, Fr.ofUp hU⟩
  | true =>
    show Calls _ 34 _ _ _
    by_cases h1 : o + p.width ≤ e
    · rw [if_pos h1, if_pos rfl]
      have hx : num f o p.width = ((num f o p.width).toNat : Nat) := (Int.toNat_of_nonneg (num_lo h.dt.u8 _ _)).symm
      by_cases h2 : o + p.width + (num f o p.width).toNat ≤ e
      · rw [if_pos h2]
        refine (list_ok p.width hp.w4 hp.w1 hx h2 w h).mono ?_
        rintro x w' ⟨v, rfl, hB, hR, hF⟩
        refine ⟨⟨v, by rw [← hx], hB, ?_⟩, hF⟩
        rw [← Nat.add_assoc]
        exact hR
      · rw [if_neg h2]
        exact list_no2 p.width hp.w4 hp.w1 hx h1 (by omega) w h
    · rw [if_neg h1]
      exact list_no1 p.width (by omega) w h
/-- which function finds a field, and where it lies -/
def fldK : Fld → Nat
  | .tenant => 30
  | .name => 33
  | .n => 37
  | .m => 41
  | .data => 36
def Fld.off : Fld → Nat
  | .tenant => 1
  | .name => 3
  | .n => 5
  | .m => 7
  | .data => 9
theorem fld_any (a : Fld) (b : Nat) (w : World) (x : Value) (h : w.cell? ⟨b, 0, none⟩ = some x) :
    Calls Try.prog (fldK a) #[.pointer (some ⟨b, 0, none⟩)] w fun e w' => e = .returned (.pointer (some ⟨b, a.off, none⟩)) ∧ w' = w := by
  cases a with
  | tenant => exact tenantOf_any b w x h
  | name => exact nameOf_any b w x h
  | n => exact nOf_any b w x h
  | m => exact mOf_any b w x h
  | data => exact dataOf_any b w x h
/-- a bound as it lies in memory -/
def FitAt (w : World) (v : Value) : Fit → Prop
  | .btw lo hi => ∃ b1 b2, v = .func (.func 47) #[] #[.pointer (some ⟨b1, 0, none⟩), .pointer (some ⟨b2, 0, none⟩)] ∧ w.cell? ⟨b1, 0, none⟩ = some (.int .i64 lo) ∧ w.cell? ⟨b2, 0, none⟩ = some (.int .i64 hi)
  | .name => v = .func (.func 35) #[] #[]
theorem FitAt.up {v : Value} {t : Fit} (h : FitAt w v t) (u : Up w w') : FitAt w' v t := by
  cases t with
  | btw lo hi =>
    obtain ⟨b1, b2, h1, h2, h3⟩ := h
    exact ⟨b1, b2, h1, (u.cell (World.block_lt_of_cell? _ _ h2)).trans h2, (u.cell (World.block_lt_of_cell? _ _ h3)).trans h3⟩
  | name => exact h
def partCells (p : Part) (fv : Value) : List Value := [.func (.func (fldK p.fld)) #[] #[], .func (.func (readK p.list)) #[] #[], .int .i64 p.width, fv]
/-- parts as they lie in memory -/
structure PartsAt (w : World) (v : Value) (ps : List Part) : Prop where
  ex : ∃ a g c, v = .slice a ps.length c ∧ ps.length ≤ c ∧ c ≤ maxLen ∧ (0 < ps.length → a = some ⟨g, 0, none⟩) ∧ ∀ j p, ps[j]? = some p → ∃ fv, w.rangeAt g (j * 4) (partCells p fv) ∧ FitAt w fv p.fit
  ok : ∀ p ∈ ps, POk p
theorem range_up {g o : Nat} {l : List Value} (h : w.rangeAt g o l) (u : Up w w') : w'.rangeAt g o l := fun k v hv => (u.cell (World.block_lt_of_cell? _ _ (h k v hv))).trans (h k v hv)
theorem PartsAt.up {v : Value} {ps : List Part} (h : PartsAt w v ps) (u : Up w w') : PartsAt w' v ps := by
  obtain ⟨a, g, c, h1, h2, h3, h4, h5⟩ := h.ex
  refine ⟨⟨a, g, c, h1, h2, h3, h4, fun j p hj => ?_⟩, h.ok⟩
  obtain ⟨fv, q1, q2⟩ := h5 j p hj
  exact ⟨fv, range_up q1 u, q2.up u⟩
/-- kinds as they lie in memory -/
structure TabAt (w : World) (v : Value) (T : Tab) : Prop where
  ex : ∃ g, v = .slice (some ⟨g, 0, none⟩) T.length T.length ∧ ∀ i k ps, T[i]? = some (k, ps) → ∃ pv, w.rangeAt g (i * 2) [.int .i64 k, pv] ∧ PartsAt w pv ps
  len : T.length ≤ 100
theorem TabAt.up {v : Value} {T : Tab} (h : TabAt w v T) (u : Up w w') : TabAt w' v T := by
  obtain ⟨g, h1, h2⟩ := h.ex
  refine ⟨⟨g, h1, fun i k ps hi => ?_⟩, h.len⟩
  obtain ⟨pv, q1, q2⟩ := h2 i k ps hi
  exact ⟨pv, range_up q1 u, q2.up u⟩
end Go.Proofs.Ytnengokobkehfaa
