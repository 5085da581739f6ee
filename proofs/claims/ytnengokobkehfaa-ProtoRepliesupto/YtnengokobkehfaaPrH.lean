/- Proto: a frame is read. -/
import Derived.Test.YtnengokobkehfaaPrG
import Derived.StillTailTactics
import Derived.BigQuiet
namespace Go.Proofs.Ytnengokobkehfaa
open Go.RowKit
set_option linter.unusedVariables false
variable {w w' W : World}
/-- what a frame tells, as it lies in memory; u: its bytes -/
def cCells (c : C) (u : Fld → Value) : Array Value := #[.int .i64 c.kind, .int .i64 c.tenant.num, u .tenant, .int .i64 c.name.num, u .name, .int .i64 c.n.num, u .n, .int .i64 c.m.num, u .m, .int .i64 c.data.num, u .data]
def u0 : Fld → Value := fun _ => .slice none 0 0
def upd (u : Fld → Value) (v : Value) (a : Fld) : Fld → Value := fun b => if b = a then v else u b
theorem cCells_set (c : C) (u : Fld → Value) (n : Int) (bs : List Int) (v : Value) (a : Fld) : putL (cCells c u) a.off [.int .i64 n, v] = cCells (c.set ⟨n, bs⟩ a) (upd u v a) := by
  cases a <;> rfl
theorem cCells_size (c : C) (u : Fld → Value) : (cCells c u).size = 11 := rfl
/-- one cell each -/
def One (u : Fld → Value) : Prop := ∀ a, (u a).oneCell' = true
theorem cCells_one (c : C) {u : Fld → Value} (h : One u) : (cCells c u).all (·.oneCell') = true := by
  have h1 := h .tenant; have h2 := h .name; have h3 := h .n; have h4 := h .m; have h5 := h .data
  simp [cCells, h1, h2, h3, h4, h5]
  simp [Value.oneCell']
theorem Bs.one {lo : Nat} {v : Value} {l : List Int} (h : Bs lo w v l) : v.oneCell' = true := by
  obtain ⟨a, g, o, c, rfl, _⟩ := h.ex
  rfl
def BsC (lo : Nat) (w : World) (u : Fld → Value) (c : C) : Prop := ∀ a, Bs lo w (u a) (c.get a).bs
theorem BsC.one {lo : Nat} {u : Fld → Value} {c : C} (h : BsC lo w u c) : One u := fun a => (h a).one
theorem BsC.zero (lo : Nat) (w : World) (k : Int) : BsC lo w u0 (C0 k) := fun a => by rw [C0_get]; exact Bs.nil lo w
theorem BsC.set {lo : Nat} {u : Fld → Value} {c : C} (h : BsC lo w u c) {v : V} {bv : Value} (hv : Bs lo w bv v.bs) (a : Fld) : BsC lo w (upd u bv a) (c.set v a) := by
  intro b
  rw [C.get_set]
  unfold upd
  by_cases e : b = a
  · rw [if_pos e, if_pos e]; exact hv
  · rw [if_neg e, if_neg e]; exact h b
theorem BsC.keep {lo : Nat} {u : Fld → Value} {c : C} (h : BsC lo w u c) (k : ∀ b, lo ≤ b → b < w.heap.size → w'.heap[b]? = w.heap[b]?) : BsC lo w' u c := fun a => (h a).keep k
theorem BsC.up {lo : Nat} {u : Fld → Value} {c : C} (h : BsC lo w u c) (k : Up w w') : BsC lo w' u c := fun a => (h a).up k
theorem BsC.mono {lo lo' : Nat} {u : Fld → Value} {c : C} (h : BsC lo w u c) (hl : lo' ≤ lo) : BsC lo' w u c := fun a => (h a).mono hl
/-- what comes of reading a frame -/
def ContAns (W : World) (rb : Nat) (r : Except Int C) (x : Ending) (w' : World) : Prop :=
  match r with
  | .ok c => (∃ u, x = .returned (.agg (cCells c u)) ∧ BsC W.heap.size w' u c) ∧ Fr rb W w'
  | .error e => x = .panicked (gaveV e) ∧ Fr rb W w'
theorem still_of_quiet {P : Program} {ops : Array Oper} {w0 : World} {Q : Act → Prop} : ∀ (l : List Oper) (a : Act), wpQuiet P ops (fun w' => w' = w0) Q l a → wpStill P ops w0 Q l a
  | [], a, h => h
  | o :: rest, a, h => by
    unfold wpQuiet at h
    unfold wpStill
    split
    · rename_i hw
      rw [if_pos hw] at h
      obtain ⟨v, h1, h2⟩ := h
      have h3 := h1 w0 rfl
      have h4 := still_of_quiet rest _ h2
      unfold Oper.quietAt at h3
      unfold Oper.still
      generalize (execOp a.eval o).run P w0 = r at *
      cases r with
      | ok n w' =>
        cases n <;> simp only [Oper.quietUpon] at h3 <;> simp only [Oper.stillUpon]
        case value u =>
          obtain ⟨e1, e2⟩ := h3
          subst e2
          exact ⟨e1, h4⟩
        case skip =>
          obtain ⟨e1, e2⟩ := h3
          subst e2
          exact ⟨e1, h4⟩
        case enter f args =>
          exact ⟨h3.1, v, h3.2, h4⟩
      | _ => simp only [Oper.quietUpon] at h3
    · rename_i hw
      rw [if_neg hw] at h
      exact still_of_quiet rest _ h
theorem wp_still2 {P : Program} {id : Nat} {Q : Exit → Act → World → Prop} {a : Act} {w : World} {l : List Oper} (n : Nat) (hm : P.follows .mixedOrders = true) (hB : Region.lexTailB .any l.toArray n = true)
    (h : ∀ w1, w1 = w.drew → wpQuiet P l.toArray (fun w' => w' = w1) (fun a' => wpList P l.toArray Q (l.drop n) a' w1) (l.take n) a) : (Code.region id l.toArray true).wp P Q a w :=
  wp_region_still_tail n hm hB (still_of_quiet _ _ (h w.drew rfl))
theorem part_one {p : Part} {fv : Value} {w : World} (h : FitAt w fv p.fit) : (partCells p fv).toArray.all (·.oneCell') = true := by
  have : fv.oneCell' = true := by
    cases hf : p.fit with
    | btw lo hi => rw [hf] at h; obtain ⟨b1, b2, rfl, _⟩ := h; rfl
    | name => rw [hf] at h; have h : fv = _ := h; rw [h]; rfl
  simp [partCells, this]
  simp [Value.oneCell']
theorem there_heap {b o n : Nat} {cs : Array Value} {ty : TypeId} (h : w.heap[b]? = some (.cells cs ty (0, 0))) (hn : o + n ≤ cs.size) : w.there b o n := by
  intro j hj
  refine ⟨?_, heap_fz h⟩
  rw [cell_of_row _ _ _ _ _ _ h]
  simp
  omega
theorem off_le (a : Fld) : a.off + 2 ≤ 11 := by cases a <;> decide
/-- a field is set -/
theorem cont_set {rb cb g O o0 o e : Nat} {f : Nat → Int} {u : Fld → Value} {c : C} {v : V} {bv : Value} {w8 : World} (a : Fld) (hcb : W.heap.size < cb) (hrc : rb < W.heap.size) (hW : Rs W rb g O o0 e f) (F : Fr rb W w8) (R : Rs w8 rb g O o e f) (B : Bs (cb + 1) w8 bv v.bs) (BC : BsC (cb + 1) w8 u c) (A : w8.heap[cb]? = some (.cells (cCells c u) 63 (0, 0))) (Z : w8.heap[W.heap.size]? = some (.cells (cCells (C0 0) u0) 63 (0, 0))) :
    Rs (w8.setCells cb a.off [.int .i64 v.num, bv]) rb g O o e f ∧ (w8.setCells cb a.off [.int .i64 v.num, bv]).heap[cb]? = some (.cells (cCells (c.set v a) (upd u bv a)) 63 (0, 0)) ∧ BsC (cb + 1) (w8.setCells cb a.off [.int .i64 v.num, bv]) (upd u bv a) (c.set v a) ∧ Fr rb W (w8.setCells cb a.off [.int .i64 v.num, bv]) ∧ (w8.setCells cb a.off [.int .i64 v.num, bv]).heap[W.heap.size]? = some (.cells (cCells (C0 0) u0) 63 (0, 0)) := by
  have fr := fr_setCells cb [.int .i64 v.num, bv] a.off w8
  have F9 : Fr rb W (w8.setCells cb a.off [.int .i64 v.num, bv]) := ⟨fr.os.trans F.os, fr.output.trans F.output, Nat.le_trans F.size fr.size, fun b hb hn => (fr.block b (Nat.lt_of_lt_of_le hb F.size) (by omega)).trans (F.block b hb hn)⟩
  refine ⟨⟨?_, hW.dt.fr F9 hW.ne, R.oe, R.ne⟩, ?_, ?_, F9, (fr.block _ (heap_at Z) (by omega)).trans Z⟩
  · obtain ⟨rc, hrc'⟩ := R.rd
    exact ⟨rc, hrc'.of_block (fr.block _ hrc'.lt (by omega))⟩
  · have h1 := heap_setCells_same cb 63 [.int .i64 v.num, bv] a.off _ w8 A
    rw [cCells_set c u v.num v.bs bv a] at h1
    exact h1
  · exact (BC.set B a).keep fun b hb hb2 => fr.block b hb2 (by omega)
theorem call_read (b : Bool) (args : Array Value) (w : World) : (callFunc (readK b) args).run Try.prog w = .ok (.enter (readK b) args) w := by
  cases b
  · exact Try.call31 _ _
  · exact Try.call34 _ _
theorem call_fld (a : Fld) (args : Array Value) (w : World) : (callFunc (fldK a) args).run Try.prog w = .ok (.enter (fldK a) args) w := by
  cases a
  · exact Try.call30 _ _
  · exact Try.call33 _ _
  · exact Try.call37 _ _
  · exact Try.call41 _ _
  · exact Try.call36 _ _
set_option maxRecDepth 100000 in
set_option maxHeartbeats 600000 in
theorem readContent_any {T : Tab} {tv : Value} {rb g O o e : Nat} {f : Nat → Int} (W0 W : World) (hT : TabAt W0 tv T) (hU0 : Up W0 W) (hrb : W0.heap.size ≤ rb) (h : Rs W rb g O o e f) (ho : o + 1 ≤ e) :
    Calls Try.prog 45 #[.pointer (some ⟨rb, 0, none⟩), tv] W (ContAns W rb (parseF T f o (e - o))) := by
  have HR : Hid (Rs W rb g O o e f) := h
  have HT : Hid (TabAt W0 tv T) := hT
  have HU0 : Hid (Up W0 W) := hU0
  have HL : Hid (rb < W.heap.size) := let ⟨c, hc⟩ := h.rd; hc.lt
  have hrn := run_num
  obtain ⟨R, hR⟩ : ∃ R, R = parseF T f o (e - o) := ⟨_, rfl⟩
  have HP : Hid (R = parseF T f o (e - o)) := hR
  rw [← hR]
  clear hR h hT hU0
  go_enter Try.func45, Try.ntmps45
  go_wp2_with fail
  refine (number_ok (o := o) (e := e) 1 (by omega) (by omega) ho _ (by exact HR.out.up ((Up.refl W).alloc _))).mono ?_
  rintro e1 w1 ⟨rfl, hR1, hF1⟩
  have hk1 : num f o 1 = f o := by simp [num]
  rw [hk1]
  have hs1 : W.heap.size < w1.heap.size := by have := hF1.size; simp at this; omega
  have HB1 : Hid (w1.heap[W.heap.size]? = some (.cells (cCells (C0 0) u0) 63 (0, 0))) := (hF1.block _ (by simp) (by have := HL.out; omega)).trans (heap_alloc_new W _)
  have HF1 : Hid (Fr rb W w1) := (Fr.ofUp ((Up.refl W).alloc _)).trans hF1
  have HR1 : Hid (Rs w1 rb g O (o + 1) e f) := hR1
  obtain ⟨K, hK⟩ : ∃ K, K = f o := ⟨_, rfl⟩
  have HK : Hid (K = f o) := hK
  rw [← hK]
  clear hK hk1 hR1 hF1
  go_wp2_with fail
  have hUa : Up W0 (w1.alloc (.cells (cCells (C0 K) u0) 63)) := (Fr.up HU0.out hrb HF1.out).alloc _
  have HUa : Hid _ := hUa
  have HA : Hid ((w1.alloc (.cells (cCells (C0 K) u0) 63)).heap[w1.heap.size]? = some (.cells (cCells (C0 K) u0) 63 (0, 0))) := heap_alloc_new w1 _
  have HFa : Hid (Fr rb W (w1.alloc (.cells (cCells (C0 K) u0) 63))) := HF1.out.trans (Fr.ofUp ((Up.refl _).alloc _))
  have HRa : Hid (Rs (w1.alloc (.cells (cCells (C0 K) u0) 63)) rb g O (o + 1) e f) := HR1.out.up ((Up.refl _).alloc _)
  have HBa : Hid ((w1.alloc (.cells (cCells (C0 K) u0) 63)).heap[W.heap.size]? = some (.cells (cCells (C0 0) u0) 63 (0, 0))) := (((Up.refl w1).alloc _).block _ hs1).trans HB1.out
  clear hUa HB1 HF1 HR1
  change Calls _ _ _ (w1.alloc (.cells (cCells (C0 K) u0) 63)) _
  generalize (w1.alloc (.cells (cCells (C0 K) u0) 63)) = w2 at *
  refine (partsOf_any K W0 w2 HT.out HUa.out).mono ?_
  cases hl : look T K with
  | none =>
    have HE : Hid (R = .error 122) := by
      show _ = _
      rw [HP.out]
      unfold parseF
      rw [← HK.out, hl]
    rintro e2 w3 ⟨rfl, hU⟩
    have HF3 : Hid (Fr rb W w3) := HFa.out.trans (Fr.ofUp hU)
    clear hU hl
    go_wp2_with fail
    refine (giveUp_any 122 _).mono ?_
    rintro e w4 ⟨rfl, hw⟩
    subst hw
    go_wp2
    refine ⟨rfl, ?_⟩
    show ContAns W rb R _ _
    rw [HE.out]
    exact ⟨rfl, HF3.out⟩
  | some ps =>
    have HE : Hid (R = readPs f e ps (o + 1) (C0 K)) := by
      show _ = _
      rw [HP.out]
      unfold parseF
      rw [← HK.out, hl, show o + (e - o) = e by omega]
    rintro e2 w3 ⟨⟨pv, rfl, hPs⟩, hU⟩
    have HF3 : Hid (Fr rb W w3) := HFa.out.trans (Fr.ofUp hU)
    have HR3 : Hid (Rs w3 rb g O (o + 1) e f) := HRa.out.up hU
    have HA3 : Hid (w3.heap[w1.heap.size]? = some (.cells (cCells (C0 K) u0) 63 (0, 0))) := (hU.block _ (heap_at HA.out)).trans HA.out
    have HB3 : Hid (w3.heap[W.heap.size]? = some (.cells (cCells (C0 0) u0) 63 (0, 0))) := (hU.block _ (heap_at HBa.out)).trans HBa.out
    have HU3 : Hid (Up W0 w3) := HUa.out.trans hU
    clear hl HFa HRa HA HBa HUa hU HP
    have hok := hPs.ok
    obtain ⟨pa, pg, pc, rfl, p1, p2, p3, p4⟩ := hPs.ex
    have HOK : Hid (∀ p ∈ ps, POk p) := hok
    have HPA : Hid (0 < ps.length → pa = some ⟨pg, 0, none⟩) := p3
    have HP4 : Hid (∀ j p, ps[j]? = some p → ∃ fv, W0.rangeAt pg (j * 4) (partCells p fv) ∧ FitAt W0 fv p.fit) := p4
    obtain ⟨n, hn⟩ : ∃ n, n = ps.length := ⟨_, rfl⟩
    have HN : Hid (n = ps.length) := hn
    have hnm : (n : Int) ≤ 9223372036854775807 := by unfold maxLen at p2; omega
    rw [← hn] at p1 ⊢
    clear hn hok hPs p3 p4 p2
    go_wp2_with fail
    go_loopw [27] (fun i wr => ∃ (k o' : Nat) (c : C) (u : Fld → Value), k ≤ n ∧ i = .int .i64 k ∧ Hid (R = readPs f e (ps.drop k) o' c) ∧ Hid (Rs wr rb g O o' e f) ∧ Hid (wr.heap[w1.heap.size]? = some (.cells (cCells c u) 63 (0, 0))) ∧ Hid (BsC (w1.heap.size + 1) wr u c) ∧ Hid (Fr rb W wr) ∧ Hid (wr.heap[W.heap.size]? = some (.cells (cCells (C0 0) u0) 63 (0, 0)))) (fun i _ => n - (intOf i).toNat)
    case atStart => exact ⟨0, o + 1, C0 K, u0, Nat.zero_le _, rfl, HE, HR3, HA3, BsC.zero _ _ _, HF3, HB3⟩
    case round =>
      obtain ⟨k, o', c, u, hk, rfl, hI, hR, hA, hB, hF, hZ⟩ := hrel
      by_cases hlt : k < n
      · have hlt' : k < ps.length := by rw [← HN.out]; exact hlt
        obtain ⟨p, hp⟩ : ∃ p, p = ps[k] := ⟨_, rfl⟩
        have hpo : POk p := HOK.out p (by rw [hp]; exact List.getElem_mem hlt')
        obtain ⟨fv, q1, q2⟩ := HP4.out k p (by rw [hp]; exact List.getElem?_eq_getElem hlt')
        have ea := HPA.out (by omega)
        subst ea
        have hI2 : Hid (R = (match readV f e o' p with | none => .error 121 | some (v, j) => if fitB p.fit v then readPs f e (ps.drop (k + 1)) (o' + j) (c.set v p.fld) else .error 123)) := by
          show _ = _
          rw [hI.out, List.drop_eq_getElem_cons hlt', ← hp]
          rfl
        have hUr : Up W0 wr := Fr.up HU0.out hrb hF.out
        have HRg : Hid (wr.rangeAt pg (k * 4) (partCells p fv)) := range_up q1 hUr
        have HQ2 : Hid (FitAt W0 fv p.fit) := q2
        have HUr : Hid (Up W0 wr) := hUr
        have HPO : Hid (POk p) := hpo
        have hcr := call_read p.list
        have hcf := call_fld p.fld
        clear hUr q1 q2 hpo hp hlt' hI
        have HW4 : Hid (∀ old, ((wr.alloc (.cells old 75)).setRow wr.heap.size (partCells p fv).toArray).heap[wr.heap.size]? = some (.cells (partCells p fv).toArray 75 (0, 0)) ∧ Up wr ((wr.alloc (.cells old 75)).setRow wr.heap.size (partCells p fv).toArray)) := fun old => ⟨setRow_heap _ _ _ _ _ _ (heap_alloc_new wr _), ((Up.refl wr).alloc _).setRow (Nat.le_refl _) _⟩
        go_wp2_with (first
          | (refine wpList_load_mid rfl 75 _ rfl pg (k * 4) rfl (partCells p fv) _ HRg.out Try.underlying75 rfl (by kernel_rfl) ?_)
          | (refine wpList_store_rowTo rfl 75 _ _ rfl rfl wr.heap.size (partCells p fv).toArray rfl rfl 75 _ (heap_alloc_new wr _) (by kernel_rfl) rfl (part_one HQ2.out) ?_
             have hq := HW4.out #[.nilFunc, .nilFunc, .int .i64 0, .nilFunc]
             generalize World.setRow _ _ _ = w4 at hq ⊢
             have HPB : Hid (w4.heap[wr.heap.size]? = some (.cells (partCells p fv).toArray 75 (0, 0))) := hq.1
             have HU4 : Hid (Up wr w4) := hq.2
             have k0 : w4.cell? ⟨wr.heap.size, 0, none⟩ = some (.func (.func (fldK p.fld)) #[] #[]) := heap_cell hq.1 rfl
             have k1 : w4.cell? ⟨wr.heap.size, 1, none⟩ = some (.func (.func (readK p.list)) #[] #[]) := heap_cell hq.1 rfl
             have k2 : w4.cell? ⟨wr.heap.size, 2, none⟩ = some (.int .i64 p.width) := heap_cell hq.1 rfl
             clear hq))
        refine (read_any p HPO.out w4 (hR.out.up HU4.out)).mono ?_
        cases hv : readV f e o' p with
        | none =>
          have HI3 : Hid (R = .error 121) := by show _ = _; rw [hI2.out, hv]
          clear hv hI2
          rintro e5 w5 ⟨rfl, hF5⟩
          go_wp2
          refine ⟨rfl, ?_⟩
          show ContAns W rb R _ _
          rw [HI3.out]
          exact ⟨rfl, hF.out.trans ((Fr.ofUp HU4.out).trans hF5)⟩
        | some x =>
          obtain ⟨v, j⟩ := x
          have HI3 : Hid (R = if fitB p.fit v then readPs f e (ps.drop (k + 1)) (o' + j) (c.set v p.fld) else .error 123) := by show _ = _; rw [hI2.out, hv]
          clear hv hI2
          rintro e5 w5 ⟨⟨bv, rfl, hBv, hR5⟩, hF5⟩
          obtain ⟨ba, bg, bo, bc, rfl, hbn⟩ := hBv.ex
          clear hbn
          have hcb := heap_at hA.out
          have hrl := HL.out
          have hs4 := HU4.out.size
          have hwl := heap_at HPB.out
          have hs5 := hF5.size
          have HNB : Hid (wr.heap.size ≠ rb) := by show _ ≠ _; omega
          have HF5 : Hid (Fr rb W w5) := hF.out.trans ((Fr.ofUp HU4.out).trans hF5)
          have HR5 : Hid (Rs w5 rb g O (o' + j) e f) := hR5
          have HBv : Hid (Bs (w1.heap.size + 1) w5 (.slice ba v.bs.length bc) v.bs) := hBv.mono (by omega)
          have HB5 : Hid (BsC (w1.heap.size + 1) w5 u c) := (hB.out.up HU4.out).keep fun b hb hb2 => hF5.block b hb2 (by omega)
          have HPB5 : Hid (w5.heap[wr.heap.size]? = some (.cells (partCells p fv).toArray 75 (0, 0))) := (hF5.block _ (by omega) HNB.out).trans HPB.out
          have HA5 : Hid (w5.heap[w1.heap.size]? = some (.cells (cCells c u) 63 (0, 0))) := (hF5.block _ (by omega) (by omega)).trans ((HU4.out.block _ hcb).trans hA.out)
          have HZ5 : Hid (w5.heap[W.heap.size]? = some (.cells (cCells (C0 0) u0) 63 (0, 0))) := (hF5.block _ (by omega) (by omega)).trans ((HU4.out.block _ (heap_at hZ.out)).trans hZ.out)
          clear hBv hR5 hF5 HPB k0 k1 k2 hR hA hB hZ hF HU4 HUr HW4
          have hU5 : Up W0 w5 := Fr.up HU0.out hrb HF5.out
          have hfc : FitAt w5 fv p.fit := HQ2.out.up hU5
          have hx5 : wr.heap.size < w5.heap.size := heap_at HPB5.out
          have k3 : w5.cell? ⟨wr.heap.size, 3, none⟩ = some fv := heap_cell HPB5.out rfl
          have HFN : Hid (∀ w7, Up w5 w7 → Fr rb W w7 ∧ w7.cell? ⟨wr.heap.size, 0, none⟩ = some (.func (.func (fldK p.fld)) #[] #[]) ∧ Rs w7 rb g O (o' + j) e f ∧ Bs (w1.heap.size + 1) w7 (.slice ba v.bs.length bc) v.bs ∧ BsC (w1.heap.size + 1) w7 u c ∧ w7.heap[w1.heap.size]? = some (.cells (cCells c u) 63 (0, 0)) ∧ w7.heap[W.heap.size]? = some (.cells (cCells (C0 0) u0) 63 (0, 0))) := fun w7 u7 => ⟨HF5.out.trans (Fr.ofUp u7), heap_cell ((u7.block _ hx5).trans HPB5.out) rfl, HR5.out.up u7, HBv.out.up u7, HB5.out.up u7, (u7.block _ (heap_at HA5.out)).trans HA5.out, (u7.block _ (heap_at HZ5.out)).trans HZ5.out⟩
          have HV6 : Hid (∀ w7, Up (w5.alloc (.cells #[.int .i64 v.num, .slice ba v.bs.length bc] 59)) w7 → Up w5 w7 ∧ w7.cell? ⟨w5.heap.size, 0, none⟩ = some (.int .i64 v.num) ∧ w7.cell? ⟨w5.heap.size, 1, none⟩ = some (.slice ba v.bs.length bc)) := fun w7 u7 => by
            have hh := (u7.block w5.heap.size (by simp)).trans (heap_alloc_new w5 _)
            exact ⟨((Up.refl w5).alloc _).trans u7, heap_cell hh rfl, heap_cell hh rfl⟩
          have HB6 : Hid (Bs (w1.heap.size + 1) (w5.alloc (.cells #[.int .i64 v.num, .slice ba v.bs.length bc] 59)) (.slice ba v.bs.length bc) v.bs) := HBv.out.up ((Up.refl w5).alloc _)
          obtain ⟨bn, hbn⟩ : ∃ bn, bn = v.bs.length := ⟨_, rfl⟩
          obtain ⟨vn, hvn⟩ : ∃ vn, vn = v.num := ⟨_, rfl⟩
          obtain ⟨t, ht⟩ : ∃ t, t = fitB p.fit v := ⟨_, rfl⟩
          have HTT : Hid (t = fitB p.fit v) := ht
          have HVN : Hid (vn = v.num) := hvn
          have HBN : Hid (bn = v.bs.length) := hbn
          rw [← hvn, ← hbn] at HV6 HB6 ⊢
          rw [← hbn] at HFN
          clear hvn hbn ht HPB5 HA5 HZ5 HB5 HBv HR5 HF5 hU5
          cases hpf : p.fit with
          | btw lo hi =>
            rw [hpf] at hfc
            obtain ⟨b1, b2, rfl, c1, c2⟩ := hfc
            have HC1 : Hid ((w5.alloc (.cells #[.int .i64 vn, .slice ba bn bc] 59)).cell? ⟨b1, 0, none⟩ = some (.int .i64 lo)) := (((Up.refl w5).alloc _).cell (World.block_lt_of_cell? _ _ c1)).trans c1
            have HC2 : Hid ((w5.alloc (.cells #[.int .i64 vn, .slice ba bn bc] 59)).cell? ⟨b2, 0, none⟩ = some (.int .i64 hi)) := (((Up.refl w5).alloc _).cell (World.block_lt_of_cell? _ _ c2)).trans c2
            have HPF : Hid (fitB (.btw lo hi) ⟨vn, v.bs⟩ = t) := by show _ = _; rw [HTT.out, HVN.out, hpf]
            clear c1 c2 hpf
            go_wp2_with fail
            refine (between1_any lo hi vn _ b1 b2 _ HC1.out HC2.out v.bs).mono ?_
            rintro e7 w7 ⟨rfl, hU7⟩
            rw [HPF.out]
            obtain ⟨u7, m0, m1⟩ := HV6.out w7 hU7
            have U7 : Hid (Up w5 w7) := u7
            clear u7 hU7 HC1 HC2 HPF k3
            cases t with
            | false =>
              have HI4 : Hid (R = .error 123) := by show _ = _; rw [HI3.out, ← HTT.out]; rfl
              go_wp2_with fail
              refine (giveUp_any 123 _).mono ?_
              rintro e8 w8 ⟨rfl, hw⟩
              subst hw
              go_wp2
              refine ⟨rfl, ?_⟩
              show ContAns W rb R _ _
              rw [HI4.out]
              exact ⟨rfl, (HFN.out _ U7.out).1⟩
            | true =>
              have HI4 : Hid (R = readPs f e (ps.drop (k + 1)) (o' + j) (c.set v p.fld)) := by show _ = _; rw [HI3.out, ← HTT.out]; rfl
              go_wp2_with fail
              refine wp_still2 5 (by kernel_rfl) (by kernel_rfl) ?_
              intro w8 hw8
              have u8 : Up w7 w8 := by rw [hw8]; exact (Up.refl _).drew
              obtain ⟨f8, k8, r8, b8, bc8, a8, z8⟩ := HFN.out w8 (U7.out.trans u8)
              have n0 : w8.cell? ⟨w5.heap.size, 0, none⟩ = some (.int .i64 vn) := (u8.cell (World.block_lt_of_cell? _ _ m0)).trans m0
              have n1 : w8.cell? ⟨w5.heap.size, 1, none⟩ = some (.slice ba bn bc) := (u8.cell (World.block_lt_of_cell? _ _ m1)).trans m1
              have HFl : Hid _ := fld_any p.fld w1.heap.size w8 _ (heap_cell a8 rfl)
              have H8 : Hid (Fr rb W w8 ∧ Rs w8 rb g O (o' + j) e f ∧ Bs (w1.heap.size + 1) w8 (.slice ba bn bc) v.bs ∧ BsC (w1.heap.size + 1) w8 u c ∧ w8.heap[w1.heap.size]? = some (.cells (cCells c u) 63 (0, 0)) ∧ w8.heap[W.heap.size]? = some (.cells (cCells (C0 0) u0) 63 (0, 0))) := ⟨f8, r8, b8, bc8, a8, z8⟩
              clear hw8 u8 f8 r8 b8 bc8 a8 z8 m0 m1 HFN HV6
              simp only [List.take_succ_cons, List.take_zero, List.drop_succ_cons, List.drop_zero]
              repeat (go_big_quiet_step (fail))
              go_big_quiet_want
              go_big_quiet_op
              refine ⟨_, HFl.out, ?_⟩
              go_big_quiet_on
              repeat (go_big_quiet_step (fail))
              refine wpQuiet_nil ?_
              obtain ⟨f8, r8, b8, bc8, a8, z8⟩ := H8.out
              have HTh : Hid (w8.there w1.heap.size p.fld.off 2) := there_heap a8 (by rw [cCells_size]; exact off_le _)
              have hst := cont_set (v := v) p.fld hs1 HL.out HR.out f8 r8 b8 bc8 a8 z8
              rw [← HVN.out] at hst
              have HST : Hid _ := hst
              clear hst f8 r8 b8 bc8 a8 z8
              go_wp2_with (refine wpList_store_mid rfl 59 _ _ rfl w1.heap.size p.fld.off #[.int .i64 vn, .slice ba bn bc] rfl rfl HTh.out (by kernel_rfl) (by simp [Value.oneCell']) ?_)
              go_roundw
              case rel => exact ⟨k + 1, o' + j, c.set v p.fld, upd u (.slice ba bn bc) p.fld, by omega, by go_num, HI4, HST.out.1, HST.out.2.1, HST.out.2.2.1, HST.out.2.2.2.1, HST.out.2.2.2.2⟩
              case measure => simp [intOf]; omega
          | name =>
            rw [hpf] at hfc
            have hfc : fv = .func (.func 35) #[] #[] := hfc
            subst hfc
            have HPF : Hid (fitB .name ⟨vn, v.bs⟩ = t) := by show _ = _; rw [HTT.out, HVN.out, hpf]
            clear hpf
            go_wp2_with fail
            refine (isName_any (lo := w1.heap.size + 1) (l := v.bs) vn _ HB6.out).mono ?_
            rintro e7 w7 ⟨rfl, hU7⟩
            rw [HPF.out]
            obtain ⟨u7, m0, m1⟩ := HV6.out w7 hU7
            have U7 : Hid (Up w5 w7) := u7
            clear u7 hU7 HPF k3
            cases t with
            | false =>
              have HI4 : Hid (R = .error 123) := by show _ = _; rw [HI3.out, ← HTT.out]; rfl
              go_wp2_with fail
              refine (giveUp_any 123 _).mono ?_
              rintro e8 w8 ⟨rfl, hw⟩
              subst hw
              go_wp2
              refine ⟨rfl, ?_⟩
              show ContAns W rb R _ _
              rw [HI4.out]
              exact ⟨rfl, (HFN.out _ U7.out).1⟩
            | true =>
              have HI4 : Hid (R = readPs f e (ps.drop (k + 1)) (o' + j) (c.set v p.fld)) := by show _ = _; rw [HI3.out, ← HTT.out]; rfl
              go_wp2_with fail
              refine wp_still2 5 (by kernel_rfl) (by kernel_rfl) ?_
              intro w8 hw8
              have u8 : Up w7 w8 := by rw [hw8]; exact (Up.refl _).drew
              obtain ⟨f8, k8, r8, b8, bc8, a8, z8⟩ := HFN.out w8 (U7.out.trans u8)
              have n0 : w8.cell? ⟨w5.heap.size, 0, none⟩ = some (.int .i64 vn) := (u8.cell (World.block_lt_of_cell? _ _ m0)).trans m0
              have n1 : w8.cell? ⟨w5.heap.size, 1, none⟩ = some (.slice ba bn bc) := (u8.cell (World.block_lt_of_cell? _ _ m1)).trans m1
              have HFl : Hid _ := fld_any p.fld w1.heap.size w8 _ (heap_cell a8 rfl)
              have H8 : Hid (Fr rb W w8 ∧ Rs w8 rb g O (o' + j) e f ∧ Bs (w1.heap.size + 1) w8 (.slice ba bn bc) v.bs ∧ BsC (w1.heap.size + 1) w8 u c ∧ w8.heap[w1.heap.size]? = some (.cells (cCells c u) 63 (0, 0)) ∧ w8.heap[W.heap.size]? = some (.cells (cCells (C0 0) u0) 63 (0, 0))) := ⟨f8, r8, b8, bc8, a8, z8⟩
              clear hw8 u8 f8 r8 b8 bc8 a8 z8 m0 m1 HFN HV6
              simp only [List.take_succ_cons, List.take_zero, List.drop_succ_cons, List.drop_zero]
              repeat (go_big_quiet_step (fail))
              go_big_quiet_want
              go_big_quiet_op
              refine ⟨_, HFl.out, ?_⟩
              go_big_quiet_on
              repeat (go_big_quiet_step (fail))
              refine wpQuiet_nil ?_
              obtain ⟨f8, r8, b8, bc8, a8, z8⟩ := H8.out
              have HTh : Hid (w8.there w1.heap.size p.fld.off 2) := there_heap a8 (by rw [cCells_size]; exact off_le _)
              have hst := cont_set (v := v) p.fld hs1 HL.out HR.out f8 r8 b8 bc8 a8 z8
              rw [← HVN.out] at hst
              have HST : Hid _ := hst
              clear hst f8 r8 b8 bc8 a8 z8
              go_wp2_with (refine wpList_store_mid rfl 59 _ _ rfl w1.heap.size p.fld.off #[.int .i64 vn, .slice ba bn bc] rfl rfl HTh.out (by kernel_rfl) (by simp [Value.oneCell']) ?_)
              go_roundw
              case rel => exact ⟨k + 1, o' + j, c.set v p.fld, upd u (.slice ba bn bc) p.fld, by omega, by go_num, HI4, HST.out.1, HST.out.2.1, HST.out.2.2.1, HST.out.2.2.2.1, HST.out.2.2.2.2⟩
              case measure => simp [intOf]; omega
      · have ek : k = n := by omega
        subst ek
        have hI2 : Hid (R = if o' < e then .error 121 else .ok c) := by show _ = _; rw [hI.out, HN.out, List.drop_length]; rfl
        obtain ⟨rc, hrc⟩ := hR.out.rd
        have HRC : Hid (Rdr wr rb g (O + o') (e - o') rc) := hrc
        have HOE : Hid (o' ≤ e) := hR.out.oe
        clear hrc hI
        by_cases hoe : o' < e
        · go_wp2_with fail
          refine (end_no (by omega) _ HRC.out).mono ?_
          rintro e5 w5 ⟨rfl, hw⟩
          subst hw
          go_wp2
          refine ⟨rfl, ?_⟩
          show ContAns W rb R _ _
          rw [hI2.out, if_pos hoe]
          exact ⟨rfl, hF.out⟩
        · go_wp2_with fail
          refine (end_ok _ (by have h0 := HOE.out; have := HRC.out; rw [show e - o' = 0 by omega] at this; exact this)).mono ?_
          rintro e5 w5 ⟨rfl, hw⟩
          subst hw
          have HRg : Hid (w5.rangeAt w1.heap.size 0 (cCells c u).toList) := range_heap hA.out
          go_wp2_with (first
            | (refine wpList_load_mid rfl 63 _ rfl w1.heap.size 0 rfl (cCells c u).toList _ HRg.out Try.underlying63 rfl (by kernel_rfl) ?_)
            | (refine wpList_store_rowTo rfl 63 _ _ rfl rfl W.heap.size (cCells c u) rfl rfl 63 _ hZ.out (by kernel_rfl) rfl (cCells_one c hB.out.one) ?_))
          have hFF : Fr rb W (w5.setRow W.heap.size (cCells c u)) := hF.out.setNew (Nat.le_refl _)
          refine bodyPost_ret (v := .agg (cCells c u)) (results_row rfl _ _ W.heap.size 63 (cCells c u) (0, 0) _ rfl (setRow_heap _ _ _ _ _ _ hZ.out) Try.underlying63 (by kernel_rfl) (by kernel_rfl)) rfl ?_
          rw [hI2.out, if_neg hoe]
          exact ⟨⟨u, rfl, (hB.out.keep fun b hb _ => setRow_other _ _ _ _ (by omega)).mono (by omega)⟩, hFF⟩
end Go.Proofs.Ytnengokobkehfaa
