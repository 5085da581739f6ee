/- Cart: the bounds of registers. -/
import Derived.Test.YtojlappgmckokaaDoorCbF
namespace Go.Proofs.YtojlappgmckokaaDoor
open Go.Shelf Go.RowKit
set_option linter.unusedVariables false
set_option linter.unusedSimpArgs false
variable {w w' W : World} {b : Nat} {A : Ad} {C : Ct}
theorem run_index_cell {P : Program} (t e : TypeId) (n : Nat) (cs : Array Value) (k : IntKind) (i : Int) (d : TypeDesc) (v : Value) (w : World) (h : P.underlying t = some (.array n e)) (h0 : 0 ≤ i) (h1 : i < (n : Int))
    (hu : P.underlying e = some d) (hd : (match d with | .struct _ | .array _ _ => true | _ => false) = false) (hi : (P.info? e).map (·.size) = some 1) (hv : cs[i.toNat]? = some v) :
    (Instr.index t (.agg cs) (.int k i)).run P w = .ok v w := by
  have ha : (isAgg e).run P w = .ok false w := by
    cases d <;> simp_all [isAgg, run_underlying hu]
  have hs : (sizeOf e).run P w = .ok 1 w := by
    obtain ⟨x, hx, hm⟩ := Option.map_eq_some_iff.1 hi
    simp [sizeOf, typeInfo, hx, hm]
  simp [Instr.index, run_underlying h, asIntOf, h0, h1, part, ha, hs, hv, go_sem]
theorem wpList_index_cell {P : Program} {ops : Array Oper} {rest : List Oper} {o : Oper} {a : Act} {w : World} {Q : Exit → Act → World → Prop} (hgd : o.guard = none) (t : TypeId) (x y : Operand) (ho : o.op = .index t x y)
    (e : TypeId) (n : Nat) (cs : Array Value) (k : IntKind) (i : Int) (d : TypeDesc) (v : Value) (hx : a.eval x = .agg cs) (hy : a.eval y = .int k i)
    (h : P.underlying t = some (.array n e)) (h0 : 0 ≤ i) (h1 : i < (n : Int)) (hu : P.underlying e = some d) (hd : (match d with | .struct _ | .array _ _ => true | _ => false) = false) (hi : (P.info? e).map (·.size) = some 1)
    (hv : cs[i.toNat]? = some v) (hh : wpList P ops Q rest (a.put o.dst v) w) : wpList P ops Q (o :: rest) a w := by
  refine wpList_plain hgd fun K hK => ?_
  unfold Oper.wp execOp
  simp only [ho, hx, hy, Sem.run_bind, run_index_cell t e n cs k i d v w h h0 h1 hu hd hi hv, Result.andThen_ok, Sem.run_pure]
  exact hK _ _ hh
theorem results_row2 {P : Program} {fn : Func} {p q : Tmp} {ty : TypeId} (h : fn.results = #[.cell p ty, .cell q ty]) (tmps : Array Value) (w : World) (g g' : Nat) (t t' : TypeId) (cs cs' : Array Value) (fr fr' : Nat × Nat) (d : TypeDesc)
    (hp : tmps.getD p undef = .pointer (some ⟨g, 0, none⟩)) (hg : w.heap[g]? = some (.cells cs t fr)) (hq : tmps.getD q undef = .pointer (some ⟨g', 0, none⟩)) (hg' : w.heap[g']? = some (.cells cs' t' fr'))
    (hu : P.underlying ty = some d) (hd : (match d with | .struct _ | .array _ _ => true | _ => false) = true) (hi : (P.info? ty).map (·.size) = some cs.size) (hi' : (P.info? ty).map (·.size) = some cs'.size) :
    (results fn tmps).run P w = .ok (.tuple #[.agg cs, .agg cs']) w := by
  have hl := run_loadVar_row (P := P) w g t ty cs fr d hg hu hd hi
  have hl' := run_loadVar_row (P := P) w g' t' ty cs' fr' d hg' hu hd hi'
  have hp2 : tmps[p]?.getD undef = .pointer (some ⟨g, 0, none⟩) := by simpa using hp
  have hq2 : tmps[q]?.getD undef = .pointer (some ⟨g', 0, none⟩) := by simpa using hq
  simp [results, h, hp2, hq2, asAddr, Sem.run_bind, Result.andThen, hl, hl']
set_option maxRecDepth 100000 in
set_option maxHeartbeats 1000000 in
theorem bounds_0 : Calls Tryd.prog 62 #[.iface 121 (.agg #[])] W fun e w' => e = .returned (.tuple #[.agg #[.int .u8 0, .int .u8 0, .int .u8 0, .int .u8 0, .int .u8 0], .agg #[.int .u8 0, .int .u8 0, .int .u8 0, .int .u8 0, .int .u8 0]]) ∧ Up W w' := by
  have t1 := ta_0_1
  have t2 := ta_0_2
  have t3 := ta_0_3
  have t5 := ta_0_5
  go_enter Tryd.func62, Tryd.ntmps62
  go_wp2_with fail
  refine bodyPost_ret (v := .tuple #[.agg #[.int .u8 0, .int .u8 0, .int .u8 0, .int .u8 0, .int .u8 0], .agg #[.int .u8 0, .int .u8 0, .int .u8 0, .int .u8 0, .int .u8 0]]) (results_row2 Tryd.results62 _ _ W.heap.size (W.heap.size + 1) 87 87 #[.int .u8 0, .int .u8 0, .int .u8 0, .int .u8 0, .int .u8 0] #[.int .u8 0, .int .u8 0, .int .u8 0, .int .u8 0, .int .u8 0] (0, 0) (0, 0) _ rfl ?_ rfl ?_ Tryd.underlying87 rfl (by kernel_rfl) (by kernel_rfl)) rfl ?_
  · exact (Below.heap_alloc _ _ _ (by simp)).trans (heap_alloc_new W _)
  · have := heap_alloc_new (W.alloc (.cells #[.int .u8 0, .int .u8 0, .int .u8 0, .int .u8 0, .int .u8 0] 87)) (.cells #[.int .u8 0, .int .u8 0, .int .u8 0, .int .u8 0, .int .u8 0] 87)
    simpa using this
  · exact ⟨rfl, ((Up.refl W).alloc _).alloc _⟩
set_option maxRecDepth 100000 in
set_option maxHeartbeats 1000000 in
theorem bounds_1 : Calls Tryd.prog 62 #[.iface 108 (.pointer (some ⟨b, 0, none⟩))] W fun e w' => e = .returned (.tuple #[.agg #[.int .u8 0, .int .u8 1, .int .u8 0, .int .u8 0, .int .u8 0], .agg #[.int .u8 1, .int .u8 31, .int .u8 0, .int .u8 3, .int .u8 1]]) ∧ Up W w' := by
  have t1 := ta_1_1 (b := b)
  go_enter Tryd.func62, Tryd.ntmps62
  go_wp2_with fail
  refine bodyPost_ret (v := .tuple #[.agg #[.int .u8 0, .int .u8 1, .int .u8 0, .int .u8 0, .int .u8 0], .agg #[.int .u8 1, .int .u8 31, .int .u8 0, .int .u8 3, .int .u8 1]]) (results_row2 Tryd.results62 _ _ W.heap.size (W.heap.size + 1) 87 87 #[.int .u8 0, .int .u8 1, .int .u8 0, .int .u8 0, .int .u8 0] #[.int .u8 1, .int .u8 31, .int .u8 0, .int .u8 3, .int .u8 1] (0, 0) (0, 0) _ rfl ?_ rfl ?_ Tryd.underlying87 rfl (by kernel_rfl) (by kernel_rfl)) rfl ?_
  · exact (Below.heap_alloc _ _ _ (by simp)).trans (heap_alloc_new W _)
  · have := heap_alloc_new (W.alloc (.cells #[.int .u8 0, .int .u8 1, .int .u8 0, .int .u8 0, .int .u8 0] 87)) (.cells #[.int .u8 1, .int .u8 31, .int .u8 0, .int .u8 3, .int .u8 1] 87)
    simpa using this
  · exact ⟨rfl, ((Up.refl W).alloc _).alloc _⟩
set_option maxRecDepth 100000 in
set_option maxHeartbeats 1000000 in
theorem bounds_2 : Calls Tryd.prog 62 #[.iface 111 (.pointer (some ⟨b, 0, none⟩))] W fun e w' => e = .returned (.tuple #[.agg #[.int .u8 0, .int .u8 1, .int .u8 0, .int .u8 0, .int .u8 0], .agg #[.int .u8 1, .int .u8 15, .int .u8 0, .int .u8 0, .int .u8 0]]) ∧ Up W w' := by
  have t1 := ta_2_1 (b := b)
  have t2 := ta_2_2 (b := b)
  go_enter Tryd.func62, Tryd.ntmps62
  go_wp2_with fail
  refine bodyPost_ret (v := .tuple #[.agg #[.int .u8 0, .int .u8 1, .int .u8 0, .int .u8 0, .int .u8 0], .agg #[.int .u8 1, .int .u8 15, .int .u8 0, .int .u8 0, .int .u8 0]]) (results_row2 Tryd.results62 _ _ W.heap.size (W.heap.size + 1) 87 87 #[.int .u8 0, .int .u8 1, .int .u8 0, .int .u8 0, .int .u8 0] #[.int .u8 1, .int .u8 15, .int .u8 0, .int .u8 0, .int .u8 0] (0, 0) (0, 0) _ rfl ?_ rfl ?_ Tryd.underlying87 rfl (by kernel_rfl) (by kernel_rfl)) rfl ?_
  · exact (Below.heap_alloc _ _ _ (by simp)).trans (heap_alloc_new W _)
  · have := heap_alloc_new (W.alloc (.cells #[.int .u8 0, .int .u8 1, .int .u8 0, .int .u8 0, .int .u8 0] 87)) (.cells #[.int .u8 1, .int .u8 15, .int .u8 0, .int .u8 0, .int .u8 0] 87)
    simpa using this
  · exact ⟨rfl, ((Up.refl W).alloc _).alloc _⟩
set_option maxRecDepth 100000 in
set_option maxHeartbeats 1000000 in
theorem bounds_3 : Calls Tryd.prog 62 #[.iface 114 (.pointer (some ⟨b, 0, none⟩))] W fun e w' => e = .returned (.tuple #[.agg #[.int .u8 0, .int .u8 1, .int .u8 0, .int .u8 0, .int .u8 0], .agg #[.int .u8 1, .int .u8 127, .int .u8 0, .int .u8 15, .int .u8 0]]) ∧ Up W w' := by
  have t1 := ta_3_1 (b := b)
  have t2 := ta_3_2 (b := b)
  have t3 := ta_3_3 (b := b)
  go_enter Tryd.func62, Tryd.ntmps62
  go_wp2_with fail
  refine bodyPost_ret (v := .tuple #[.agg #[.int .u8 0, .int .u8 1, .int .u8 0, .int .u8 0, .int .u8 0], .agg #[.int .u8 1, .int .u8 127, .int .u8 0, .int .u8 15, .int .u8 0]]) (results_row2 Tryd.results62 _ _ W.heap.size (W.heap.size + 1) 87 87 #[.int .u8 0, .int .u8 1, .int .u8 0, .int .u8 0, .int .u8 0] #[.int .u8 1, .int .u8 127, .int .u8 0, .int .u8 15, .int .u8 0] (0, 0) (0, 0) _ rfl ?_ rfl ?_ Tryd.underlying87 rfl (by kernel_rfl) (by kernel_rfl)) rfl ?_
  · exact (Below.heap_alloc _ _ _ (by simp)).trans (heap_alloc_new W _)
  · have := heap_alloc_new (W.alloc (.cells #[.int .u8 0, .int .u8 1, .int .u8 0, .int .u8 0, .int .u8 0] 87)) (.cells #[.int .u8 1, .int .u8 127, .int .u8 0, .int .u8 15, .int .u8 0] 87)
    simpa using this
  · exact ⟨rfl, ((Up.refl W).alloc _).alloc _⟩
set_option maxRecDepth 100000 in
set_option maxHeartbeats 1000000 in
theorem bounds_5 : Calls Tryd.prog 62 #[.iface 117 (.pointer (some ⟨b, 0, none⟩))] W fun e w' => e = .returned (.tuple #[.agg #[.int .u8 0, .int .u8 0, .int .u8 0, .int .u8 0, .int .u8 0], .agg #[.int .u8 1, .int .u8 255, .int .u8 1, .int .u8 15, .int .u8 0]]) ∧ Up W w' := by
  have t1 := ta_5_1 (b := b)
  have t2 := ta_5_2 (b := b)
  have t3 := ta_5_3 (b := b)
  have t5 := ta_5_5 (b := b)
  go_enter Tryd.func62, Tryd.ntmps62
  go_wp2_with fail
  refine bodyPost_ret (v := .tuple #[.agg #[.int .u8 0, .int .u8 0, .int .u8 0, .int .u8 0, .int .u8 0], .agg #[.int .u8 1, .int .u8 255, .int .u8 1, .int .u8 15, .int .u8 0]]) (results_row2 Tryd.results62 _ _ W.heap.size (W.heap.size + 1) 87 87 #[.int .u8 0, .int .u8 0, .int .u8 0, .int .u8 0, .int .u8 0] #[.int .u8 1, .int .u8 255, .int .u8 1, .int .u8 15, .int .u8 0] (0, 0) (0, 0) _ rfl ?_ rfl ?_ Tryd.underlying87 rfl (by kernel_rfl) (by kernel_rfl)) rfl ?_
  · exact (Below.heap_alloc _ _ _ (by simp)).trans (heap_alloc_new W _)
  · have := heap_alloc_new (W.alloc (.cells #[.int .u8 0, .int .u8 0, .int .u8 0, .int .u8 0, .int .u8 0] 87)) (.cells #[.int .u8 1, .int .u8 255, .int .u8 1, .int .u8 15, .int .u8 0] 87)
    simpa using this
  · exact ⟨rfl, ((Up.refl W).alloc _).alloc _⟩
def loV (kd : Nat) : Array Value := #[.int .u8 (loB kd 0 : Nat), .int .u8 (loB kd 1 : Nat), .int .u8 (loB kd 2 : Nat), .int .u8 (loB kd 3 : Nat), .int .u8 (loB kd 4 : Nat)]
def hiV (kd : Nat) : Array Value := #[.int .u8 (hiB kd 0 : Nat), .int .u8 (hiB kd 1 : Nat), .int .u8 (hiB kd 2 : Nat), .int .u8 (hiB kd 3 : Nat), .int .u8 (hiB kd 4 : Nat)]
theorem MpAt.bounds {v : Value} {m : Mp} (h : MpAt W v m b) : ∀ w, Calls Tryd.prog 62 #[v] w fun e w' => e = .returned (.tuple #[.agg (loV m.kd), .agg (hiV m.kd)]) ∧ Up w w' := by
  intro w
  rcases h with ⟨hk, hv⟩ | ⟨hk, hv, hb⟩
  · rw [hk, hv]
    exact bounds_0
  · rcases hk with hk | hk | hk | hk <;> rw [hv, hk]
    · exact bounds_1
    · exact bounds_2
    · exact bounds_3
    · exact bounds_5
set_option maxRecDepth 100000 in
set_option maxHeartbeats 1000000 in
theorem given_any {v : Value} {l0 l1 l2 l3 l4 h0 h1 h2 h3 h4 r0 r1 r2 r3 r4 : Nat} {t : Bool} {vt : TypeId} {vp : Value} (hv : v = .iface vt vp) (HBd : Hid (∀ w, Calls Tryd.prog 62 #[v] w fun e w' => e = .returned (.tuple #[.agg #[.int .u8 (l0 : Int), .int .u8 (l1 : Int), .int .u8 (l2 : Int), .int .u8 (l3 : Int), .int .u8 (l4 : Int)], .agg #[.int .u8 (h0 : Int), .int .u8 (h1 : Int), .int .u8 (h2 : Int), .int .u8 (h3 : Int), .int .u8 (h4 : Int)]]) ∧ Up w w'))
    (ht : t = true ↔ (l0 ≤ r0 ∧ r0 ≤ h0) ∧ (l1 ≤ r1 ∧ r1 ≤ h1) ∧ (l2 ≤ r2 ∧ r2 ≤ h2) ∧ (l3 ≤ r3 ∧ r3 ≤ h3) ∧ (l4 ≤ r4 ∧ r4 ≤ h4)) : Calls Tryd.prog 43 #[v, .agg #[.int .u8 (r0 : Int), .int .u8 (r1 : Int), .int .u8 (r2 : Int), .int .u8 (r3 : Int), .int .u8 (r4 : Int)]] W fun e w' => e = .returned (.bool t) ∧ Up W w' := by
  subst hv
  have HT : Hid _ := ht
  clear ht
  go_enter Tryd.func43, Tryd.ntmps43
  go_wp2_with fail
  refine (HBd.out _).mono ?_
  rintro e w1 ⟨rfl, u1⟩
  have HU1 : Hid (Up W w1) := ((Up.refl W).alloc _).trans u1
  have hR : w1.heap[W.heap.size]? = some (.cells #[.int .u8 (r0 : Int), .int .u8 (r1 : Int), .int .u8 (r2 : Int), .int .u8 (r3 : Int), .int .u8 (r4 : Int)] 87 (0, 0)) := (u1.block _ (heap_at (heap_alloc_new W _))).trans (heap_alloc_new W _)
  have HR : Hid _ := hR
  have hlt := heap_at hR
  have c0 : w1.cell? ⟨W.heap.size, 0, none⟩ = some (.int .u8 (r0 : Int)) := heap_cell hR rfl
  have c1 : w1.cell? ⟨W.heap.size, 1, none⟩ = some (.int .u8 (r1 : Int)) := heap_cell hR rfl
  have c2 : w1.cell? ⟨W.heap.size, 2, none⟩ = some (.int .u8 (r2 : Int)) := heap_cell hR rfl
  have c3 : w1.cell? ⟨W.heap.size, 3, none⟩ = some (.int .u8 (r3 : Int)) := heap_cell hR rfl
  have c4 : w1.cell? ⟨W.heap.size, 4, none⟩ = some (.int .u8 (r4 : Int)) := heap_cell hR rfl
  clear hR u1 HBd
  generalize W.heap.size = rb at *
  go_wp2_with fail
  have hL := (Below.heap_alloc (w1.alloc (.cells #[.int .u8 (l0 : Int), .int .u8 (l1 : Int), .int .u8 (l2 : Int), .int .u8 (l3 : Int), .int .u8 (l4 : Int)] 87)) (.cells #[.int .u8 (h0 : Int), .int .u8 (h1 : Int), .int .u8 (h2 : Int), .int .u8 (h3 : Int), .int .u8 (h4 : Int)] 87) w1.heap.size (by simp)).trans (heap_alloc_new w1 _)
  have hH : ((w1.alloc (.cells #[.int .u8 (l0 : Int), .int .u8 (l1 : Int), .int .u8 (l2 : Int), .int .u8 (l3 : Int), .int .u8 (l4 : Int)] 87)).alloc (.cells #[.int .u8 (h0 : Int), .int .u8 (h1 : Int), .int .u8 (h2 : Int), .int .u8 (h3 : Int), .int .u8 (h4 : Int)] 87)).heap[w1.heap.size + 1]? = some (.cells #[.int .u8 (h0 : Int), .int .u8 (h1 : Int), .int .u8 (h2 : Int), .int .u8 (h3 : Int), .int .u8 (h4 : Int)] 87 (0, 0)) := by
    have := heap_alloc_new (w1.alloc (.cells #[.int .u8 (l0 : Int), .int .u8 (l1 : Int), .int .u8 (l2 : Int), .int .u8 (l3 : Int), .int .u8 (l4 : Int)] 87)) (.cells #[.int .u8 (h0 : Int), .int .u8 (h1 : Int), .int .u8 (h2 : Int), .int .u8 (h3 : Int), .int .u8 (h4 : Int)] 87)
    simpa using this
  have HU2 : Hid (Up W ((w1.alloc (.cells #[.int .u8 (l0 : Int), .int .u8 (l1 : Int), .int .u8 (l2 : Int), .int .u8 (l3 : Int), .int .u8 (l4 : Int)] 87)).alloc (.cells #[.int .u8 (h0 : Int), .int .u8 (h1 : Int), .int .u8 (h2 : Int), .int .u8 (h3 : Int), .int .u8 (h4 : Int)] 87))) := (HU1.out.alloc _).alloc _
  generalize World.alloc (World.alloc w1 _) _ = w2 at hL hH HU2 ⊢
  generalize w1.heap.size = lb at hL hH ⊢
  have a0 : w2.cell? ⟨lb, 0, none⟩ = some (.int .u8 (l0 : Int)) := heap_cell hL rfl
  have b0 : w2.cell? ⟨lb + 1, 0, none⟩ = some (.int .u8 (h0 : Int)) := heap_cell hH rfl
  have a1 : w2.cell? ⟨lb, 1, none⟩ = some (.int .u8 (l1 : Int)) := heap_cell hL rfl
  have b1 : w2.cell? ⟨lb + 1, 1, none⟩ = some (.int .u8 (h1 : Int)) := heap_cell hH rfl
  have a2 : w2.cell? ⟨lb, 2, none⟩ = some (.int .u8 (l2 : Int)) := heap_cell hL rfl
  have b2 : w2.cell? ⟨lb + 1, 2, none⟩ = some (.int .u8 (h2 : Int)) := heap_cell hH rfl
  have a3 : w2.cell? ⟨lb, 3, none⟩ = some (.int .u8 (l3 : Int)) := heap_cell hL rfl
  have b3 : w2.cell? ⟨lb + 1, 3, none⟩ = some (.int .u8 (h3 : Int)) := heap_cell hH rfl
  have a4 : w2.cell? ⟨lb, 4, none⟩ = some (.int .u8 (l4 : Int)) := heap_cell hL rfl
  have b4 : w2.cell? ⟨lb + 1, 4, none⟩ = some (.int .u8 (h4 : Int)) := heap_cell hH rfl
  clear hL hH c0 c1 c2 c3 c4 HR hlt HU1
  go_loopw [15] (fun J wr => wr = w2 ∧ ((J = .int .i64 0 ∧ Hid (True)) ∨ (J = .int .i64 1 ∧ Hid ((l0 ≤ r0 ∧ r0 ≤ h0))) ∨ (J = .int .i64 2 ∧ Hid ((l0 ≤ r0 ∧ r0 ≤ h0) ∧ (l1 ≤ r1 ∧ r1 ≤ h1))) ∨ (J = .int .i64 3 ∧ Hid ((l0 ≤ r0 ∧ r0 ≤ h0) ∧ (l1 ≤ r1 ∧ r1 ≤ h1) ∧ (l2 ≤ r2 ∧ r2 ≤ h2))) ∨ (J = .int .i64 4 ∧ Hid ((l0 ≤ r0 ∧ r0 ≤ h0) ∧ (l1 ≤ r1 ∧ r1 ≤ h1) ∧ (l2 ≤ r2 ∧ r2 ≤ h2) ∧ (l3 ≤ r3 ∧ r3 ≤ h3))) ∨ (J = .int .i64 5 ∧ Hid ((l0 ≤ r0 ∧ r0 ≤ h0) ∧ (l1 ≤ r1 ∧ r1 ≤ h1) ∧ (l2 ≤ r2 ∧ r2 ≤ h2) ∧ (l3 ≤ r3 ∧ r3 ≤ h3) ∧ (l4 ≤ r4 ∧ r4 ≤ h4))))) (fun J _ => 5 - (intOf J).toNat)
  case atStart => exact ⟨rfl, Or.inl ⟨rfl, trivial⟩⟩
  case round =>
    obtain ⟨hwr, hcs⟩ := hrel
    subst hwr
    rcases hcs with ⟨rfl, HJ⟩ | ⟨rfl, HJ⟩ | ⟨rfl, HJ⟩ | ⟨rfl, HJ⟩ | ⟨rfl, HJ⟩ | ⟨rfl, HJ⟩
    · by_cases q1 : l0 ≤ r0
      · have e1 : ¬ (r0 : Int) < (l0 : Int) := by omega
        by_cases q2 : r0 ≤ h0
        · have e2 : ¬ (h0 : Int) < (r0 : Int) := by omega
          have HN : Hid ((l0 ≤ r0 ∧ r0 ≤ h0)) := ⟨q1, q2⟩
          clear HJ q1 q2
          go_wp2_with (refine wpList_index_cell rfl 87 _ _ rfl 5 5 #[.int .u8 (r0 : Int), .int .u8 (r1 : Int), .int .u8 (r2 : Int), .int .u8 (r3 : Int), .int .u8 (r4 : Int)] .i64 0 _ (.int .u8 (r0 : Int)) rfl rfl Tryd.underlying87 (by decide) (by decide) Tryd.underlying5 rfl (by kernel_rfl) rfl ?_)
          go_round
          case rel => exact ⟨by trivial, Or.inr (Or.inl ⟨by go_num, HN⟩)⟩
          case measure => simp [intOf]
        · have e2 : (h0 : Int) < (r0 : Int) := by omega
          have hf : t = false := by
            cases htt : t with
            | false => rfl
            | true =>
              have hh := HT.out.1 htt
              omega
          subst hf
          clear HT HJ
          go_wp2_with (refine wpList_index_cell rfl 87 _ _ rfl 5 5 #[.int .u8 (r0 : Int), .int .u8 (r1 : Int), .int .u8 (r2 : Int), .int .u8 (r3 : Int), .int .u8 (r4 : Int)] .i64 0 _ (.int .u8 (r0 : Int)) rfl rfl Tryd.underlying87 (by decide) (by decide) Tryd.underlying5 rfl (by kernel_rfl) rfl ?_)
          go_ret
          exact ⟨by first | rfl | (simp; done), HU2.out⟩
      · have e1 : (r0 : Int) < (l0 : Int) := by omega
        have hf : t = false := by
          cases htt : t with
          | false => rfl
          | true =>
            have hh := HT.out.1 htt
            omega
        subst hf
        clear HT HJ
        go_wp2_with (refine wpList_index_cell rfl 87 _ _ rfl 5 5 #[.int .u8 (r0 : Int), .int .u8 (r1 : Int), .int .u8 (r2 : Int), .int .u8 (r3 : Int), .int .u8 (r4 : Int)] .i64 0 _ (.int .u8 (r0 : Int)) rfl rfl Tryd.underlying87 (by decide) (by decide) Tryd.underlying5 rfl (by kernel_rfl) rfl ?_)
        go_ret
        exact ⟨by first | rfl | (simp; done), HU2.out⟩
    · by_cases q1 : l1 ≤ r1
      · have e1 : ¬ (r1 : Int) < (l1 : Int) := by omega
        by_cases q2 : r1 ≤ h1
        · have e2 : ¬ (h1 : Int) < (r1 : Int) := by omega
          have HN : Hid ((l0 ≤ r0 ∧ r0 ≤ h0) ∧ (l1 ≤ r1 ∧ r1 ≤ h1)) := ⟨HJ.out, q1, q2⟩
          clear HJ q1 q2
          go_wp2_with (refine wpList_index_cell rfl 87 _ _ rfl 5 5 #[.int .u8 (r0 : Int), .int .u8 (r1 : Int), .int .u8 (r2 : Int), .int .u8 (r3 : Int), .int .u8 (r4 : Int)] .i64 1 _ (.int .u8 (r1 : Int)) rfl rfl Tryd.underlying87 (by decide) (by decide) Tryd.underlying5 rfl (by kernel_rfl) rfl ?_)
          go_round
          case rel => exact ⟨by trivial, Or.inr (Or.inr (Or.inl ⟨by go_num, HN⟩))⟩
          case measure => simp [intOf]
        · have e2 : (h1 : Int) < (r1 : Int) := by omega
          have hf : t = false := by
            cases htt : t with
            | false => rfl
            | true =>
              have hh := HT.out.1 htt
              omega
          subst hf
          clear HT HJ
          go_wp2_with (refine wpList_index_cell rfl 87 _ _ rfl 5 5 #[.int .u8 (r0 : Int), .int .u8 (r1 : Int), .int .u8 (r2 : Int), .int .u8 (r3 : Int), .int .u8 (r4 : Int)] .i64 1 _ (.int .u8 (r1 : Int)) rfl rfl Tryd.underlying87 (by decide) (by decide) Tryd.underlying5 rfl (by kernel_rfl) rfl ?_)
          go_ret
          exact ⟨by first | rfl | (simp; done), HU2.out⟩
      · have e1 : (r1 : Int) < (l1 : Int) := by omega
        have hf : t = false := by
          cases htt : t with
          | false => rfl
          | true =>
            have hh := HT.out.1 htt
            omega
        subst hf
        clear HT HJ
        go_wp2_with (refine wpList_index_cell rfl 87 _ _ rfl 5 5 #[.int .u8 (r0 : Int), .int .u8 (r1 : Int), .int .u8 (r2 : Int), .int .u8 (r3 : Int), .int .u8 (r4 : Int)] .i64 1 _ (.int .u8 (r1 : Int)) rfl rfl Tryd.underlying87 (by decide) (by decide) Tryd.underlying5 rfl (by kernel_rfl) rfl ?_)
        go_ret
        exact ⟨by first | rfl | (simp; done), HU2.out⟩
    · by_cases q1 : l2 ≤ r2
      · have e1 : ¬ (r2 : Int) < (l2 : Int) := by omega
        by_cases q2 : r2 ≤ h2
        · have e2 : ¬ (h2 : Int) < (r2 : Int) := by omega
          have HN : Hid ((l0 ≤ r0 ∧ r0 ≤ h0) ∧ (l1 ≤ r1 ∧ r1 ≤ h1) ∧ (l2 ≤ r2 ∧ r2 ≤ h2)) := ⟨HJ.out.1, HJ.out.2, q1, q2⟩
          clear HJ q1 q2
          go_wp2_with (refine wpList_index_cell rfl 87 _ _ rfl 5 5 #[.int .u8 (r0 : Int), .int .u8 (r1 : Int), .int .u8 (r2 : Int), .int .u8 (r3 : Int), .int .u8 (r4 : Int)] .i64 2 _ (.int .u8 (r2 : Int)) rfl rfl Tryd.underlying87 (by decide) (by decide) Tryd.underlying5 rfl (by kernel_rfl) rfl ?_)
          go_round
          case rel => exact ⟨by trivial, Or.inr (Or.inr (Or.inr (Or.inl ⟨by go_num, HN⟩)))⟩
          case measure => simp [intOf]
        · have e2 : (h2 : Int) < (r2 : Int) := by omega
          have hf : t = false := by
            cases htt : t with
            | false => rfl
            | true =>
              have hh := HT.out.1 htt
              omega
          subst hf
          clear HT HJ
          go_wp2_with (refine wpList_index_cell rfl 87 _ _ rfl 5 5 #[.int .u8 (r0 : Int), .int .u8 (r1 : Int), .int .u8 (r2 : Int), .int .u8 (r3 : Int), .int .u8 (r4 : Int)] .i64 2 _ (.int .u8 (r2 : Int)) rfl rfl Tryd.underlying87 (by decide) (by decide) Tryd.underlying5 rfl (by kernel_rfl) rfl ?_)
          go_ret
          exact ⟨by first | rfl | (simp; done), HU2.out⟩
      · have e1 : (r2 : Int) < (l2 : Int) := by omega
        have hf : t = false := by
          cases htt : t with
          | false => rfl
          | true =>
            have hh := HT.out.1 htt
            omega
        subst hf
        clear HT HJ
        go_wp2_with (refine wpList_index_cell rfl 87 _ _ rfl 5 5 #[.int .u8 (r0 : Int), .int .u8 (r1 : Int), .int .u8 (r2 : Int), .int .u8 (r3 : Int), .int .u8 (r4 : Int)] .i64 2 _ (.int .u8 (r2 : Int)) rfl rfl Tryd.underlying87 (by decide) (by decide) Tryd.underlying5 rfl (by kernel_rfl) rfl ?_)
        go_ret
        exact ⟨by first | rfl | (simp; done), HU2.out⟩
    · by_cases q1 : l3 ≤ r3
      · have e1 : ¬ (r3 : Int) < (l3 : Int) := by omega
        by_cases q2 : r3 ≤ h3
        · have e2 : ¬ (h3 : Int) < (r3 : Int) := by omega
          have HN : Hid ((l0 ≤ r0 ∧ r0 ≤ h0) ∧ (l1 ≤ r1 ∧ r1 ≤ h1) ∧ (l2 ≤ r2 ∧ r2 ≤ h2) ∧ (l3 ≤ r3 ∧ r3 ≤ h3)) := ⟨HJ.out.1, HJ.out.2.1, HJ.out.2.2, q1, q2⟩
          clear HJ q1 q2
          go_wp2_with (refine wpList_index_cell rfl 87 _ _ rfl 5 5 #[.int .u8 (r0 : Int), .int .u8 (r1 : Int), .int .u8 (r2 : Int), .int .u8 (r3 : Int), .int .u8 (r4 : Int)] .i64 3 _ (.int .u8 (r3 : Int)) rfl rfl Tryd.underlying87 (by decide) (by decide) Tryd.underlying5 rfl (by kernel_rfl) rfl ?_)
          go_round
          case rel => exact ⟨by trivial, Or.inr (Or.inr (Or.inr (Or.inr (Or.inl ⟨by go_num, HN⟩))))⟩
          case measure => simp [intOf]
        · have e2 : (h3 : Int) < (r3 : Int) := by omega
          have hf : t = false := by
            cases htt : t with
            | false => rfl
            | true =>
              have hh := HT.out.1 htt
              omega
          subst hf
          clear HT HJ
          go_wp2_with (refine wpList_index_cell rfl 87 _ _ rfl 5 5 #[.int .u8 (r0 : Int), .int .u8 (r1 : Int), .int .u8 (r2 : Int), .int .u8 (r3 : Int), .int .u8 (r4 : Int)] .i64 3 _ (.int .u8 (r3 : Int)) rfl rfl Tryd.underlying87 (by decide) (by decide) Tryd.underlying5 rfl (by kernel_rfl) rfl ?_)
          go_ret
          exact ⟨by first | rfl | (simp; done), HU2.out⟩
      · have e1 : (r3 : Int) < (l3 : Int) := by omega
        have hf : t = false := by
          cases htt : t with
          | false => rfl
          | true =>
            have hh := HT.out.1 htt
            omega
        subst hf
        clear HT HJ
        go_wp2_with (refine wpList_index_cell rfl 87 _ _ rfl 5 5 #[.int .u8 (r0 : Int), .int .u8 (r1 : Int), .int .u8 (r2 : Int), .int .u8 (r3 : Int), .int .u8 (r4 : Int)] .i64 3 _ (.int .u8 (r3 : Int)) rfl rfl Tryd.underlying87 (by decide) (by decide) Tryd.underlying5 rfl (by kernel_rfl) rfl ?_)
        go_ret
        exact ⟨by first | rfl | (simp; done), HU2.out⟩
    · by_cases q1 : l4 ≤ r4
      · have e1 : ¬ (r4 : Int) < (l4 : Int) := by omega
        by_cases q2 : r4 ≤ h4
        · have e2 : ¬ (h4 : Int) < (r4 : Int) := by omega
          have HN : Hid ((l0 ≤ r0 ∧ r0 ≤ h0) ∧ (l1 ≤ r1 ∧ r1 ≤ h1) ∧ (l2 ≤ r2 ∧ r2 ≤ h2) ∧ (l3 ≤ r3 ∧ r3 ≤ h3) ∧ (l4 ≤ r4 ∧ r4 ≤ h4)) := ⟨HJ.out.1, HJ.out.2.1, HJ.out.2.2.1, HJ.out.2.2.2, q1, q2⟩
          clear HJ q1 q2
          go_wp2_with (refine wpList_index_cell rfl 87 _ _ rfl 5 5 #[.int .u8 (r0 : Int), .int .u8 (r1 : Int), .int .u8 (r2 : Int), .int .u8 (r3 : Int), .int .u8 (r4 : Int)] .i64 4 _ (.int .u8 (r4 : Int)) rfl rfl Tryd.underlying87 (by decide) (by decide) Tryd.underlying5 rfl (by kernel_rfl) rfl ?_)
          go_round
          case rel => exact ⟨by trivial, Or.inr (Or.inr (Or.inr (Or.inr (Or.inr (⟨by go_num, HN⟩)))))⟩
          case measure => simp [intOf]
        · have e2 : (h4 : Int) < (r4 : Int) := by omega
          have hf : t = false := by
            cases htt : t with
            | false => rfl
            | true =>
              have hh := HT.out.1 htt
              omega
          subst hf
          clear HT HJ
          go_wp2_with (refine wpList_index_cell rfl 87 _ _ rfl 5 5 #[.int .u8 (r0 : Int), .int .u8 (r1 : Int), .int .u8 (r2 : Int), .int .u8 (r3 : Int), .int .u8 (r4 : Int)] .i64 4 _ (.int .u8 (r4 : Int)) rfl rfl Tryd.underlying87 (by decide) (by decide) Tryd.underlying5 rfl (by kernel_rfl) rfl ?_)
          go_ret
          exact ⟨by first | rfl | (simp; done), HU2.out⟩
      · have e1 : (r4 : Int) < (l4 : Int) := by omega
        have hf : t = false := by
          cases htt : t with
          | false => rfl
          | true =>
            have hh := HT.out.1 htt
            omega
        subst hf
        clear HT HJ
        go_wp2_with (refine wpList_index_cell rfl 87 _ _ rfl 5 5 #[.int .u8 (r0 : Int), .int .u8 (r1 : Int), .int .u8 (r2 : Int), .int .u8 (r3 : Int), .int .u8 (r4 : Int)] .i64 4 _ (.int .u8 (r4 : Int)) rfl rfl Tryd.underlying87 (by decide) (by decide) Tryd.underlying5 rfl (by kernel_rfl) rfl ?_)
        go_ret
        exact ⟨by first | rfl | (simp; done), HU2.out⟩
    · have hf : t = true := HT.out.2 ⟨HJ.out.1, HJ.out.2.1, HJ.out.2.2.1, HJ.out.2.2.2.1, HJ.out.2.2.2.2⟩
      subst hf
      clear HT HJ
      go_wp2_with fail
      go_ret
      exact ⟨by first | rfl | (simp; done), HU2.out⟩
end Go.Proofs.YtojlappgmckokaaDoor
