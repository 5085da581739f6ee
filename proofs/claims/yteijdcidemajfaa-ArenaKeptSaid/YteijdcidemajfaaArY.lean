/- ArenaSpans: what it uses. -/
import Derived.Test.YteijdcidemajfaaArX
namespace Go.Proofs.Yteijdcidemajfaa
open Go.RowKit
set_option linter.unusedVariables false
variable {K K' : Nat → Prop} {w w' W : World} {pb n : Nat} {P : Pl} {f : Nat → Int}
set_option maxRecDepth 100000 in
theorem zeros_any (hn : n ≤ 65536) (w : World) : Calls Try.prog 21 #[.int .i64 (n : Int)] w fun e w' => ∃ g, e = .returned (.slice (some ⟨g, 0, none⟩) n n) ∧ w.heap.size ≤ g ∧ NmAt w' g n (fun _ => 0) ∧ Up w w' := by
  have hmk : ∀ w : World, (Instr.makeSlice 45 (.int .i64 (n : Int)) (.int .i64 (n : Int))).run Try.prog w = .ok (.slice (some ⟨w.heap.size, 0, none⟩) n n) (w.alloc (.cells (madeCells #[.int .u8 0] n) 5)) := fun w => by
    have := run_make (P := Try.prog) w 45 5 Try.t5 (.int .u8 0) Try.underlying45 (by kernel_rfl) rfl .i64 .i64 (n : Int) (n : Int) (by omega) (by omega) (by show (1 : Int) * (n : Int) ≤ 281474976710656; omega) (by omega)
    have e1 : (Value.int .u8 0).cells = #[Value.int .u8 0] := rfl
    have e2 : Try.t5.size = 1 := rfl
    rw [e1, e2] at this
    simpa using this
  have HE : Hid (w.heap.size ≤ w.heap.size ∧ NmAt (w.alloc (.cells (madeCells #[.int .u8 0] n) 5)) w.heap.size n (fun _ => 0) ∧ Up w (w.alloc (.cells (madeCells #[.int .u8 0] n) 5))) := ⟨Nat.le_refl _, made_nm w n, (Up.refl w).alloc _⟩
  go_enter Try.func21, Try.ntmps21
  go_wp2_with fail
  go_ret
  exact ⟨w.heap.size, by first | rfl | (simp; done), HE.out⟩
theorem Lst.ofNm {g : Nat} (h : NmAt w g n f) (hn : n ≤ 65536) : Lst w g n n f := ⟨h.lt, Nat.le_refl _, by unfold maxLen; omega, fun k hk => h.cell k hk⟩
/-- one buffer was taken -/
structure One (W : World) (K : Nat → Prop) (pb n : Nat) (w : World) : Prop where
  at' : ∃ P b1, Pb W K pb P w ∧ P.ars[0]? = some (some ⟨2 * (n : Int), [⟨0, 0, n, b1, fun _ => 0⟩]⟩) ∧ P.cls = [⟨n, 0, 2, [1]⟩]
/-- two buffers were taken -/
structure Two (W : World) (K : Nat → Prop) (pb n : Nat) (f : Nat → Int) (w : World) : Prop where
  at' : ∃ P b1 b2, Pb W K pb P w ∧ P.ars[0]? = some (some ⟨2 * (n : Int), [⟨0, 0, n, b1, f⟩, ⟨1, 0, n, b2, fun _ => 0⟩]⟩)
theorem open1 (hn : n ≤ 300) (h : Pb W K pb (Pl.new [(n, 2)] 1) w) : Calls Try.prog 14 #[.pointer (some ⟨pb, 0, none⟩), .int .i64 (2 * (n : Int))] w fun e w' => e = .returned (.tuple #[.int .i64 0, .int .i64 0]) ∧ Pb W K pb ((Pl.new [(n, 2)] 1).opened (2 * (n : Int))) w' ∧ FK K w w' :=
  h.open ⟨by omega, by omega⟩ (by omega) (by show 0 < 1; decide)
theorem take1 (h1 : 1 ≤ n) (hn : n ≤ 300) (h : Pb W K pb ((Pl.new [(n, 2)] 1).opened (2 * (n : Int))) w) : Calls Try.prog 15 #[.pointer (some ⟨pb, 0, none⟩), .int .i64 0, .int .i64 (n : Int), .int .i64 0] w fun e w' => e = .returned (.tuple #[.agg #[.int .i64 0, .int .i64 0, .int .i64 (n : Int)], .int .i64 0]) ∧ One W K pb n w' ∧ FK K w w' := by
  refine (h.take (i := 0) (c := 0) (r := 0) (buf := 0) (a := ⟨2 * (n : Int), []⟩) (x := ⟨n, 0, 2, [0, 1]⟩) (size := (n : Int)) (pk := 0) ⟨by omega, by omega⟩ ⟨by decide, by decide⟩ rfl ⟨by show _ ≤ 2 * (n : Int); omega, by show 2 * (n : Int) ≤ _; omega⟩ (by omega) ?_ rfl ?_ (by show pickI 0 2 = _; decide) rfl).mono fun e w' ⟨g1, ⟨blk, g2⟩, g3⟩ => ⟨g1, ⟨_, blk, g2, rfl, rfl⟩, g3⟩
  · unfold Pl.classFor
    exact findIdx_hit (x := ⟨n, 0, 2, [0, 1]⟩) rfl (by simp) fun j y hj => absurd hj (by omega)
  · show ((0 : Nat) : Int) + (n : Int) ≤ 2 * (n : Int)
    omega
theorem take2 (h1 : 1 ≤ n) (hn : n ≤ 300) (h : One W K pb n w) : Calls Try.prog 15 #[.pointer (some ⟨pb, 0, none⟩), .int .i64 0, .int .i64 1, .int .i64 0] w fun e w' => e = .returned (.tuple #[.agg #[.int .i64 1, .int .i64 0, .int .i64 (n : Int)], .int .i64 0]) ∧ Two W K pb n (fun _ => 0) w' ∧ FK K w w' := by
  obtain ⟨P, b1, h, ha, hc⟩ := h.at'
  have hx : P.cls[0]? = some ⟨n, 0, 2, [1]⟩ := by rw [hc]; rfl
  refine (h.take (i := 0) (c := 0) (r := 0) (buf := 1) (size := 1) (pk := 0) ⟨by decide, by decide⟩ ⟨by decide, by decide⟩ ha ⟨by show _ ≤ 2 * (n : Int); omega, by show 2 * (n : Int) ≤ _; omega⟩ (by decide) ?_ hx ?_ (by show pickI 0 1 = _; decide) rfl).mono fun e w' ⟨g1, ⟨blk, g2⟩, g3⟩ => ⟨g1, ⟨_, b1, blk, g2, ?_⟩, g3⟩
  · unfold Pl.classFor
    rw [hc]
    exact findIdx_hit (x := ⟨n, 0, 2, [1]⟩) rfl (by simp; omega) fun j y hj => absurd hj (by omega)
  · show ((n + 0 : Nat) : Int) + (n : Int) ≤ 2 * (n : Int)
    omega
  · have hl := (List.getElem?_eq_some_iff.1 ha).1
    unfold Pl.taken Pl.setArn Pl.setFree
    dsimp only
    rw [List.getElem?_set, if_pos rfl, if_pos hl]
    rfl
theorem Two.more (h : Two W K pb n f w) (u : Up w w') : Two W K pb n f w' := by
  obtain ⟨P, b1, b2, h1, h2⟩ := h.at'
  exact ⟨P, b1, b2, h1.more u, h2⟩
theorem One.add (h : One W K pb n w) (u : Up w w') {c : Nat} (h1 : w.heap.size ≤ c) (h2 : c < w'.heap.size) : One W (fun b => K b ∨ b = c) pb n w' := by
  obtain ⟨P, b1, g1, g2⟩ := h.at'
  exact ⟨P, b1, g1.moreK u (fun b hb => hb.imp id (fun e => by omega)) (fun b hb => Or.inl (g1.ko b hb)), g2⟩
theorem Two.add (h : Two W K pb n f w) (u : Up w w') {c : Nat} (h1 : w.heap.size ≤ c) (h2 : c < w'.heap.size) : Two W (fun b => K b ∨ b = c) pb n f w' := by
  obtain ⟨P, b1, b2, g1, g2⟩ := h.at'
  exact ⟨P, b1, b2, g1.moreK u (fun b hb => hb.imp id (fun e => by omega)) (fun b hb => Or.inl (g1.ko b hb)), g2⟩
theorem Two.up (h : Two W K pb n f w) : Up W w := by
  obtain ⟨P, b1, b2, g1, g2⟩ := h.at'
  exact g1.up
theorem Two.frB (h : Two W K pb n f w) {c : Nat} (fr : Fr c w w') (hc : K c) (hw : W.heap.size ≤ c) : Two W K pb n f w' := by
  obtain ⟨P, b1, b2, g1, g2⟩ := h.at'
  exact ⟨P, b1, b2, g1.frB fr hc hw, g2⟩
theorem span2 {b1 b2 : Nat} {at' m : Int} (h : P.ars[0]? = some (some ⟨2 * (n : Int), [⟨0, 0, n, b1, f⟩, ⟨1, 0, n, b2, fun _ => 0⟩]⟩)) :
    P.span 0 0 at' m = (if at' < 0 ∨ m < 0 ∨ (n : Int) - at' < m then .err 98 else .ok ⟨0, 0, n, b1, f⟩ at'.toNat m.toNat) ∧
    P.span 0 1 at' m = (if at' < 0 ∨ m < 0 ∨ (n : Int) - at' < m then .err 98 else .ok ⟨1, 0, n, b2, fun _ => 0⟩ at'.toNat m.toNat) := by
  have e : P.arn 0 = _ := Pl.arn_nat (i := 0) h
  unfold Pl.span
  rw [e]
  exact ⟨rfl, rfl⟩
theorem Lst.zero {g cap : Nat} {f g' : Nat → Int} (h : Lst w g n cap f) (e : ∀ k, k < n → f k = g' k) : Lst w g n cap g' := ⟨h.lt, h.nc, h.cm, fun k hk => e k hk ▸ h.cell k hk⟩
theorem Two.load0 (h : Two W K pb n f w) (hn : n ≤ 300) : Calls Try.prog 20 #[.pointer (some ⟨pb, 0, none⟩), .int .i64 0, .int .i64 0, .int .i64 0, .int .i64 (n : Int)] w fun e w' => ∃ g cap, e = .returned (.tuple #[.slice (some ⟨g, 0, none⟩) n cap, .int .i64 0]) ∧ Lst w' g n cap f ∧ Up w w' := by
  obtain ⟨P, b1, b2, g1, g2⟩ := h.at'
  refine (g1.load (l := ⟨0, 0, n, b1, f⟩) (A0 := 0) (N0 := n) ⟨by decide, by decide⟩ ⟨by decide, by decide⟩ ⟨by decide, by decide⟩ ⟨by omega, by omega⟩ ?_).mono fun e w' ⟨g, cap, e1, e2, e3, e4⟩ => ⟨g, cap, e1, e3.zero (fun k _ => by rw [Nat.zero_add]), e4⟩
  rw [(span2 g2).1, if_neg (by omega)]
  rfl
theorem Two.load1 (h : Two W K pb n f w) (hn : n ≤ 300) : Calls Try.prog 20 #[.pointer (some ⟨pb, 0, none⟩), .int .i64 0, .int .i64 1, .int .i64 0, .int .i64 (n : Int)] w fun e w' => ∃ g cap, e = .returned (.tuple #[.slice (some ⟨g, 0, none⟩) n cap, .int .i64 0]) ∧ Lst w' g n cap (fun _ => 0) ∧ Up w w' := by
  obtain ⟨P, b1, b2, g1, g2⟩ := h.at'
  refine (g1.load (l := ⟨1, 0, n, b2, fun _ => 0⟩) (A0 := 0) (N0 := n) ⟨by decide, by decide⟩ ⟨by decide, by decide⟩ ⟨by decide, by decide⟩ ⟨by omega, by omega⟩ ?_).mono fun e w' ⟨g, cap, e1, e2, e3, e4⟩ => ⟨g, cap, e1, e3, e4⟩
  rw [(span2 g2).2, if_neg (by omega)]
  rfl
theorem Two.loadE (h : Two W K pb n f w) {at' m : Int} (ha : I64 at') (hm : I64 m) (hb : at' < 0 ∨ m < 0 ∨ (n : Int) - at' < m) : Calls Try.prog 20 #[.pointer (some ⟨pb, 0, none⟩), .int .i64 0, .int .i64 0, .int .i64 at', .int .i64 m] w fun e w' => e = .returned (.tuple #[.slice none 0 0, .int .i64 98]) ∧ Up w w' := by
  obtain ⟨P, b1, b2, g1, g2⟩ := h.at'
  refine g1.loadErr ⟨by decide, by decide⟩ ⟨by decide, by decide⟩ ha hm ?_
  rw [(span2 g2).1, if_pos hb]
theorem Two.storeE (h : Two W K pb n f w) (hn : n ≤ 300) {ba : Option Addr} {bc : Nat} : Calls Try.prog 19 #[.pointer (some ⟨pb, 0, none⟩), .int .i64 0, .int .i64 0, .int .i64 (n : Int), .slice ba 1 bc] w fun e w' => e = .returned (.int .i64 98) ∧ Up w w' := by
  obtain ⟨P, b1, b2, g1, g2⟩ := h.at'
  refine g1.storeErr ⟨by decide, by decide⟩ ⟨by decide, by decide⟩ ⟨by omega, by omega⟩ (by decide) ?_
  rw [(span2 g2).1, if_pos (by omega)]
theorem Two.store (h : Two W K pb n f w) (hn : n ≤ 300) {k bb bo bl bc : Nat} {ba : Option Addr} {fb : Nat → Int} (hk : k + bl ≤ n) (D : Byts w ba bb bo bl bc fb) (hb : 0 < bl → K bb) : Calls Try.prog 19 #[.pointer (some ⟨pb, 0, none⟩), .int .i64 0, .int .i64 0, .int .i64 (k : Int), .slice ba bl bc] w fun e w' => e = .returned (.int .i64 0) ∧ Two W K pb n (fun j => if k ≤ j ∧ j < k + bl then fb (j - k) else f j) w' ∧ FK K w w' := by
  obtain ⟨P, b1, b2, g1, g2⟩ := h.at'
  refine (g1.store (i := 0) (p := 0) (b := 0) (l := ⟨0, 0, n, b1, f⟩) ⟨by decide, by decide⟩ (by omega) g2 rfl rfl hk D hb).mono fun e w' ⟨e1, e2, e3⟩ => ⟨e1, ⟨_, b1, b2, e2, ?_⟩, e3⟩
  have hl := (List.getElem?_eq_some_iff.1 g2).1
  unfold Pl.stored Pl.setArn
  dsimp only
  rw [List.getElem?_set, if_pos rfl, if_pos hl]
  rfl
/-- .. and where their numbers are written -/
structure St (W : World) (K : Nat → Prop) (pb xb yb n : Nat) (f : Nat → Int) (w : World) : Prop where
  two : Two W K pb n f w
  x : w.cell? ⟨xb, 0, none⟩ = some (.int .i64 0)
  y : w.cell? ⟨yb, 0, none⟩ = some (.int .i64 1)
  kx : K xb
  ky : K yb
variable {xb yb : Nat}
theorem cell_up (u : Up w w') {g k : Nat} {v : Value} (h : w.cell? ⟨g, k, none⟩ = some v) : w'.cell? ⟨g, k, none⟩ = some v := (u.cell (World.block_lt_of_cell? _ _ h)).trans h
theorem cell_block {g k : Nat} (e : w'.heap[g]? = w.heap[g]?) : w'.cell? ⟨g, k, none⟩ = w.cell? ⟨g, k, none⟩ := by
  unfold World.cell?
  simp only [e]
theorem St.more (h : St W K pb xb yb n f w) (u : Up w w') : St W K pb xb yb n f w' := ⟨h.two.more u, cell_up u h.x, cell_up u h.y, h.kx, h.ky⟩
theorem St.add (h : St W K pb xb yb n f w) (u : Up w w') {c : Nat} (h1 : w.heap.size ≤ c) (h2 : c < w'.heap.size) : St W (fun b => K b ∨ b = c) pb xb yb n f w' := ⟨h.two.add u h1 h2, cell_up u h.x, cell_up u h.y, Or.inl h.kx, Or.inl h.ky⟩
theorem St.fk {f' : Nat → Int} (h : St W K pb xb yb n f w) (t : Two W K pb n f' w') (u : FK K w w') : St W K pb xb yb n f' w' := ⟨t, (cell_block (u.block xb (World.block_lt_of_cell? _ _ h.x) h.kx)).trans h.x, (cell_block (u.block yb (World.block_lt_of_cell? _ _ h.y) h.ky)).trans h.y, h.kx, h.ky⟩
theorem St.frB (h : St W K pb xb yb n f w) {c : Nat} (fr : Fr c w w') (hc : K c) (hw : W.heap.size ≤ c) (nx : xb ≠ c) (ny : yb ≠ c) : St W K pb xb yb n f w' := ⟨h.two.frB fr hc hw, (cell_block (fr.block xb (World.block_lt_of_cell? _ _ h.x) nx)).trans h.x, (cell_block (fr.block yb (World.block_lt_of_cell? _ _ h.y) ny)).trans h.y, h.kx, h.ky⟩
set_option maxRecDepth 100000 in
theorem want_at {g k : Nat} (hk : k ≤ n) (hn : n ≤ 300) : ∃ zv : Option Addr, (k < n → zv = some ⟨g, k, none⟩) ∧ ∀ w : World, (Instr.slice 45 (.slice (some ⟨g, 0, none⟩) n n) (some (.int .i64 (k : Int))) none none).run Try.prog w = .ok (.slice zv (n - k) (n - k)) w := by
  refine ⟨if n = k then some ⟨g, 0, none⟩ else some ⟨g, k, none⟩, fun h => by rw [if_neg (by omega)], fun w => ?_⟩
  have e2 : ∀ w : World, (sizeOf (Try.prog.elem 45)).run Try.prog w = .ok 1 w := fun w => by kernel_rfl
  rw [run_slice_l w _ _ _ _ Try.underlying45 _ _ (by omega) (by omega), e2]
  simp only [Result.andThen, sliced, Int.toNat_natCast, Nat.mul_one]
  by_cases e : n = k
  · rw [if_pos e, if_pos e]
  · rw [if_neg e, if_neg e]
    simp [Addr.add]
    intro h
    omega
set_option maxRecDepth 100000 in
theorem cut_at {g o sl sc m : Nat} (hm : m < sl) (hc : sl ≤ sc) (w : World) : (Instr.slice 45 (.slice (some ⟨g, o, none⟩) sl sc) none (some (.int .i64 (m : Int))) none).run Try.prog w = .ok (.slice (some ⟨g, o, none⟩) m sc) w := by
  have e2 : ∀ w : World, (sizeOf (Try.prog.elem 45)).run Try.prog w = .ok 1 w := fun w => by kernel_rfl
  rw [run_slice_h w _ _ _ _ Try.underlying45 _ _ (by omega) (by omega), e2]
  simp only [Result.andThen, sliced, Int.toNat_natCast, Nat.mul_one, Nat.sub_zero]
  rw [if_neg (by omega)]
  simp [Addr.add]
set_option maxRecDepth 100000 in
theorem copy_want {zb k bb bo bl bc : Nat} {zv ba : Option Addr} {fb : Nat → Int} (hk : k + bl ≤ n) (hz : k < n → zv = some ⟨zb, k, none⟩) (N : NmAt w zb n (fun _ => 0)) (D : Byts w ba bb bo bl bc fb) :
    ∃ w', (∀ ty, (Builtin.copy_ #[45, 45] ty #[.slice zv (n - k) (n - k), .slice ba bl bc]).run Try.prog w = .ok (goInt bl) w') ∧ NmAt w' zb n (fun j => if k ≤ j ∧ j < k + bl then fb (j - k) else 0) ∧ Fr zb w w' := by
  by_cases h0 : bl = 0
  · subst h0
    refine ⟨w, fun ty => run_copy_none w _ _ ty 5 zv ba _ _ _ _ Try.underlying45 (by kernel_rfl) (by simp), N.congr (fun j hj => ?_), Fr.refl _ _⟩
    rw [if_neg (by omega)]
  · obtain rfl := D.ad (by omega)
    obtain rfl := hz (by omega)
    have hl : ((List.range' 0 bl).map (fun k => Value.int .u8 (fb k))).length = bl := by simp
    have := fun ty => run_copy_cells w 45 45 ty 5 zb k (n - k) (n - k) ⟨bb, bo, none⟩ bl bc ((List.range' 0 bl).map (fun k => .int .u8 (fb k))) Try.underlying45 (by kernel_rfl) (by rw [hl]; exact (Nat.min_eq_left (by omega)).symm) (fun j v hj => by
      have hjn : j < bl := by have := (List.getElem?_eq_some_iff.1 hj).1; simpa using this
      rw [List.getElem?_map, List.getElem?_range' hjn] at hj
      simp at hj
      rw [Addr.add_lit, ← hj]
      exact D.cell j hjn) (fun j hj => by
      have hjn : j < bl := by simpa using hj
      rw [N.cell (k + j) (by omega)]
      rfl) (fun j hj => N.fz _) (fun v hv => by
      obtain ⟨k, _, rfl⟩ := List.mem_map.1 hv
      rfl)
    exact ⟨_, fun ty => by have h := this ty; rw [hl] at h; exact h, N.setCells k bl fb hk, fr_setCells zb _ k w⟩
theorem Two.ko (h : Two W K pb n f w) (b : Nat) (hb : b < W.heap.size) : K b := by
  obtain ⟨P, b1, b2, g1, g2⟩ := h.at'
  exact g1.ko b hb
/-- .. and what is wanted -/
structure Sw (W : World) (K : Nat → Prop) (pb xb yb n : Nat) (f : Nat → Int) (zb : Nat) (w : World) : Prop where
  st : St W K pb xb yb n f w
  nm : NmAt w zb n f
theorem Sw.more {zb : Nat} (h : Sw W K pb xb yb n f zb w) (u : Up w w') : Sw W K pb xb yb n f zb w' := ⟨h.st.more u, h.nm.of_block (u.block _ h.nm.lt)⟩
end Go.Proofs.Yteijdcidemajfaa
