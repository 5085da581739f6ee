/- Block: bytes, copies of them, sectors. -/
import Derived.Test.YtekffilokdmfgaaBkA
namespace Go.Proofs.Ytekffilokdmfgaa
open Go.Shelf Go.RowKit
set_option linter.unusedVariables false
variable {w w' W : World}
/-- bytes in a block: n of them at its beginning, as f says -/
structure By (w : World) (g n : Nat) (f : Nat → Int) : Prop where
  row : ∃ cs ty, w.heap[g]? = some (.cells cs ty (0, 0)) ∧ n ≤ cs.size ∧ ∀ k, k < n → cs[k]? = some (.int .u8 (f k))
variable {g n m o : Nat} {f f' : Nat → Int}
theorem By.lt (h : By w g n f) : g < w.heap.size := by
  obtain ⟨cs, ty, h1, _⟩ := h.row
  exact heap_at h1
theorem By.cell (h : By w g n f) (k : Nat) (hk : k < n) : w.cell? ⟨g, k, none⟩ = some (.int .u8 (f k)) := by
  obtain ⟨cs, ty, h1, h2, h3⟩ := h.row
  exact heap_cell h1 (h3 k hk)
theorem By.fz (h : By w g n f) (k : Nat) : w.frozen? ⟨g, k, none⟩ = false := by
  obtain ⟨cs, ty, h1, _⟩ := h.row
  exact heap_fz h1
theorem By.of_block (h : By w g n f) (e : w'.heap[g]? = w.heap[g]?) : By w' g n f := by
  obtain ⟨cs, ty, h1, h2⟩ := h.row
  exact ⟨cs, ty, e.trans h1, h2⟩
theorem By.up (h : By w g n f) (u : Up w w') : By w' g n f := h.of_block (u.block g h.lt)
theorem By.congr (h : By w g n f) (e : ∀ k, k < n → f k = f' k) : By w g n f' := by
  obtain ⟨cs, ty, h1, h2, h3⟩ := h.row
  exact ⟨cs, ty, h1, h2, fun k hk => by rw [← e k hk]; exact h3 k hk⟩
/-- m bytes of h laid over f at o -/
def putF (f : Nat → Int) (o m : Nat) (h : Nat → Int) : Nat → Int := fun k => if o ≤ k ∧ k < o + m then h (k - o) else f k
theorem putF_in (f h : Nat → Int) {o m k : Nat} (h1 : o ≤ k) (h2 : k < o + m) : putF f o m h k = h (k - o) := if_pos ⟨h1, h2⟩
theorem putF_out (f h : Nat → Int) {o m k : Nat} (h1 : ¬ (o ≤ k ∧ k < o + m)) : putF f o m h k = f k := if_neg h1
theorem putF_congr {f f' h h' : Nat → Int} {o m k : Nat} (e1 : f k = f' k) (e2 : ∀ j, j < m → h j = h' j) : putF f o m h k = putF f' o m h' k := by
  unfold putF
  by_cases e : o ≤ k ∧ k < o + m
  · rw [if_pos e, if_pos e, e2 _ (by omega)]
  · rw [if_neg e, if_neg e, e1]
/-- a row of bytes as a list of values -/
def byL (f : Nat → Int) (m : Nat) : List Value := (List.range' 0 m).map (fun k => .int .u8 (f k))
theorem byL_len (f : Nat → Int) (m : Nat) : (byL f m).length = m := by unfold byL; simp
theorem byL_at {f : Nat → Int} {m k : Nat} (hk : k < m) : (byL f m)[k]? = some (.int .u8 (f k)) := by
  unfold byL
  rw [List.getElem?_map, List.getElem?_range' hk]
  simp
theorem byL_one (f : Nat → Int) (m : Nat) : ∀ v ∈ byL f m, v.oneCell' = true := by
  intro v hv
  unfold byL at hv
  obtain ⟨k, _, rfl⟩ := List.mem_map.1 hv
  rfl
theorem By.setCells (h : By w g n f) (o m : Nat) (h' : Nat → Int) (hm : o + m ≤ n) : By (w.setCells g o (byL h' m)) g n (putF f o m h') := by
  obtain ⟨cs, ty, h1, h2, h3⟩ := h.row
  have hl := byL_len h' m
  refine ⟨_, ty, heap_setCells_same g ty _ o cs w h1, by rw [putL_size]; exact h2, fun k hk => ?_⟩
  rw [putL_at _ _ _ _ (by rw [hl]; omega), hl]
  unfold putF
  by_cases e : o ≤ k ∧ k < o + m
  · rw [if_pos e, if_pos e, byL_at (by omega)]
  · rw [if_neg e, if_neg e]
    exact h3 k hk
theorem By.set (h : By w g n f) (i : Nat) (hi : i < n) (x : Int) : By (w.setCell ⟨g, i, none⟩ (.int .u8 x)) g n (putF f i 1 (fun _ => x)) := by
  have := h.setCells i 1 (fun _ => x) (by omega)
  exact this
theorem made_by (w : World) (n : Nat) (ty : TypeId) : By (w.alloc (.cells (madeCells #[.int .u8 0] n) ty)) w.heap.size n (fun _ => 0) := by
  refine ⟨_, _, heap_alloc_new w _, by simp [madeCells], fun k hk => ?_⟩
  simp [madeCells, hk, Nat.mod_one]
theorem mkB (w : World) (N : Nat) (hN : N ≤ 1073741824) : (Instr.makeSlice 25 (.int .i64 (N : Int)) (.int .i64 (N : Int))).run Try.prog w = .ok (.slice (some ⟨w.heap.size, 0, none⟩) N N) (w.alloc (.cells (madeCells #[.int .u8 0] N) 5)) := by
  have := run_make (P := Try.prog) w 25 5 Try.t5 (.int .u8 0) Try.underlying25 (by kernel_rfl) rfl .i64 .i64 (N : Int) (N : Int) (by omega) (by omega) (by show (1 : Int) * (N : Int) ≤ 281474976710656; omega) (by omega)
  have e1 : (Value.int .u8 0).cells = #[Value.int .u8 0] := rfl
  have e2 : Try.t5.size = 1 := rfl
  rw [e1, e2] at this
  simpa using this
theorem mkM (w : World) (N : Nat) (hN : N ≤ 1073741824) : (Instr.makeSlice 58 (.int .i64 (N : Int)) (.int .i64 (N : Int))).run Try.prog w = .ok (.slice (some ⟨w.heap.size, 0, none⟩) N N) (w.alloc (.cells (madeCells #[.int .u8 0] N) 5)) := by
  have := run_make (P := Try.prog) w 58 5 Try.t5 (.int .u8 0) Try.underlying58 (by kernel_rfl) rfl .i64 .i64 (N : Int) (N : Int) (by omega) (by omega) (by show (1 : Int) * (N : Int) ≤ 281474976710656; omega) (by omega)
  have e1 : (Value.int .u8 0).cells = #[Value.int .u8 0] := rfl
  have e2 : Try.t5.size = 1 := rfl
  rw [e1, e2] at this
  simpa using this
/-- a list of bytes, as the law has it -/
theorem Byts.upB {aa : Option Addr} {ab ao c : Nat} (h : Byts w aa ab ao n c f) (u : Up w w') : Byts w' aa ab ao n c f :=
  ⟨h.lc, h.cm, h.ad, h.u8, fun k hk => (u.cell (World.block_lt_of_cell? _ _ (h.cell k hk))).trans (h.cell k hk)⟩
theorem Ints.upI {aa : Option Addr} {ab ao c : Nat} (h : Ints w aa ab ao n c f) (u : Up w w') : Ints w' aa ab ao n c f :=
  ⟨h.lc, h.cm, h.ad, h.i64, fun k hk => (u.cell (World.block_lt_of_cell? _ _ (h.cell k hk))).trans (h.cell k hk)⟩
theorem By.byts {c : Nat} (h : By w g n f) (hc : n ≤ c) (hm : c ≤ maxLen) (h8 : ∀ k, 0 ≤ f k ∧ f k ≤ 255) : Byts w (some ⟨g, 0, none⟩) g 0 n c f :=
  ⟨hc, hm, fun _ => rfl, h8, fun k hk => by rw [Nat.zero_add]; exact h.cell k hk⟩
def cloRen : Go.Shelf.Ren := ⟨fun | 41 => 36 | n => n, fun | 22 => 25 | 23 => 5 | 4 => 4 | n => n, fun | n => n⟩
theorem cloB : Go.Proofs.SlLaysE0.n41 Try.prog cloRen := {
  mixed := by kernel_rfl
  f41 := ⟨Try.f36.name, by decide, Try.func36.trans (congrArg some (by kernel_rfl))⟩
  t4 := Try.underlying4
  a4 := Try.isAgg4
  z4 := Try.sizeOf4
  v4 := Try.zeroValue4
  t22 := Try.underlying25
  a22 := Try.isAgg25
  z22 := Try.sizeOf25
  v22 := Try.zeroValue25 }
def cloRenM : Go.Shelf.Ren := ⟨fun | 41 => 40 | n => n, fun | 22 => 58 | 23 => 5 | 4 => 4 | n => n, fun | n => n⟩
theorem cloM : Go.Proofs.SlLaysE0.n41 Try.prog cloRenM := {
  mixed := by kernel_rfl
  f41 := ⟨Try.f40.name, by decide, Try.func40.trans (congrArg some (by kernel_rfl))⟩
  t4 := Try.underlying4
  a4 := Try.isAgg4
  z4 := Try.sizeOf4
  v4 := Try.zeroValue4
  t22 := Try.underlying58
  a22 := Try.isAgg58
  z22 := Try.sizeOf58
  v22 := Try.zeroValue58 }
/-- what a copy gives -/
def Cop (W : World) (n : Nat) (f : Nat → Int) (e : Ending) (w' : World) : Prop := ∃ g' cap', e = .returned (.slice (some ⟨g', 0, none⟩) n cap') ∧ W.heap.size ≤ g' ∧ By w' g' n f ∧ n ≤ cap' ∧ cap' ≤ maxLen ∧ Up W w'
theorem cop_of {e : Ending} {base : Nat} {ty : TypeId} {v' : Value} (hb : base = W.heap.size) (h1 : e = .returned v') (h2 : w'.ownsRow base ty 1 v' n (byL f n)) (h3 : v' ≠ .slice none 0 0) (h4 : Below W.heap.size W w') : Cop W n f e w' := by
  rcases h2.2 with ⟨hv, _⟩ | ⟨g', cap', cur, hv, hbase, hg, hn', hcm, hcs, htk⟩
  · exact absurd hv h3
  · refine ⟨g', cap', by rw [h1, hv], by omega, ⟨cur, ty, hg, by omega, fun k hk => ?_⟩, hn', hcm, Up.ofBelow h4⟩
    rw [own_at htk k (by omega)]
    exact byL_at hk
theorem cloneB_any {cap : Nat} (hn : n ≤ 4194304) (hc : ∀ k, k < n → W.cell? ⟨g, o + k, none⟩ = some (.int .u8 (f k))) :
    Calls Try.prog 36 #[.slice (some ⟨g, o, none⟩) n cap] W (Cop W n f) := by
  refine (Go.Proofs.AnyE.slices_Clone cloB Try.t5 (.int .u8 0) 1 1 (by kernel_rfl) (by kernel_rfl) (by kernel_rfl) (by kernel_rfl) rfl (by decide) Try.sizeOf5 g o n cap (byL f n) W (by rw [byL_len, Nat.mul_one]) (by unfold maxLen; omega) (by omega) (fun j u hj => ?_) (byL_one f n)).mono ?_
  · have hjn : j < n := by have := (List.getElem?_eq_some_iff.1 hj).1; rwa [byL_len] at this
    rw [byL_at hjn] at hj
    rw [← hj]
    exact hc j hjn
  · rintro e w' ⟨v', h1, h2, h3, h4⟩
    exact cop_of rfl h1 h2 h3 h4
theorem cloneM_any {cap : Nat} (hn : n ≤ 4194304) (hc : ∀ k, k < n → W.cell? ⟨g, o + k, none⟩ = some (.int .u8 (f k))) :
    Calls Try.prog 40 #[.slice (some ⟨g, o, none⟩) n cap] W (Cop W n f) := by
  refine (Go.Proofs.AnyE.slices_Clone cloM Try.t5 (.int .u8 0) 1 1 (by kernel_rfl) (by kernel_rfl) (by kernel_rfl) (by kernel_rfl) rfl (by decide) Try.sizeOf5 g o n cap (byL f n) W (by rw [byL_len, Nat.mul_one]) (by unfold maxLen; omega) (by omega) (fun j u hj => ?_) (byL_one f n)).mono ?_
  · have hjn : j < n := by have := (List.getElem?_eq_some_iff.1 hj).1; rwa [byL_len] at this
    rw [byL_at hjn] at hj
    rw [← hj]
    exact hc j hjn
  · rintro e w' ⟨v', h1, h2, h3, h4⟩
    exact cop_of rfl h1 h2 h3 h4
set_option maxRecDepth 100000 in
/-- a sector, cut out -/
theorem sector_any {i nc : Nat} (hi : i < n) (hn : n ≤ 4096) (hc : 512 * n ≤ nc) (hm : nc ≤ maxLen) :
    Calls Try.prog 37 #[.slice (some ⟨g, 0, none⟩) (512 * n) nc, .int .i64 (i : Int)] W fun e w' => e = .returned (.slice (some ⟨g, 512 * i, none⟩) 512 512) ∧ w' = W := by
  have hm2 : nc ≤ 9223372036854775807 := by unfold maxLen at hm; omega
  have e1 : (i : Int) * 512 = ((512 * i : Nat) : Int) := by omega
  have b1 : 512 * i + 512 ≤ 512 * n := by omega
  have b2 : 512 * n ≤ 2097152 := by omega
  generalize 512 * n = N at *
  generalize 512 * i = I at *
  clear hi hn hm
  go_enter Try.func37, Try.ntmps37
  go_wp2
  go_ret
  exact ⟨by rw [Nat.add_sub_cancel_left]; rfl, rfl⟩
end Go.Proofs.Ytekffilokdmfgaa
