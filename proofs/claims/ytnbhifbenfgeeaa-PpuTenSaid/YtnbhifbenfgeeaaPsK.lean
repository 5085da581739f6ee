/- A scene with sprites alone. -/
import Derived.Test.YtnbhifbenfgeeaaPsJ
import Derived.Great.BuildSlice
namespace Go.Proofs.Ytnbhifbenfgeeaa
open Go.RowKit
set_option linter.unusedVariables false
variable {b : Nat} {p : Pic}
theorem Byts.upS {W W' : World} {aa : Option Addr} {ab ao len cap : Nat} {f : Nat → Int} (h : Byts W aa ab ao len cap f) (u : Up W W') : Byts W' aa ab ao len cap f :=
  ⟨h.lc, h.cm, h.ad, h.u8, fun k hk => (u.cell (World.block_lt_of_cell? _ _ (h.cell k hk))).trans (h.cell k hk)⟩
set_option maxRecDepth 100000 in
set_option maxHeartbeats 1000000 in
theorem lone_any {W : World} {aa : Option Addr} {ab ao len cap : Nat} {f : Nat → Int} (D : Byts W aa ab ao len cap f) (oa : Option Addr) (ol oc : Nat) : Calls Try.prog 31 #[.slice aa len cap, .slice oa ol oc] W fun e w' => ∃ rg pb tb ty, e = .returned (.agg #[.slice (some ⟨rg, 0, none⟩) 12 12, .slice oa ol oc, .slice (some ⟨pb, 0, none⟩) 1 1]) ∧ RgAt w' rg loneR ∧ NmAt w' tb 16 (tileOf len f) ∧ w'.heap[pb]? = some (.cells #[.int .i64 16, .slice (some ⟨tb, 0, none⟩) 16 16] ty (0, 0)) ∧ Up W w' := by
  have HD : Hid (Byts W aa ab ao len cap f) := D
  clear D
  go_enter Try.func31, Try.ntmps31
  go_wp2_with fail
  have u1 : Up W ((W.alloc (Obj.cells #[.slice none 0 0, .slice none 0 0, .slice none 0 0] 37)).alloc (Obj.cells #[.int .i64 130, .int .i64 0, .int .i64 0, .int .i64 0, .int .i64 0, .int .i64 0, .int .i64 0, .int .i64 0, .int .i64 228, .int .i64 27, .int .i64 0, .int .i64 0] 3)) := ((Up.refl W).alloc _).alloc _
  have z1 : ((W.alloc (Obj.cells #[.slice none 0 0, .slice none 0 0, .slice none 0 0] 37)).alloc (Obj.cells #[.int .i64 130, .int .i64 0, .int .i64 0, .int .i64 0, .int .i64 0, .int .i64 0, .int .i64 0, .int .i64 0, .int .i64 228, .int .i64 27, .int .i64 0, .int .i64 0] 3)).heap.size = W.heap.size + 2 := by simp
  have k1 : ((W.alloc (Obj.cells #[.slice none 0 0, .slice none 0 0, .slice none 0 0] 37)).alloc (Obj.cells #[.int .i64 130, .int .i64 0, .int .i64 0, .int .i64 0, .int .i64 0, .int .i64 0, .int .i64 0, .int .i64 0, .int .i64 228, .int .i64 27, .int .i64 0, .int .i64 0] 3)).heap[W.heap.size]? = some (.cells #[.slice none 0 0, .slice none 0 0, .slice none 0 0] 37 (0, 0)) := (Below.heap_alloc _ _ _ (by simp)).trans (heap_alloc_new W _)
  have k2 : ((W.alloc (Obj.cells #[.slice none 0 0, .slice none 0 0, .slice none 0 0] 37)).alloc (Obj.cells #[.int .i64 130, .int .i64 0, .int .i64 0, .int .i64 0, .int .i64 0, .int .i64 0, .int .i64 0, .int .i64 0, .int .i64 228, .int .i64 27, .int .i64 0, .int .i64 0] 3)).heap[W.heap.size + 1]? = some (.cells #[.int .i64 130, .int .i64 0, .int .i64 0, .int .i64 0, .int .i64 0, .int .i64 0, .int .i64 0, .int .i64 0, .int .i64 228, .int .i64 27, .int .i64 0, .int .i64 0] 3 (0, 0)) := by
    have := heap_alloc_new (W.alloc (Obj.cells #[.slice none 0 0, .slice none 0 0, .slice none 0 0] 37)) (Obj.cells #[.int .i64 130, .int .i64 0, .int .i64 0, .int .i64 0, .int .i64 0, .int .i64 0, .int .i64 0, .int .i64 0, .int .i64 228, .int .i64 27, .int .i64 0, .int .i64 0] 3)
    simpa using this
  generalize World.alloc (World.alloc W _) _ = w1 at u1 z1 k1 k2 ⊢
  have r1 : RgAt w1 (W.heap.size + 1) loneR := by
    refine ⟨_, _, k2, rfl, fun i hi => ?_⟩
    have : i = 0 ∨ i = 1 ∨ i = 2 ∨ i = 3 ∨ i = 4 ∨ i = 5 ∨ i = 6 ∨ i = 7 ∨ i = 8 ∨ i = 9 ∨ i = 10 ∨ i = 11 := by omega
    rcases this with rfl | rfl | rfl | rfl | rfl | rfl | rfl | rfl | rfl | rfl | rfl | rfl <;> rfl
  have HB : Hid _ := blob_any (HD.out.upS u1)
  have H1 : Hid _ := And.intro u1 (And.intro z1 (And.intro k1 r1))
  clear u1 z1 k1 k2 r1
  refine Calls.mono HB.out ?_
  rintro e w2 ⟨rfl, n2, u2⟩
  have H2 : Hid _ := And.intro n2 u2
  clear n2 u2 HB
  have HSc : Hid (∀ w', Up w2 w' → w'.heap[W.heap.size]? = some (.cells #[.slice none 0 0, .slice none 0 0, .slice none 0 0] 37 (0, 0))) := fun w' u => ((H2.out.2.trans u).block _ (by have := H1.out.2.1; omega)).trans H1.out.2.2.1
  go_wp2_with (refine wpList_store_rowTo rfl 37 _ _ rfl rfl W.heap.size #[.slice (some ⟨W.heap.size + 1, 0, none⟩) 12 12, .slice oa ol oc, .slice (some ⟨w2.heap.size, 0, none⟩) 1 1] rfl rfl 37 _ (HSc.out _ ((Up.refl w2).alloc _)) (by kernel_rfl) rfl (by simp [Value.oneCell']) ?_)
  have u3 : Up w2 (w2.alloc (Obj.cells #[.int .i64 16, .slice (some ⟨w1.heap.size, 0, none⟩) 16 16] 55)) := (Up.refl w2).alloc _
  have g3 := heap_alloc_new w2 (Obj.cells #[.int .i64 16, .slice (some ⟨w1.heap.size, 0, none⟩) 16 16] 55)
  generalize World.alloc w2 _ = w3 at u3 g3 ⊢
  have h5 := setRow_heap w3 W.heap.size _ #[.slice (some ⟨W.heap.size + 1, 0, none⟩) 12 12, .slice oa ol oc, .slice (some ⟨w2.heap.size, 0, none⟩) 1 1] _ _ (HSc.out _ u3)
  have o5 : ∀ k, k ≠ W.heap.size → (w3.setRow W.heap.size #[.slice (some ⟨W.heap.size + 1, 0, none⟩) 12 12, .slice oa ol oc, .slice (some ⟨w2.heap.size, 0, none⟩) 1 1]).heap[k]? = w3.heap[k]? := fun k hk => setRow_other w3 W.heap.size k _ hk
  have s5 : (w3.setRow W.heap.size #[.slice (some ⟨W.heap.size + 1, 0, none⟩) 12 12, .slice oa ol oc, .slice (some ⟨w2.heap.size, 0, none⟩) 1 1]).heap.size = w3.heap.size := by simp [World.setRow]
  have u13 := H2.out.2.trans u3
  have z1 := H1.out.2.1
  have z2 := H2.out.2.size
  have hup : Up W (w3.setRow W.heap.size #[.slice (some ⟨W.heap.size + 1, 0, none⟩) 12 12, .slice oa ol oc, .slice (some ⟨w2.heap.size, 0, none⟩) 1 1]) := ⟨(H1.out.1.trans u13).os, (H1.out.1.trans u13).output, by rw [s5]; exact (H1.out.1.trans u13).size, fun k hk => (o5 k (by omega)).trans ((H1.out.1.trans u13).block k hk)⟩
  refine bodyPost_ret (v := .agg _) (results_row Try.results31 _ _ _ 37 _ (0, 0) _ rfl h5 Try.underlying37 rfl (by kernel_rfl)) rfl ?_
  exact ⟨_, _, _, _, rfl, H1.out.2.2.2.of_block ((o5 _ (by omega)).trans (u13.block _ H1.out.2.2.2.lt)), H2.out.1.of_block ((o5 _ (by omega)).trans (u3.block _ H2.out.1.lt)), (o5 _ (by omega)).trans g3, hup⟩
end Go.Proofs.Ytnbhifbenfgeeaa
