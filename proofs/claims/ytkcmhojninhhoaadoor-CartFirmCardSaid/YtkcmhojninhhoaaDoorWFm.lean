/- CartFirm: the walk. -/
import Derived.Test.YtkcmhojninhhoaaDoorCbP
import Derived.Deep.DeepCutAuto
import Derived.Great.BuildSlice
namespace Go.Proofs.YtkcmhojninhhoaaDoor
open Go.Shelf Go.RowKit
set_option linter.unusedVariables false
set_option linter.unusedSimpArgs false
variable {W : World}
set_option maxRecDepth 100000 in
theorem box_cells : ∀ k : Fin 13, ∀ j : Fin 8, (#[.int .i64 2, .int .i64 0, .int .i64 0, .int .i64 0, .int .i64 0, .slice none 0 0, .slice none 0 0, .bool false, .int .i64 4, .int .i64 0, .int .i64 0, .int .i64 0, .int .i64 0, .slice none 0 0, .slice none 0 0, .bool false, .int .i64 255, .int .i64 0, .int .i64 0, .int .i64 0, .int .i64 0, .slice none 0 0, .slice none 0 0, .bool false, .int .i64 0, .int .i64 1, .int .i64 0, .int .i64 0, .int .i64 0, .slice none 0 0, .slice none 0 0, .bool false, .int .i64 5, .int .i64 4, .int .i64 0, .int .i64 0, .int .i64 0, .slice none 0 0, .slice none 0 0, .bool false, .int .i64 1, .int .i64 0, .int .i64 2, .int .i64 0, .int .i64 0, .slice none 0 0, .slice none 0 0, .bool false, .int .i64 5, .int .i64 0, .int .i64 2, .int .i64 0, .int .i64 0, .slice none 0 0, .slice none 0 0, .bool false, .int .i64 19, .int .i64 0, .int .i64 4, .int .i64 0, .int .i64 0, .slice none 0 0, .slice none 0 0, .bool false, .int .i64 27, .int .i64 0, .int .i64 1, .int .i64 0, .int .i64 0, .slice none 0 0, .slice none 0 0, .bool false, .int .i64 9, .int .i64 0, .int .i64 3, .int .i64 0, .int .i64 0, .slice none 0 0, .slice none 0 0, .bool false, .int .i64 3, .int .i64 0, .int .i64 6, .int .i64 0, .int .i64 0, .slice none 0 0, .slice none 0 0, .bool false, .int .i64 26, .int .i64 0, .int .i64 0, .int .i64 0, .int .i64 0, .slice none 0 0, .slice none 0 0, .bool false, .int .i64 0, .int .i64 0, .int .i64 2, .int .i64 0, .int .i64 0, .slice none 0 0, .slice none 0 0, .bool false] : Array Value)[k.val * 8 + j.val]? = ([.int .i64 (tyT k.val : Int), .int .i64 (rcT k.val : Int), .int .i64 (rmT k.val : Int), .int .i64 0, .int .i64 0, .slice none 0 0, .slice none 0 0, .bool false] : List Value)[j.val]? := by
  intro k j
  match k, j with

  | ⟨0, _⟩, ⟨0, _⟩ => rfl
  | ⟨0, _⟩, ⟨1, _⟩ => rfl
  | ⟨0, _⟩, ⟨2, _⟩ => rfl
  | ⟨0, _⟩, ⟨3, _⟩ => rfl
  | ⟨0, _⟩, ⟨4, _⟩ => rfl
  | ⟨0, _⟩, ⟨5, _⟩ => rfl
  | ⟨0, _⟩, ⟨6, _⟩ => rfl
  | ⟨0, _⟩, ⟨7, _⟩ => rfl
  | ⟨1, _⟩, ⟨0, _⟩ => rfl
  | ⟨1, _⟩, ⟨1, _⟩ => rfl
  | ⟨1, _⟩, ⟨2, _⟩ => rfl
  | ⟨1, _⟩, ⟨3, _⟩ => rfl
  | ⟨1, _⟩, ⟨4, _⟩ => rfl
  | ⟨1, _⟩, ⟨5, _⟩ => rfl
  | ⟨1, _⟩, ⟨6, _⟩ => rfl
  | ⟨1, _⟩, ⟨7, _⟩ => rfl
  | ⟨2, _⟩, ⟨0, _⟩ => rfl
  | ⟨2, _⟩, ⟨1, _⟩ => rfl
  | ⟨2, _⟩, ⟨2, _⟩ => rfl
  | ⟨2, _⟩, ⟨3, _⟩ => rfl
  | ⟨2, _⟩, ⟨4, _⟩ => rfl
  | ⟨2, _⟩, ⟨5, _⟩ => rfl
  | ⟨2, _⟩, ⟨6, _⟩ => rfl
  | ⟨2, _⟩, ⟨7, _⟩ => rfl
  | ⟨3, _⟩, ⟨0, _⟩ => rfl
  | ⟨3, _⟩, ⟨1, _⟩ => rfl
  | ⟨3, _⟩, ⟨2, _⟩ => rfl
  | ⟨3, _⟩, ⟨3, _⟩ => rfl
  | ⟨3, _⟩, ⟨4, _⟩ => rfl
  | ⟨3, _⟩, ⟨5, _⟩ => rfl
  | ⟨3, _⟩, ⟨6, _⟩ => rfl
  | ⟨3, _⟩, ⟨7, _⟩ => rfl
  | ⟨4, _⟩, ⟨0, _⟩ => rfl
  | ⟨4, _⟩, ⟨1, _⟩ => rfl
  | ⟨4, _⟩, ⟨2, _⟩ => rfl
  | ⟨4, _⟩, ⟨3, _⟩ => rfl
  | ⟨4, _⟩, ⟨4, _⟩ => rfl
  | ⟨4, _⟩, ⟨5, _⟩ => rfl
  | ⟨4, _⟩, ⟨6, _⟩ => rfl
  | ⟨4, _⟩, ⟨7, _⟩ => rfl
  | ⟨5, _⟩, ⟨0, _⟩ => rfl
  | ⟨5, _⟩, ⟨1, _⟩ => rfl
  | ⟨5, _⟩, ⟨2, _⟩ => rfl
  | ⟨5, _⟩, ⟨3, _⟩ => rfl
  | ⟨5, _⟩, ⟨4, _⟩ => rfl
  | ⟨5, _⟩, ⟨5, _⟩ => rfl
  | ⟨5, _⟩, ⟨6, _⟩ => rfl
  | ⟨5, _⟩, ⟨7, _⟩ => rfl
  | ⟨6, _⟩, ⟨0, _⟩ => rfl
  | ⟨6, _⟩, ⟨1, _⟩ => rfl
  | ⟨6, _⟩, ⟨2, _⟩ => rfl
  | ⟨6, _⟩, ⟨3, _⟩ => rfl
  | ⟨6, _⟩, ⟨4, _⟩ => rfl
  | ⟨6, _⟩, ⟨5, _⟩ => rfl
  | ⟨6, _⟩, ⟨6, _⟩ => rfl
  | ⟨6, _⟩, ⟨7, _⟩ => rfl
  | ⟨7, _⟩, ⟨0, _⟩ => rfl
  | ⟨7, _⟩, ⟨1, _⟩ => rfl
  | ⟨7, _⟩, ⟨2, _⟩ => rfl
  | ⟨7, _⟩, ⟨3, _⟩ => rfl
  | ⟨7, _⟩, ⟨4, _⟩ => rfl
  | ⟨7, _⟩, ⟨5, _⟩ => rfl
  | ⟨7, _⟩, ⟨6, _⟩ => rfl
  | ⟨7, _⟩, ⟨7, _⟩ => rfl
  | ⟨8, _⟩, ⟨0, _⟩ => rfl
  | ⟨8, _⟩, ⟨1, _⟩ => rfl
  | ⟨8, _⟩, ⟨2, _⟩ => rfl
  | ⟨8, _⟩, ⟨3, _⟩ => rfl
  | ⟨8, _⟩, ⟨4, _⟩ => rfl
  | ⟨8, _⟩, ⟨5, _⟩ => rfl
  | ⟨8, _⟩, ⟨6, _⟩ => rfl
  | ⟨8, _⟩, ⟨7, _⟩ => rfl
  | ⟨9, _⟩, ⟨0, _⟩ => rfl
  | ⟨9, _⟩, ⟨1, _⟩ => rfl
  | ⟨9, _⟩, ⟨2, _⟩ => rfl
  | ⟨9, _⟩, ⟨3, _⟩ => rfl
  | ⟨9, _⟩, ⟨4, _⟩ => rfl
  | ⟨9, _⟩, ⟨5, _⟩ => rfl
  | ⟨9, _⟩, ⟨6, _⟩ => rfl
  | ⟨9, _⟩, ⟨7, _⟩ => rfl
  | ⟨10, _⟩, ⟨0, _⟩ => rfl
  | ⟨10, _⟩, ⟨1, _⟩ => rfl
  | ⟨10, _⟩, ⟨2, _⟩ => rfl
  | ⟨10, _⟩, ⟨3, _⟩ => rfl
  | ⟨10, _⟩, ⟨4, _⟩ => rfl
  | ⟨10, _⟩, ⟨5, _⟩ => rfl
  | ⟨10, _⟩, ⟨6, _⟩ => rfl
  | ⟨10, _⟩, ⟨7, _⟩ => rfl
  | ⟨11, _⟩, ⟨0, _⟩ => rfl
  | ⟨11, _⟩, ⟨1, _⟩ => rfl
  | ⟨11, _⟩, ⟨2, _⟩ => rfl
  | ⟨11, _⟩, ⟨3, _⟩ => rfl
  | ⟨11, _⟩, ⟨4, _⟩ => rfl
  | ⟨11, _⟩, ⟨5, _⟩ => rfl
  | ⟨11, _⟩, ⟨6, _⟩ => rfl
  | ⟨11, _⟩, ⟨7, _⟩ => rfl
  | ⟨12, _⟩, ⟨0, _⟩ => rfl
  | ⟨12, _⟩, ⟨1, _⟩ => rfl
  | ⟨12, _⟩, ⟨2, _⟩ => rfl
  | ⟨12, _⟩, ⟨3, _⟩ => rfl
  | ⟨12, _⟩, ⟨4, _⟩ => rfl
  | ⟨12, _⟩, ⟨5, _⟩ => rfl
  | ⟨12, _⟩, ⟨6, _⟩ => rfl
  | ⟨12, _⟩, ⟨7, _⟩ => rfl
theorem err_cells : ∀ k : Fin 13, (#[.int .i64 47, .int .i64 45, .int .i64 45, .int .i64 46, .int .i64 46, .int .i64 47, .int .i64 47, .int .i64 47, .int .i64 47, .int .i64 47, .int .i64 47, .int .i64 47, .int .i64 47] : Array Value)[k.val]? = some (.int .i64 (erT k.val : Int)) := by
  intro k
  match k with
  | ⟨0, _⟩ => rfl
  | ⟨1, _⟩ => rfl
  | ⟨2, _⟩ => rfl
  | ⟨3, _⟩ => rfl
  | ⟨4, _⟩ => rfl
  | ⟨5, _⟩ => rfl
  | ⟨6, _⟩ => rfl
  | ⟨7, _⟩ => rfl
  | ⟨8, _⟩ => rfl
  | ⟨9, _⟩ => rfl
  | ⟨10, _⟩ => rfl
  | ⟨11, _⟩ => rfl
  | ⟨12, _⟩ => rfl
set_option maxRecDepth 100000 in
set_option maxHeartbeats 2000000 in
theorem firm_walk (hT : Tb W) (bad : Int) (i1 : I64 bad) (nn : Int) (i2 : I64 nn) :
    Calls Tryd.prog 7 #[.int .i64 bad, .int .i64 nn] W fun e w' => e = .returned (.bool true) ∧ Up W w' := by
  have HP : Hid (∀ (c n : Int) w, I64 c → 0 < n → n ≤ 1099511627776 → Calls Tryd.prog 14 #[.int .i64 c, .int .i64 n] w fun e w' => e = .returned (.int .i64 (pickI c n)) ∧ w' = w) := fun c n w h1 h2 h3 => pick_any c n w h1 h2 h3
  have HI : Hid (I64 bad ∧ I64 nn) := ⟨i1, i2⟩
  have HTb : Hid (Tb W) := hT
  clear hT i1 i2
  go_enter Tryd.func7, Tryd.ntmps7
  have hie : Tryd.prog.info? 27 = some Tryd.t27 := by kernel_rfl
  have hz : Tryd.t27.zero = some (.agg #[.int .i64 0, .int .i64 0, .int .i64 0, .int .i64 0, .int .i64 0, .slice none 0 0, .slice none 0 0, .bool false]) := rfl
  have hie2 : Tryd.prog.info? 31 = some Tryd.t31 := by kernel_rfl
  have hz2 : Tryd.t31.zero = some (.int .i64 0) := rfl
  go_wp2_with (first | refine wpList_buildSlice rfl 22 27 13 _ rfl #[.int .i64 2, .int .i64 0, .int .i64 0, .int .i64 0, .int .i64 0, .slice none 0 0, .slice none 0 0, .bool false, .int .i64 4, .int .i64 0, .int .i64 0, .int .i64 0, .int .i64 0, .slice none 0 0, .slice none 0 0, .bool false, .int .i64 255, .int .i64 0, .int .i64 0, .int .i64 0, .int .i64 0, .slice none 0 0, .slice none 0 0, .bool false, .int .i64 0, .int .i64 1, .int .i64 0, .int .i64 0, .int .i64 0, .slice none 0 0, .slice none 0 0, .bool false, .int .i64 5, .int .i64 4, .int .i64 0, .int .i64 0, .int .i64 0, .slice none 0 0, .slice none 0 0, .bool false, .int .i64 1, .int .i64 0, .int .i64 2, .int .i64 0, .int .i64 0, .slice none 0 0, .slice none 0 0, .bool false, .int .i64 5, .int .i64 0, .int .i64 2, .int .i64 0, .int .i64 0, .slice none 0 0, .slice none 0 0, .bool false, .int .i64 19, .int .i64 0, .int .i64 4, .int .i64 0, .int .i64 0, .slice none 0 0, .slice none 0 0, .bool false, .int .i64 27, .int .i64 0, .int .i64 1, .int .i64 0, .int .i64 0, .slice none 0 0, .slice none 0 0, .bool false, .int .i64 9, .int .i64 0, .int .i64 3, .int .i64 0, .int .i64 0, .slice none 0 0, .slice none 0 0, .bool false, .int .i64 3, .int .i64 0, .int .i64 6, .int .i64 0, .int .i64 0, .slice none 0 0, .slice none 0 0, .bool false, .int .i64 26, .int .i64 0, .int .i64 0, .int .i64 0, .int .i64 0, .slice none 0 0, .slice none 0 0, .bool false, .int .i64 0, .int .i64 0, .int .i64 2, .int .i64 0, .int .i64 0, .slice none 0 0, .slice none 0 0, .bool false] _ _ Tryd.underlying22 hie hz (by decide +kernel) (by decide +kernel) (by kernel_rfl) ?_ | refine wpList_buildSlice rfl 45 31 13 _ rfl #[.int .i64 47, .int .i64 45, .int .i64 45, .int .i64 46, .int .i64 46, .int .i64 47, .int .i64 47, .int .i64 47, .int .i64 47, .int .i64 47, .int .i64 47, .int .i64 47, .int .i64 47] _ _ Tryd.underlying45 hie2 hz2 (by decide +kernel) (by decide +kernel) (by kernel_rfl) ?_)
  obtain ⟨kN, hkN, lk⟩ : ∃ p : Nat, pickI bad 13 = (p : Int) ∧ p < 13 := by
    obtain ⟨p, hp⟩ := Int.eq_ofNat_of_zero_le (pickI_lo bad 13 (by decide))
    exact ⟨p, hp, by have := pickI_hi bad 13 (by decide); omega⟩
  have hr1 := heap_alloc_new W (.cells #[.int .i64 2, .int .i64 0, .int .i64 0, .int .i64 0, .int .i64 0, .slice none 0 0, .slice none 0 0, .bool false, .int .i64 4, .int .i64 0, .int .i64 0, .int .i64 0, .int .i64 0, .slice none 0 0, .slice none 0 0, .bool false, .int .i64 255, .int .i64 0, .int .i64 0, .int .i64 0, .int .i64 0, .slice none 0 0, .slice none 0 0, .bool false, .int .i64 0, .int .i64 1, .int .i64 0, .int .i64 0, .int .i64 0, .slice none 0 0, .slice none 0 0, .bool false, .int .i64 5, .int .i64 4, .int .i64 0, .int .i64 0, .int .i64 0, .slice none 0 0, .slice none 0 0, .bool false, .int .i64 1, .int .i64 0, .int .i64 2, .int .i64 0, .int .i64 0, .slice none 0 0, .slice none 0 0, .bool false, .int .i64 5, .int .i64 0, .int .i64 2, .int .i64 0, .int .i64 0, .slice none 0 0, .slice none 0 0, .bool false, .int .i64 19, .int .i64 0, .int .i64 4, .int .i64 0, .int .i64 0, .slice none 0 0, .slice none 0 0, .bool false, .int .i64 27, .int .i64 0, .int .i64 1, .int .i64 0, .int .i64 0, .slice none 0 0, .slice none 0 0, .bool false, .int .i64 9, .int .i64 0, .int .i64 3, .int .i64 0, .int .i64 0, .slice none 0 0, .slice none 0 0, .bool false, .int .i64 3, .int .i64 0, .int .i64 6, .int .i64 0, .int .i64 0, .slice none 0 0, .slice none 0 0, .bool false, .int .i64 26, .int .i64 0, .int .i64 0, .int .i64 0, .int .i64 0, .slice none 0 0, .slice none 0 0, .bool false, .int .i64 0, .int .i64 0, .int .i64 2, .int .i64 0, .int .i64 0, .slice none 0 0, .slice none 0 0, .bool false] 27)
  have hr2 : ((W.alloc (.cells #[.int .i64 2, .int .i64 0, .int .i64 0, .int .i64 0, .int .i64 0, .slice none 0 0, .slice none 0 0, .bool false, .int .i64 4, .int .i64 0, .int .i64 0, .int .i64 0, .int .i64 0, .slice none 0 0, .slice none 0 0, .bool false, .int .i64 255, .int .i64 0, .int .i64 0, .int .i64 0, .int .i64 0, .slice none 0 0, .slice none 0 0, .bool false, .int .i64 0, .int .i64 1, .int .i64 0, .int .i64 0, .int .i64 0, .slice none 0 0, .slice none 0 0, .bool false, .int .i64 5, .int .i64 4, .int .i64 0, .int .i64 0, .int .i64 0, .slice none 0 0, .slice none 0 0, .bool false, .int .i64 1, .int .i64 0, .int .i64 2, .int .i64 0, .int .i64 0, .slice none 0 0, .slice none 0 0, .bool false, .int .i64 5, .int .i64 0, .int .i64 2, .int .i64 0, .int .i64 0, .slice none 0 0, .slice none 0 0, .bool false, .int .i64 19, .int .i64 0, .int .i64 4, .int .i64 0, .int .i64 0, .slice none 0 0, .slice none 0 0, .bool false, .int .i64 27, .int .i64 0, .int .i64 1, .int .i64 0, .int .i64 0, .slice none 0 0, .slice none 0 0, .bool false, .int .i64 9, .int .i64 0, .int .i64 3, .int .i64 0, .int .i64 0, .slice none 0 0, .slice none 0 0, .bool false, .int .i64 3, .int .i64 0, .int .i64 6, .int .i64 0, .int .i64 0, .slice none 0 0, .slice none 0 0, .bool false, .int .i64 26, .int .i64 0, .int .i64 0, .int .i64 0, .int .i64 0, .slice none 0 0, .slice none 0 0, .bool false, .int .i64 0, .int .i64 0, .int .i64 2, .int .i64 0, .int .i64 0, .slice none 0 0, .slice none 0 0, .bool false] 27)).alloc (.cells #[.int .i64 47, .int .i64 45, .int .i64 45, .int .i64 46, .int .i64 46, .int .i64 47, .int .i64 47, .int .i64 47, .int .i64 47, .int .i64 47, .int .i64 47, .int .i64 47, .int .i64 47] 31)).heap[W.heap.size]? = some (.cells #[.int .i64 2, .int .i64 0, .int .i64 0, .int .i64 0, .int .i64 0, .slice none 0 0, .slice none 0 0, .bool false, .int .i64 4, .int .i64 0, .int .i64 0, .int .i64 0, .int .i64 0, .slice none 0 0, .slice none 0 0, .bool false, .int .i64 255, .int .i64 0, .int .i64 0, .int .i64 0, .int .i64 0, .slice none 0 0, .slice none 0 0, .bool false, .int .i64 0, .int .i64 1, .int .i64 0, .int .i64 0, .int .i64 0, .slice none 0 0, .slice none 0 0, .bool false, .int .i64 5, .int .i64 4, .int .i64 0, .int .i64 0, .int .i64 0, .slice none 0 0, .slice none 0 0, .bool false, .int .i64 1, .int .i64 0, .int .i64 2, .int .i64 0, .int .i64 0, .slice none 0 0, .slice none 0 0, .bool false, .int .i64 5, .int .i64 0, .int .i64 2, .int .i64 0, .int .i64 0, .slice none 0 0, .slice none 0 0, .bool false, .int .i64 19, .int .i64 0, .int .i64 4, .int .i64 0, .int .i64 0, .slice none 0 0, .slice none 0 0, .bool false, .int .i64 27, .int .i64 0, .int .i64 1, .int .i64 0, .int .i64 0, .slice none 0 0, .slice none 0 0, .bool false, .int .i64 9, .int .i64 0, .int .i64 3, .int .i64 0, .int .i64 0, .slice none 0 0, .slice none 0 0, .bool false, .int .i64 3, .int .i64 0, .int .i64 6, .int .i64 0, .int .i64 0, .slice none 0 0, .slice none 0 0, .bool false, .int .i64 26, .int .i64 0, .int .i64 0, .int .i64 0, .int .i64 0, .slice none 0 0, .slice none 0 0, .bool false, .int .i64 0, .int .i64 0, .int .i64 2, .int .i64 0, .int .i64 0, .slice none 0 0, .slice none 0 0, .bool false] 27 (0, 0)) := (Below.heap_alloc _ _ _ (heap_at hr1)).trans hr1
  have hr3 : ((W.alloc (.cells #[.int .i64 2, .int .i64 0, .int .i64 0, .int .i64 0, .int .i64 0, .slice none 0 0, .slice none 0 0, .bool false, .int .i64 4, .int .i64 0, .int .i64 0, .int .i64 0, .int .i64 0, .slice none 0 0, .slice none 0 0, .bool false, .int .i64 255, .int .i64 0, .int .i64 0, .int .i64 0, .int .i64 0, .slice none 0 0, .slice none 0 0, .bool false, .int .i64 0, .int .i64 1, .int .i64 0, .int .i64 0, .int .i64 0, .slice none 0 0, .slice none 0 0, .bool false, .int .i64 5, .int .i64 4, .int .i64 0, .int .i64 0, .int .i64 0, .slice none 0 0, .slice none 0 0, .bool false, .int .i64 1, .int .i64 0, .int .i64 2, .int .i64 0, .int .i64 0, .slice none 0 0, .slice none 0 0, .bool false, .int .i64 5, .int .i64 0, .int .i64 2, .int .i64 0, .int .i64 0, .slice none 0 0, .slice none 0 0, .bool false, .int .i64 19, .int .i64 0, .int .i64 4, .int .i64 0, .int .i64 0, .slice none 0 0, .slice none 0 0, .bool false, .int .i64 27, .int .i64 0, .int .i64 1, .int .i64 0, .int .i64 0, .slice none 0 0, .slice none 0 0, .bool false, .int .i64 9, .int .i64 0, .int .i64 3, .int .i64 0, .int .i64 0, .slice none 0 0, .slice none 0 0, .bool false, .int .i64 3, .int .i64 0, .int .i64 6, .int .i64 0, .int .i64 0, .slice none 0 0, .slice none 0 0, .bool false, .int .i64 26, .int .i64 0, .int .i64 0, .int .i64 0, .int .i64 0, .slice none 0 0, .slice none 0 0, .bool false, .int .i64 0, .int .i64 0, .int .i64 2, .int .i64 0, .int .i64 0, .slice none 0 0, .slice none 0 0, .bool false] 27)).alloc (.cells #[.int .i64 47, .int .i64 45, .int .i64 45, .int .i64 46, .int .i64 46, .int .i64 47, .int .i64 47, .int .i64 47, .int .i64 47, .int .i64 47, .int .i64 47, .int .i64 47, .int .i64 47] 31)).heap[W.heap.size + 1]? = some (.cells #[.int .i64 47, .int .i64 45, .int .i64 45, .int .i64 46, .int .i64 46, .int .i64 47, .int .i64 47, .int .i64 47, .int .i64 47, .int .i64 47, .int .i64 47, .int .i64 47, .int .i64 47] 31 (0, 0)) := by
    have := heap_alloc_new (W.alloc (.cells #[.int .i64 2, .int .i64 0, .int .i64 0, .int .i64 0, .int .i64 0, .slice none 0 0, .slice none 0 0, .bool false, .int .i64 4, .int .i64 0, .int .i64 0, .int .i64 0, .int .i64 0, .slice none 0 0, .slice none 0 0, .bool false, .int .i64 255, .int .i64 0, .int .i64 0, .int .i64 0, .int .i64 0, .slice none 0 0, .slice none 0 0, .bool false, .int .i64 0, .int .i64 1, .int .i64 0, .int .i64 0, .int .i64 0, .slice none 0 0, .slice none 0 0, .bool false, .int .i64 5, .int .i64 4, .int .i64 0, .int .i64 0, .int .i64 0, .slice none 0 0, .slice none 0 0, .bool false, .int .i64 1, .int .i64 0, .int .i64 2, .int .i64 0, .int .i64 0, .slice none 0 0, .slice none 0 0, .bool false, .int .i64 5, .int .i64 0, .int .i64 2, .int .i64 0, .int .i64 0, .slice none 0 0, .slice none 0 0, .bool false, .int .i64 19, .int .i64 0, .int .i64 4, .int .i64 0, .int .i64 0, .slice none 0 0, .slice none 0 0, .bool false, .int .i64 27, .int .i64 0, .int .i64 1, .int .i64 0, .int .i64 0, .slice none 0 0, .slice none 0 0, .bool false, .int .i64 9, .int .i64 0, .int .i64 3, .int .i64 0, .int .i64 0, .slice none 0 0, .slice none 0 0, .bool false, .int .i64 3, .int .i64 0, .int .i64 6, .int .i64 0, .int .i64 0, .slice none 0 0, .slice none 0 0, .bool false, .int .i64 26, .int .i64 0, .int .i64 0, .int .i64 0, .int .i64 0, .slice none 0 0, .slice none 0 0, .bool false, .int .i64 0, .int .i64 0, .int .i64 2, .int .i64 0, .int .i64 0, .slice none 0 0, .slice none 0 0, .bool false] 27)) (.cells #[.int .i64 47, .int .i64 45, .int .i64 45, .int .i64 46, .int .i64 46, .int .i64 47, .int .i64 47, .int .i64 47, .int .i64 47, .int .i64 47, .int .i64 47, .int .i64 47, .int .i64 47] 31)
    simpa using this
  have HBx : Hid (((W.alloc (.cells #[.int .i64 2, .int .i64 0, .int .i64 0, .int .i64 0, .int .i64 0, .slice none 0 0, .slice none 0 0, .bool false, .int .i64 4, .int .i64 0, .int .i64 0, .int .i64 0, .int .i64 0, .slice none 0 0, .slice none 0 0, .bool false, .int .i64 255, .int .i64 0, .int .i64 0, .int .i64 0, .int .i64 0, .slice none 0 0, .slice none 0 0, .bool false, .int .i64 0, .int .i64 1, .int .i64 0, .int .i64 0, .int .i64 0, .slice none 0 0, .slice none 0 0, .bool false, .int .i64 5, .int .i64 4, .int .i64 0, .int .i64 0, .int .i64 0, .slice none 0 0, .slice none 0 0, .bool false, .int .i64 1, .int .i64 0, .int .i64 2, .int .i64 0, .int .i64 0, .slice none 0 0, .slice none 0 0, .bool false, .int .i64 5, .int .i64 0, .int .i64 2, .int .i64 0, .int .i64 0, .slice none 0 0, .slice none 0 0, .bool false, .int .i64 19, .int .i64 0, .int .i64 4, .int .i64 0, .int .i64 0, .slice none 0 0, .slice none 0 0, .bool false, .int .i64 27, .int .i64 0, .int .i64 1, .int .i64 0, .int .i64 0, .slice none 0 0, .slice none 0 0, .bool false, .int .i64 9, .int .i64 0, .int .i64 3, .int .i64 0, .int .i64 0, .slice none 0 0, .slice none 0 0, .bool false, .int .i64 3, .int .i64 0, .int .i64 6, .int .i64 0, .int .i64 0, .slice none 0 0, .slice none 0 0, .bool false, .int .i64 26, .int .i64 0, .int .i64 0, .int .i64 0, .int .i64 0, .slice none 0 0, .slice none 0 0, .bool false, .int .i64 0, .int .i64 0, .int .i64 2, .int .i64 0, .int .i64 0, .slice none 0 0, .slice none 0 0, .bool false] 27)).alloc (.cells #[.int .i64 47, .int .i64 45, .int .i64 45, .int .i64 46, .int .i64 46, .int .i64 47, .int .i64 47, .int .i64 47, .int .i64 47, .int .i64 47, .int .i64 47, .int .i64 47, .int .i64 47] 31)).rangeAt W.heap.size (kN * 8) [.int .i64 (tyT kN : Int), .int .i64 (rcT kN : Int), .int .i64 (rmT kN : Int), .int .i64 0, .int .i64 0, .slice none 0 0, .slice none 0 0, .bool false]) := fun j v hv => by
    have hj : j < 8 := by have := (List.getElem?_eq_some_iff.1 hv).1; simpa using this
    exact heap_cell hr2 ((box_cells ⟨kN, lk⟩ ⟨j, hj⟩).trans hv)
  have HEr : Hid (((W.alloc (.cells #[.int .i64 2, .int .i64 0, .int .i64 0, .int .i64 0, .int .i64 0, .slice none 0 0, .slice none 0 0, .bool false, .int .i64 4, .int .i64 0, .int .i64 0, .int .i64 0, .int .i64 0, .slice none 0 0, .slice none 0 0, .bool false, .int .i64 255, .int .i64 0, .int .i64 0, .int .i64 0, .int .i64 0, .slice none 0 0, .slice none 0 0, .bool false, .int .i64 0, .int .i64 1, .int .i64 0, .int .i64 0, .int .i64 0, .slice none 0 0, .slice none 0 0, .bool false, .int .i64 5, .int .i64 4, .int .i64 0, .int .i64 0, .int .i64 0, .slice none 0 0, .slice none 0 0, .bool false, .int .i64 1, .int .i64 0, .int .i64 2, .int .i64 0, .int .i64 0, .slice none 0 0, .slice none 0 0, .bool false, .int .i64 5, .int .i64 0, .int .i64 2, .int .i64 0, .int .i64 0, .slice none 0 0, .slice none 0 0, .bool false, .int .i64 19, .int .i64 0, .int .i64 4, .int .i64 0, .int .i64 0, .slice none 0 0, .slice none 0 0, .bool false, .int .i64 27, .int .i64 0, .int .i64 1, .int .i64 0, .int .i64 0, .slice none 0 0, .slice none 0 0, .bool false, .int .i64 9, .int .i64 0, .int .i64 3, .int .i64 0, .int .i64 0, .slice none 0 0, .slice none 0 0, .bool false, .int .i64 3, .int .i64 0, .int .i64 6, .int .i64 0, .int .i64 0, .slice none 0 0, .slice none 0 0, .bool false, .int .i64 26, .int .i64 0, .int .i64 0, .int .i64 0, .int .i64 0, .slice none 0 0, .slice none 0 0, .bool false, .int .i64 0, .int .i64 0, .int .i64 2, .int .i64 0, .int .i64 0, .slice none 0 0, .slice none 0 0, .bool false] 27)).alloc (.cells #[.int .i64 47, .int .i64 45, .int .i64 45, .int .i64 46, .int .i64 46, .int .i64 47, .int .i64 47, .int .i64 47, .int .i64 47, .int .i64 47, .int .i64 47, .int .i64 47, .int .i64 47] 31)).cell? ⟨W.heap.size + 1, kN, none⟩ = some (.int .i64 (erT kN : Int))) := heap_cell hr3 (err_cells ⟨kN, lk⟩)
  have HU2 : Hid (Up W ((W.alloc (.cells #[.int .i64 2, .int .i64 0, .int .i64 0, .int .i64 0, .int .i64 0, .slice none 0 0, .slice none 0 0, .bool false, .int .i64 4, .int .i64 0, .int .i64 0, .int .i64 0, .int .i64 0, .slice none 0 0, .slice none 0 0, .bool false, .int .i64 255, .int .i64 0, .int .i64 0, .int .i64 0, .int .i64 0, .slice none 0 0, .slice none 0 0, .bool false, .int .i64 0, .int .i64 1, .int .i64 0, .int .i64 0, .int .i64 0, .slice none 0 0, .slice none 0 0, .bool false, .int .i64 5, .int .i64 4, .int .i64 0, .int .i64 0, .int .i64 0, .slice none 0 0, .slice none 0 0, .bool false, .int .i64 1, .int .i64 0, .int .i64 2, .int .i64 0, .int .i64 0, .slice none 0 0, .slice none 0 0, .bool false, .int .i64 5, .int .i64 0, .int .i64 2, .int .i64 0, .int .i64 0, .slice none 0 0, .slice none 0 0, .bool false, .int .i64 19, .int .i64 0, .int .i64 4, .int .i64 0, .int .i64 0, .slice none 0 0, .slice none 0 0, .bool false, .int .i64 27, .int .i64 0, .int .i64 1, .int .i64 0, .int .i64 0, .slice none 0 0, .slice none 0 0, .bool false, .int .i64 9, .int .i64 0, .int .i64 3, .int .i64 0, .int .i64 0, .slice none 0 0, .slice none 0 0, .bool false, .int .i64 3, .int .i64 0, .int .i64 6, .int .i64 0, .int .i64 0, .slice none 0 0, .slice none 0 0, .bool false, .int .i64 26, .int .i64 0, .int .i64 0, .int .i64 0, .int .i64 0, .slice none 0 0, .slice none 0 0, .bool false, .int .i64 0, .int .i64 0, .int .i64 2, .int .i64 0, .int .i64 0, .slice none 0 0, .slice none 0 0, .bool false] 27)).alloc (.cells #[.int .i64 47, .int .i64 45, .int .i64 45, .int .i64 46, .int .i64 46, .int .i64 47, .int .i64 47, .int .i64 47, .int .i64 47, .int .i64 47, .int .i64 47, .int .i64 47, .int .i64 47] 31))) := ((Up.refl W).alloc _).alloc _
  have H13 : Hid _ := thirteen ⟨kN, lk⟩
  clear hr1 hr2 hr3 hie hz hie2 hz2
  generalize World.alloc (World.alloc W _) _ = w2 at HBx HEr HU2 ⊢
  generalize W.heap.size = bb at HBx HEr ⊢
  refine (HP.out bad 13 _ HI.out.1 (by decide) (by decide)).mono ?_
  rintro e w' ⟨rfl, hw'⟩
  obtain rfl := hw'.symm
  clear hw'
  rw [hkN]
  clear hkN
  have ek : (kN : Int) < 13 := by omega
  go_wp2_with (refine wpList_load_mid rfl 27 _ rfl bb (kN * 8) rfl [.int .i64 (tyT kN : Int), .int .i64 (rcT kN : Int), .int .i64 (rmT kN : Int), .int .i64 0, .int .i64 0, .slice none 0 0, .slice none 0 0, .bool false] _ HBx.out Tryd.underlying27 rfl (by kernel_rfl) ?_)
  obtain ⟨q1, q2, q3, q4, q5, q6, q7, q8⟩ := H13.out
  generalize tyT kN = ty at q1 q3 ⊢
  generalize rcT kN = rc at q1 q4 q7 q8 ⊢
  generalize rmT kN = rm at q1 q5 ⊢
  generalize erT kN = er at q1 q2 q6 HEr ⊢
  obtain ⟨N, hN⟩ : ∃ N, N = 32768 * 2 ^ rc := ⟨_, rfl⟩
  have q1 : errOf 0 ty rc rm (32768 * 2 ^ rc) = (er : Int) := q1
  have q2 : (er : Int) ≠ 0 := q2
  have q3 : ty ≤ 255 := q3
  have q4 : rc ≤ 6 := q4
  have q5 : rm ≤ 255 := q5
  have q7 : 32768 ≤ 32768 * 2 ^ rc := q7
  have q8 : 32768 * 2 ^ rc ≤ 2097152 := q8
  have HRo : Hid (∀ w, Calls Tryd.prog 12 #[.agg #[.int .i64 (ty : Int), .int .i64 (rc : Int), .int .i64 (rm : Int), .int .i64 0, .int .i64 0, .slice none 0 0, .slice none 0 0, .bool false]] w fun e w' => ∃ g, e = .returned (.slice (some ⟨g, 0, none⟩) N N) ∧ w.heap.size ≤ g ∧ By w' g N (romF (ty : Int) (rc : Int) (rm : Int) 0) ∧ Up w w') := fun w => rom_any (W := w) (c := rc) (ty := ty) (rc := rc) (rm := rm) (sd := 0) hN ⟨by omega, by omega⟩ ⟨by omega, by omega⟩ ⟨by omega, by omega⟩ ⟨by decide, by decide⟩ (by unfold pickI; rw [if_neg (by omega)]; omega)
  rw [← hN] at q1 q7 q8
  have HGd : Hid (Gd (romF (ty : Int) (rc : Int) (rm : Int) 0) 0 ty rc rm ∧ errOf 0 ty rc rm N = (er : Int) ∧ (er : Int) ≠ 0 ∧ (∀ k, 0 ≤ romF (ty : Int) (rc : Int) (rm : Int) 0 k ∧ romF (ty : Int) (rc : Int) (rm : Int) 0 k ≤ 255)) := ⟨gd_rom q3 (by omega) q5 0, q1, q2, romF_byte _ _ _ _⟩
  generalize romF (ty : Int) (rc : Int) (rm : Int) 0 = F at HRo HGd
  clear hN q1 H13
  refine (HRo.out _).mono ?_
  rintro e w3 ⟨g, rfl, hg, hB, u3⟩
  have HU3 : Hid (Up W w3) := HU2.out.trans u3
  have HB3 : Hid (By w3 g N F) := hB
  have HE3 : Hid (w3.cell? ⟨bb + 1, kN, none⟩ = some (.int .i64 (er : Int))) := cell_up u3 HEr.out
  clear hg hB u3 HU2 HRo HBx HEr
  go_wp2_with fail
  refine (check_gd (HTb.out.up HU3.out) HB3.out q7 q8 (Nat.le_refl _) (by omega) HGd.out.2.2.2 HGd.out.1 HGd.out.2.1 HGd.out.2.2.1).mono ?_
  rintro e w4 ⟨rfl, u4⟩
  have HU4 : Hid (Up w3 w4) := u4
  clear u4
  unfold zHead
  go_wp2_with fail
  have HU5 : Hid (Up w3 (w4.alloc (.cells #[.string ⟨#[]⟩, .int .i64 0, .int .i64 0, .int .i64 0, .int .i64 0, .bool false] 30))) := HU4.out.alloc _
  generalize World.alloc w4 _ = w5 at HU5 ⊢
  clear HU4
  refine (new_gd (HTb.out.up (HU3.out.trans HU5.out)) (HB3.out.up HU5.out) q7 q8 (Nat.le_refl _) (by omega) HGd.out.2.2.2 HGd.out.1 HGd.out.2.1 HGd.out.2.2.1).mono ?_
  rintro e w6 ⟨rfl, u6⟩
  have HU6 : Hid (Up W w6) := HU3.out.trans (HU5.out.trans u6)
  have ke : w6.cell? ⟨bb + 1, kN, none⟩ = some (.int .i64 (er : Int)) := cell_up (HU5.out.trans u6) HE3.out
  have eer : ((er : Int) != (er : Int)) = false := by simp
  clear u6 HU5 HU3 HB3 HE3 HGd
  obtain ⟨M, hM⟩ : ∃ M : Nat, M = 32768 := ⟨_, rfl⟩
  have HM : Hid (M = 32768) := hM
  have HRo : Hid (∀ w, Calls Tryd.prog 12 #[.agg #[.int .i64 3, .int .i64 0, .int .i64 2, .int .i64 0, .int .i64 0, .slice none 0 0, .slice none 0 0, .bool false]] w fun e w' => ∃ g, e = .returned (.slice (some ⟨g, 0, none⟩) M M) ∧ w.heap.size ≤ g ∧ By w' g M (romF ((3 : Nat) : Int) ((0 : Nat) : Int) ((2 : Nat) : Int) 0) ∧ Up w w') := fun w => rom_any (W := w) (c := 0) (ty := 3) (rc := 0) (rm := 2) (sd := 0) (by rw [HM.out]) ⟨by decide, by decide⟩ ⟨by decide, by decide⟩ ⟨by decide, by decide⟩ ⟨by decide, by decide⟩ (by decide)
  have HG0 : Hid (Gd (romF ((3 : Nat) : Int) ((0 : Nat) : Int) ((2 : Nat) : Int) 0) 0 3 0 2 ∧ (∀ k, 0 ≤ romF ((3 : Nat) : Int) ((0 : Nat) : Int) ((2 : Nat) : Int) 0 k ∧ romF ((3 : Nat) : Int) ((0 : Nat) : Int) ((2 : Nat) : Int) 0 k ≤ 255)) := ⟨gd_rom (by decide) (by decide) (by decide) 0, romF_byte _ _ _ _⟩
  generalize romF ((3 : Nat) : Int) ((0 : Nat) : Int) ((2 : Nat) : Int) 0 = F2 at HRo HG0
  clear hM
  go_wp2_with fail
  refine (HRo.out _).mono ?_
  rintro e w7 ⟨g2, rfl, hg, hB, u7⟩
  have HU7 : Hid (Up W w7) := HU6.out.trans u7
  have HB7 : Hid (By w7 g2 M F2) := hB
  have HG2 : Hid (W.heap.size ≤ g2) := Nat.le_trans HU6.out.size hg
  clear hg hB u7 HU6 HRo ke eer
  obtain ⟨pn, hpn, lpn⟩ : ∃ p : Nat, pickI nn 32767 = (p : Int) ∧ p < 32767 := by
    obtain ⟨p, hp⟩ := Int.eq_ofNat_of_zero_le (pickI_lo nn 32767 (by decide))
    exact ⟨p, hp, by have := pickI_hi nn 32767 (by decide); omega⟩
  have HKn : Hid (∀ w, Calls Tryd.prog 14 #[.int .i64 nn, .int .i64 32767] w fun e w' => e = .returned (.int .i64 (pn : Int)) ∧ w' = w) := fun w => by rw [← hpn]; exact HP.out nn 32767 w HI.out.2 (by decide) (by decide)
  clear hpn
  go_wp2_with fail
  refine (HKn.out _).mono ?_
  rintro e w' ⟨rfl, hw'⟩
  obtain rfl := hw'.symm
  clear hw' HKn
  obtain ⟨SL, hSL⟩ : ∃ SL : Nat, SL = 32767 - pn := ⟨_, rfl⟩
  have esl : (32767 : Int) - (pn : Int) = (SL : Int) := by omega
  have hs1 : SL < 32768 := by omega
  have hs2 : SL ≤ M := by have := HM.out; omega
  have hm9 : M ≤ 9223372036854775807 := by have := HM.out; omega
  clear hSL
  go_wp2_with fail
  refine (check_short (W := w7) (a := some ⟨g2, 0, none⟩) (n := SL) (c := M) hs2 hm9 (Or.inl hs1)).mono ?_
  rintro e w8 ⟨rfl, u8⟩
  have HU8 : Hid (Up w7 w8) := u8
  clear u8
  unfold zHead
  go_upto_region 12 with fail
  have HU9 : Hid (Up w7 (w8.alloc (.cells #[.string ⟨#[]⟩, .int .i64 0, .int .i64 0, .int .i64 0, .int .i64 0, .bool false] 30))) := HU8.out.alloc _
  generalize World.alloc w8 _ = w9 at HU9 ⊢
  clear HU8
  have hbytes : (M + 1) * 1 ≤ 140737488355328 := by have := HM.out; omega
  have hb0 : M * 1 ≤ 140737488355328 := by have := HM.out; omega
  have HB9 : Hid (By (w9.alloc (.cells #[] 5)) g2 M F2) := HB7.out.up (HU9.out.alloc _)
  have HUe : Hid (Up w7 (w9.alloc (.cells #[] 5))) := HU9.out.alloc _
  have HO0 : Hid ((w9.alloc (.cells #[] 5)).ownsRow w7.heap.size 5 1 (.slice (some ⟨w9.heap.size, 0, none⟩) 0 0) 0 []) := own_of (heap_alloc_new w9 _) HU9.out.size (Nat.le_refl _) (Nat.zero_le _) rfl rfl (fun k hk => by omega)
  have hM1 : 0 + M ≤ maxLen := by unfold maxLen; omega
  have hM2 : M + 1 ≤ maxLen := by have := HM.out; unfold maxLen; omega
  go_wp2_with (first
    | (at_builtin; refine wpList_append_own_at2 _ rfl _ _ _ _ rfl w7.heap.size 5 Tryd.t5 (.int .u8 0) 1 1 Tryd.underlying24 Tryd.underlying24 (by kernel_rfl) (by kernel_rfl) (by kernel_rfl) (by kernel_rfl) rfl (by decide) v1 M (byL F2 M) rfl (ownsRow_up HO1.out.1 ((Up.refl wa).alloc _)) ⟨wa.heap.size, 0, none⟩ 1 1 [.int .u8 0] rfl rfl (cell_zero wa) (by intro u hu; simp at hu; subst hu; rfl) hM2 hbytes (Nat.le_trans HO1.out.2.size ((Up.refl wa).alloc _).size) ?_; intro v2 wb h5 h6 _; have HO2 : Hid (wb.ownsRow w7.heap.size 5 1 v2 (M + 1) (byL F2 M ++ [.int .u8 0]) ∧ Up w7 wb) := ⟨h5, grown_upB (HO1.out.2.alloc _) (ownsRow_up HO1.out.1 ((Up.refl wa).alloc _)) h6⟩; clear h5 h6)
    | (at_builtin; refine wpList_append_own_at2 _ rfl _ _ _ _ rfl w7.heap.size 5 Tryd.t5 (.int .u8 0) 1 1 Tryd.underlying24 Tryd.underlying24 (by kernel_rfl) (by kernel_rfl) (by kernel_rfl) (by kernel_rfl) rfl (by decide) _ 0 [] rfl HO0.out ⟨g2, 0, none⟩ M M (byL F2 M) rfl (by rw [byL_len, Nat.mul_one]) (by_cells HB9.out) (byL_one F2 M) hM1 (by omega) HUe.out.size ?_; intro v1 wa h5 h6 _; have HO1 : Hid (wa.ownsRow w7.heap.size 5 1 v1 M (byL F2 M) ∧ Up w7 wa) := ⟨by rw [Nat.zero_add, List.nil_append] at h5; exact h5, grown_upB HUe.out HO0.out h6⟩; clear h5 h6))
  obtain ⟨ga, ca, rfl, hga, hba, hca, hcm⟩ := By.ofOwn (by rw [byL_one_more] at HO2; exact HO2.out.1) (by omega)
  have HUb : Hid (Up w7 wb) := HO2.out.2
  have HBb : Hid (By wb ga (M + 1) (longF M F2)) := hba
  have ca9 : ca ≤ 9223372036854775807 := by unfold maxLen at hcm; omega
  clear HO0 HO1 HO2 HB9 HUe hga hba
  have HLo : Hid (Gd (longF M F2) 0 3 0 2 ∧ (∀ k, 0 ≤ longF M F2 k ∧ longF M F2 k ≤ 255)) := ⟨HG0.out.1.congr (fun k h1 h2 => if_pos (by have := HM.out; omega)), fun k => by
    unfold longF
    split
    · exact HG0.out.2 k
    · exact ⟨Int.le_refl 0, by decide⟩⟩
  refine (check_gd (x := 46) (HTb.out.up (HU7.out.trans HUb.out)) HBb.out (by have := HM.out; omega) (by have := HM.out; omega) hca ca9 HLo.out.2 HLo.out.1 (by rw [HM.out]; decide +kernel) (by decide)).mono ?_
  rintro e wc1 ⟨rfl, uc⟩
  have HUc : Hid (Up w7 wc1) := HUb.out.trans uc
  clear uc HUb HBb HLo
  unfold zHead
  go_upto_region 13 with fail
  have HUd : Hid (Up w7 (wc1.alloc (.cells #[.string ⟨#[]⟩, .int .i64 0, .int .i64 0, .int .i64 0, .int .i64 0, .bool false] 30))) := HUc.out.alloc _
  generalize World.alloc wc1 _ = wd1 at HUd ⊢
  clear HUc
  go_wp2_with fail
  refine (check_short (W := wd1) (a := none) (n := 0) (c := 0) (by decide) (by decide) (Or.inl (by decide))).mono ?_
  rintro e we1 ⟨rfl, ue⟩
  have HUe : Hid (Up w7 we1) := HUd.out.trans ue
  clear ue HUd
  unfold zHead
  go_upto_region 14 with fail
  have HUf : Hid (Up w7 (we1.alloc (.cells #[.string ⟨#[]⟩, .int .i64 0, .int .i64 0, .int .i64 0, .int .i64 0, .bool false] 30))) := HUe.out.alloc _
  generalize World.alloc we1 _ = wf1 at HUf ⊢
  clear HUe
  obtain ⟨BG, hBG⟩ : ∃ B : Nat, B = 2097153 := ⟨_, rfl⟩
  have hmk : (Instr.makeSlice 24 (.int .i64 2097153) (.int .i64 2097153)).run Tryd.prog wf1 = .ok (.slice (some ⟨wf1.heap.size, 0, none⟩) BG BG) (wf1.alloc (.cells (madeCells #[.int .u8 0] BG) 5)) := by
    have h := mkB wf1 BG (by omega)
    rw [hBG] at h ⊢
    exact h
  have HBG : Hid (BG = 2097153) := hBG
  clear hBG
  go_wp2_with fail
  have HUg : Hid (Up w7 (wf1.alloc (.cells (madeCells #[.int .u8 0] BG) 5))) := HUf.out.alloc _
  clear hmk
  generalize World.alloc wf1 _ = wg1 at HUg ⊢
  generalize wf1.heap.size = gb1
  refine (check_short (W := wg1) (a := some ⟨gb1, 0, none⟩) (n := BG) (c := BG) (Nat.le_refl _) (by have := HBG.out; omega) (Or.inr (by have := HBG.out; omega))).mono ?_
  rintro e wh1 ⟨rfl, uh⟩
  have HUh : Hid (Up w7 wh1) := HUg.out.trans uh
  clear uh HUg HUf HBG
  unfold zHead
  go_upto_region 15 with fail
  have HUi : Hid (Up w7 (wh1.alloc (.cells #[.string ⟨#[]⟩, .int .i64 0, .int .i64 0, .int .i64 0, .int .i64 0, .bool false] 30))) := HUh.out.alloc _
  generalize World.alloc wh1 _ = wi1 at HUi ⊢
  clear HUh
  have HBi : Hid (By wi1 g2 M F2) := HB7.out.up HUi.out
  have HUi2 : Hid (Up W wi1) := HU7.out.trans HUi.out
  clear HUi HB7 HU7
  have kf : wi1.frozen? ⟨g2, 323, none⟩ = false := HBi.out.fz 323
  have kc : wi1.cell? ⟨g2, 323, none⟩ = some (.int .u8 (F2 323)) := HBi.out.cell 323 (by have := HM.out; omega)
  have e323 : (323 : Int) < (M : Int) := by have := HM.out; omega
  have e333 : (333 : Int) < (M : Int) := by have := HM.out; omega
  go_wp2_with fail
  have HBx : Hid (By (wi1.setCell ⟨g2, 323, none⟩ (.int .u8 192)) g2 M (putF F2 323 1 (fun _ => 192))) := HBi.out.set 323 (by have := HM.out; omega) 192
  have HUx : Hid (Up W (wi1.setCell ⟨g2, 323, none⟩ (.int .u8 192))) := HUi2.out.setCell HG2.out _
  clear kf kc
  generalize World.setCell wi1 _ _ = wx at HBx HUx ⊢
  have H8x : Hid (∀ k, 0 ≤ putF F2 323 1 (fun _ => 192) k ∧ putF F2 323 1 (fun _ => 192) k ≤ 255) := putF_byte HG0.out.2 (fun _ => ⟨by decide, by decide⟩)
  refine (lawSum_any HBx.out (by have := HM.out; omega) (Nat.le_refl _) hm9 H8x.out).mono ?_
  rintro e w' ⟨rfl, hw'⟩
  obtain rfl := hw'.symm
  clear hw'
  have kf : wx.frozen? ⟨g2, 333, none⟩ = false := HBx.out.fz 333
  have kc : wx.cell? ⟨g2, 333, none⟩ = some (.int .u8 (putF F2 323 1 (fun _ => 192) 333)) := HBx.out.cell 333 (by have := HM.out; omega)
  obtain ⟨SM, hSM⟩ : ∃ s, (231 - sig (putF F2 323 1 (fun _ => 192)) 25) % 256 = s := ⟨_, rfl⟩
  have HSM : Hid ((231 - sig (putF F2 323 1 (fun _ => 192)) 25) % 256 = SM) := hSM
  rw [hSM]
  clear hSM
  generalize putF F2 323 1 (fun _ => 192) 333 = y9 at kc
  go_wp2_with fail
  have HBwy1 : Hid (By (wx.setCell ⟨g2, 333, none⟩ (.int .u8 SM)) g2 M (putF (putF F2 323 1 (fun _ => 192)) 333 1 (fun _ => (231 - sig (putF F2 323 1 (fun _ => 192)) 25) % 256))) := by
    rw [HSM.out]
    exact HBx.out.set 333 (by have := HM.out; omega) SM
  have HUwy1 : Hid (Up W (wx.setCell ⟨g2, 333, none⟩ (.int .u8 SM))) := HUx.out.setCell HG2.out _
  have HG3 : Hid (Gd (putF (putF F2 323 1 (fun _ => 192)) 333 1 (fun _ => (231 - sig (putF F2 323 1 (fun _ => 192)) 25) % 256)) 192 3 0 2 ∧ (∀ k, 0 ≤ putF (putF F2 323 1 (fun _ => 192)) 333 1 (fun _ => (231 - sig (putF F2 323 1 (fun _ => 192)) 25) % 256) k ∧ putF (putF F2 323 1 (fun _ => 192)) 333 1 (fun _ => (231 - sig (putF F2 323 1 (fun _ => 192)) 25) % 256) k ≤ 255)) := ⟨gd_model 192 rfl HG0.out.1, model_byte (by decide) HG0.out.2⟩
  clear kf kc HBx HUx H8x HBi HUi2
  generalize World.setCell wx _ _ = wy1 at HBwy1 HUwy1 ⊢
  generalize putF (putF F2 323 1 (fun _ => 192)) 333 1 (fun _ => (231 - sig (putF F2 323 1 (fun _ => 192)) 25) % 256) = F3 at HBwy1 HG3
  clear HSM HG0
  refine (check_gd (x := 44) (HTb.out.up HUwy1.out) HBwy1.out (by have := HM.out; omega) (by have := HM.out; omega) (Nat.le_refl _) hm9 HG3.out.2 HG3.out.1 (by rw [HM.out]; decide +kernel) (by decide)).mono ?_
  rintro e wj1 ⟨rfl, uj⟩
  have HUj : Hid (Up wy1 wj1) := uj
  clear uj
  unfold zHead
  go_upto_region 20 with fail
  have HUk : Hid (Up wy1 (wj1.alloc (.cells #[.string ⟨#[]⟩, .int .i64 0, .int .i64 0, .int .i64 0, .int .i64 0, .bool false] 30))) := HUj.out.alloc _
  generalize World.alloc wj1 _ = wk1 at HUk ⊢
  clear HUj
  have HBwk1 : Hid (By wk1 g2 M F3) := HBwy1.out.up HUk.out
  have HUwk1 : Hid (Up W wk1) := HUwy1.out.trans HUk.out
  clear HUk HBwy1 HUwy1
  have kf : wk1.frozen? ⟨g2, 323, none⟩ = false := HBwk1.out.fz 323
  have kc : wk1.cell? ⟨g2, 323, none⟩ = some (.int .u8 (F3 323)) := HBwk1.out.cell 323 (by have := HM.out; omega)
  generalize F3 323 = y8 at kc
  go_wp2_with fail
  have HBx : Hid (By (wk1.setCell ⟨g2, 323, none⟩ (.int .u8 0)) g2 M (putF F3 323 1 (fun _ => 0))) := HBwk1.out.set 323 (by have := HM.out; omega) 0
  have HUx : Hid (Up W (wk1.setCell ⟨g2, 323, none⟩ (.int .u8 0))) := HUwk1.out.setCell HG2.out _
  clear kf kc
  generalize World.setCell wk1 _ _ = wx at HBx HUx ⊢
  have H8x : Hid (∀ k, 0 ≤ putF F3 323 1 (fun _ => 0) k ∧ putF F3 323 1 (fun _ => 0) k ≤ 255) := putF_byte HG3.out.2 (fun _ => ⟨by decide, by decide⟩)
  refine (lawSum_any HBx.out (by have := HM.out; omega) (Nat.le_refl _) hm9 H8x.out).mono ?_
  rintro e w' ⟨rfl, hw'⟩
  obtain rfl := hw'.symm
  clear hw'
  have kf : wx.frozen? ⟨g2, 333, none⟩ = false := HBx.out.fz 333
  have kc : wx.cell? ⟨g2, 333, none⟩ = some (.int .u8 (putF F3 323 1 (fun _ => 0) 333)) := HBx.out.cell 333 (by have := HM.out; omega)
  obtain ⟨SM, hSM⟩ : ∃ s, (231 - sig (putF F3 323 1 (fun _ => 0)) 25) % 256 = s := ⟨_, rfl⟩
  have HSM : Hid ((231 - sig (putF F3 323 1 (fun _ => 0)) 25) % 256 = SM) := hSM
  rw [hSM]
  clear hSM
  generalize putF F3 323 1 (fun _ => 0) 333 = y9 at kc
  go_upto_region 22 with fail
  have HBwz1 : Hid (By (wx.setCell ⟨g2, 333, none⟩ (.int .u8 SM)) g2 M (putF (putF F3 323 1 (fun _ => 0)) 333 1 (fun _ => (231 - sig (putF F3 323 1 (fun _ => 0)) 25) % 256))) := by
    rw [HSM.out]
    exact HBx.out.set 333 (by have := HM.out; omega) SM
  have HUwz1 : Hid (Up W (wx.setCell ⟨g2, 333, none⟩ (.int .u8 SM))) := HUx.out.setCell HG2.out _
  have HG4 : Hid (Gd (putF (putF F3 323 1 (fun _ => 0)) 333 1 (fun _ => (231 - sig (putF F3 323 1 (fun _ => 0)) 25) % 256)) 0 3 0 2 ∧ (∀ k, 0 ≤ putF (putF F3 323 1 (fun _ => 0)) 333 1 (fun _ => (231 - sig (putF F3 323 1 (fun _ => 0)) 25) % 256) k ∧ putF (putF F3 323 1 (fun _ => 0)) 333 1 (fun _ => (231 - sig (putF F3 323 1 (fun _ => 0)) 25) % 256) k ≤ 255)) := ⟨gd_model 0 rfl HG3.out.1, model_byte (by decide) HG3.out.2⟩
  clear kf kc HBx HUx H8x HBwk1 HUwk1
  generalize World.setCell wx _ _ = wz1 at HBwz1 HUwz1 ⊢
  generalize putF (putF F3 323 1 (fun _ => 0)) 333 1 (fun _ => (231 - sig (putF F3 323 1 (fun _ => 0)) 25) % 256) = F4 at HBwz1 HG4
  clear HSM HG3
  obtain ⟨S1, hS1⟩ : ∃ B : Nat, B = 8191 := ⟨_, rfl⟩
  have hmk : (Instr.makeSlice 24 (.int .i64 8191) (.int .i64 8191)).run Tryd.prog wz1 = .ok (.slice (some ⟨wz1.heap.size, 0, none⟩) S1 S1) (wz1.alloc (.cells (madeCells #[.int .u8 0] S1) 5)) := by
    have h := mkB wz1 S1 (by omega)
    rw [hS1] at h ⊢
    exact h
  have HS1 : Hid (S1 = 8191) := hS1
  clear hS1
  go_wp2_with fail
  have HB1 : Hid (By (wz1.alloc (.cells (madeCells #[.int .u8 0] S1) 5)) g2 M F4 ∧ By (wz1.alloc (.cells (madeCells #[.int .u8 0] S1) 5)) wz1.heap.size S1 (fun _ => 0) ∧ Up W (wz1.alloc (.cells (madeCells #[.int .u8 0] S1) 5))) := ⟨HBwz1.out.up ((Up.refl _).alloc _), made_by wz1 S1 5, HUwz1.out.alloc _⟩
  clear hmk HBwz1 HUwz1
  generalize World.alloc wz1 _ = wl1 at HB1 ⊢
  generalize wz1.heap.size = sg1 at HB1 ⊢
  have HR3 : Hid ((⟨3, 1, 128, 2, 3, true⟩ : Rw) ∈ rowsT) := by show (⟨3, 1, 128, 2, 3, true⟩ : Rw) ∈ rowsT; simp [rowsT]
  refine (new_zero (R0 := ⟨3, 1, 128, 2, 3, true⟩) (HTb.out.up HB1.out.2.2) HB1.out.1 (by have := HM.out; omega) (by have := HM.out; omega) HG4.out.2 HG4.out.1 (by rw [HM.out]; decide +kernel) HR3.out rfl HB1.out.2.1 (by have := HS1.out; omega) (by have := HS1.out; omega)).mono ?_
  rintro e wm1 ⟨um, hcs⟩
  rcases hcs with ⟨_, rfl⟩ | ⟨⟨_, hb⟩, _⟩
  rotate_left
  · exact absurd (hb.trans (show ramN (⟨3, 1, 128, 2, 3, true⟩ : Rw) 2 = 8192 from rfl)) (by have := HS1.out; omega)
  have HBm : Hid (By wm1 g2 M F4 ∧ Up W wm1) := ⟨HB1.out.1.up um, HB1.out.2.2.trans um⟩
  clear um HB1 HS1
  obtain ⟨S2, hS2⟩ : ∃ B : Nat, B = 8192 := ⟨_, rfl⟩
  have hmk : (Instr.makeSlice 24 (.int .i64 8192) (.int .i64 8192)).run Tryd.prog wm1 = .ok (.slice (some ⟨wm1.heap.size, 0, none⟩) S2 S2) (wm1.alloc (.cells (madeCells #[.int .u8 0] S2) 5)) := by
    have h := mkB wm1 S2 (by omega)
    rw [hS2] at h ⊢
    exact h
  have HS2 : Hid (S2 = 8192) := hS2
  clear hS2
  go_wp2_with fail
  have HB2 : Hid (By (wm1.alloc (.cells (madeCells #[.int .u8 0] S2) 5)) g2 M F4 ∧ By (wm1.alloc (.cells (madeCells #[.int .u8 0] S2) 5)) wm1.heap.size S2 (fun _ => 0) ∧ Up W (wm1.alloc (.cells (madeCells #[.int .u8 0] S2) 5))) := ⟨HBm.out.1.up ((Up.refl _).alloc _), made_by wm1 S2 5, HBm.out.2.alloc _⟩
  clear hmk HBm
  generalize World.alloc wm1 _ = wn1 at HB2 ⊢
  generalize wm1.heap.size = sg2 at HB2 ⊢
  refine (new_zero (R0 := ⟨3, 1, 128, 2, 3, true⟩) (HTb.out.up HB2.out.2.2) HB2.out.1 (by have := HM.out; omega) (by have := HM.out; omega) HG4.out.2 HG4.out.1 (by rw [HM.out]; decide +kernel) HR3.out rfl HB2.out.2.1 (by have := HS2.out; omega) (by have := HS2.out; omega)).mono ?_
  rintro e wo1 ⟨uo, hcs⟩
  rcases hcs with ⟨hb, _⟩ | ⟨_, A, D, rfl, hcz, hdm, hdr, hdf⟩
  · exact absurd ⟨rfl, HS2.out.trans (show 8192 = ramN (⟨3, 1, 128, 2, 3, true⟩ : Rw) 2 from rfl)⟩ hb
  have HY : Hid (Cz wn1.heap.size wo1.heap.size A D wo1 ∧ D.m = Mp.new 1 ∧ D.rm = 8192 ∧ (∀ k, D.rf k = 0)) := ⟨hcz, hdm, hdr, hdf⟩
  have HUo : Hid (Up W wo1) := HB2.out.2.2.trans uo
  have HLo : Hid (W.heap.size ≤ wn1.heap.size) := HB2.out.2.2.size
  clear hcz hdm hdr hdf uo HB2 HR3 HG4 HG2 HS2
  generalize wn1.heap.size = lo at HY HLo
  generalize hhi : wo1.heap.size = hi at HY
  have HHi : Hid (hi ≤ wo1.heap.size) := by rw [hhi]; exact Nat.le_refl _
  clear hhi
  go_upto_region 24 with fail
  have HRo : Hid (∀ w, Calls Tryd.prog 12 #[.agg #[.int .i64 2, .int .i64 0, .int .i64 2, .int .i64 0, .int .i64 0, .slice none 0 0, .slice none 0 0, .bool false]] w fun e w' => ∃ g, e = .returned (.slice (some ⟨g, 0, none⟩) M M) ∧ w.heap.size ≤ g ∧ By w' g M (romF ((2 : Nat) : Int) ((0 : Nat) : Int) ((2 : Nat) : Int) 0) ∧ Up w w') := fun w => rom_any (W := w) (c := 0) (ty := 2) (rc := 0) (rm := 2) (sd := 0) (by rw [HM.out]) ⟨by decide, by decide⟩ ⟨by decide, by decide⟩ ⟨by decide, by decide⟩ ⟨by decide, by decide⟩ (by decide)
  obtain ⟨S3, hS3⟩ : ∃ B : Nat, B = 8192 := ⟨_, rfl⟩
  have hmk : ∀ w : World, (Instr.makeSlice 24 (.int .i64 8192) (.int .i64 8192)).run Tryd.prog w = .ok (.slice (some ⟨w.heap.size, 0, none⟩) S3 S3) (w.alloc (.cells (madeCells #[.int .u8 0] S3) 5)) := fun w => by
    have h := mkB w S3 (by omega)
    rw [hS3] at h ⊢
    exact h
  have HS3 : Hid (S3 = 8192) := hS3
  clear hS3
  have HR2 : Hid ((⟨2, 1, 128, 2, 3, false⟩ : Rw) ∈ rowsT) := by show (⟨2, 1, 128, 2, 3, false⟩ : Rw) ∈ rowsT; simp [rowsT]
  have HNz : Hid (∀ w g sg, Tb w → By w g M (romF ((2 : Nat) : Int) ((0 : Nat) : Int) ((2 : Nat) : Int) 0) → By w sg S3 (fun _ => 0) → Calls Tryd.prog 15 #[.slice (some ⟨g, 0, none⟩) M M, .slice (some ⟨sg, 0, none⟩) S3 S3] w fun e w' => e = .returned (.tuple #[.pointer none, .int .i64 48]) ∧ Up w w') := fun w g sg ht hb hs => by
    refine (new_zero (R0 := ⟨2, 1, 128, 2, 3, false⟩) ht hb (by have := HM.out; omega) (by have := HM.out; omega) (romF_byte _ _ _ _) (gd_rom (by decide) (by decide) (by decide) 0) (by rw [HM.out]; decide +kernel) HR2.out rfl hs (by have := HS3.out; omega) (by have := HS3.out; omega)).mono ?_
    rintro e w' ⟨u, hcs⟩
    rcases hcs with ⟨_, rfl⟩ | ⟨⟨hb, _⟩, _⟩
    · exact ⟨rfl, u⟩
    · exact absurd hb (by decide)
  generalize romF ((2 : Nat) : Int) ((0 : Nat) : Int) ((2 : Nat) : Int) 0 = FX at HRo HNz
  go_cut [29, 30] (fun a b wx => a = .pointer none ∧ b = .int .i64 48 ∧ Hid (Up wo1 wx))
  case first =>
    refine wp_region_held_drew (S := fun _ => True) (by kernel_rfl) trivial (fun hHeld => ?_)
    have HUd : Hid (Up wo1 wo1.drew) := (Up.refl _).drew
    generalize World.drew wo1 = wd at HUd hHeld ⊢
    refine wpAnyH_take (i := 0) (v := ?_) (by simp only [List.getElem?_toArray, List.getElem?_cons_zero]; rfl) (by kernel_rfl) (by kernel_rfl) (by kernel_rfl) (by intro _ _ _ h; exact h) (Or.inl ⟨by rfl, ?_⟩) (by assumption) ?_
    rotate_left
    · (intro w hSw; (try dsimp only at hSw); go_simp <;> with_reducible rfl)
    try simp only [Act.put, List.setIfInBounds_toArray, List.set_cons_zero, List.set_cons_succ]
    refine wpAnyH_ready (rs := [1, 2]) (by kernel_rfl) (by simp) ?_
    refine AllReadyH.cons (by simp only [List.getElem?_toArray, List.getElem?_cons_succ, List.getElem?_cons_zero]; rfl) (fun KK hK => ?_) (AllReadyH.cons (by simp only [List.getElem?_toArray, List.getElem?_cons_succ, List.getElem?_cons_zero]; rfl) (fun KK hK => ?_) AllReadyH.nil)
    · go_simp
      refine (HRo.out wd).mono ?_
      rintro e wq ⟨g3, rfl, _, hb3, u3⟩
      have H3 : Hid (By wq g3 M FX ∧ Up wo1 wq) := ⟨hb3, HUd.out.trans u3⟩
      clear hb3 u3
      refine hK.out _ _ trivial (fun hHeld => ?_)
      clear hK KK
      try simp only [Act.put, List.setIfInBounds_toArray, List.set_cons_zero, List.set_cons_succ]
      refine wpAnyH_ready (rs := [2]) (by kernel_rfl) (by simp) ?_
      refine AllReadyH.cons (by simp only [List.getElem?_toArray, List.getElem?_cons_succ, List.getElem?_cons_zero]; rfl) (fun KK hK => ?_) AllReadyH.nil
      go_simp
      have H4 : Hid (By (wq.alloc (.cells (madeCells #[.int .u8 0] S3) 5)) g3 M FX ∧ By (wq.alloc (.cells (madeCells #[.int .u8 0] S3) 5)) wq.heap.size S3 (fun _ => 0) ∧ Up wo1 (wq.alloc (.cells (madeCells #[.int .u8 0] S3) 5))) := ⟨H3.out.1.up ((Up.refl _).alloc _), made_by wq S3 5, H3.out.2.alloc _⟩
      generalize World.alloc wq _ = wr9 at H4 ⊢
      generalize wq.heap.size = sg3 at H4 ⊢
      refine hK.out _ _ trivial (fun hHeld => ?_)
      clear hK KK
      try simp only [Act.put, List.setIfInBounds_toArray, List.set_cons_zero, List.set_cons_succ]
      refine wpAnyH_ready (rs := [3]) (by kernel_rfl) (by simp) ?_
      refine AllReadyH.cons (by simp only [List.getElem?_toArray, List.getElem?_cons_succ, List.getElem?_cons_zero]; rfl) (fun KK hK => ?_) AllReadyH.nil
      go_simp
      refine (HNz.out _ _ _ (HTb.out.up (HUo.out.trans H4.out.2.2)) H4.out.1 H4.out.2.1).mono ?_
      rintro e wz9 ⟨rfl, uz⟩
      have HUz : Hid (Up wo1 wz9) := (H4.out.2.2).trans uz
      clear uz
      refine hK.out _ _ trivial (fun hHeld => ?_)
      clear hK KK
      try simp only [Act.put, List.setIfInBounds_toArray, List.set_cons_zero, List.set_cons_succ]
      refine wpAnyH_take (i := 4) (v := ?_) (by simp only [List.getElem?_toArray, List.getElem?_cons_succ, List.getElem?_cons_zero]; rfl) (by kernel_rfl) (by kernel_rfl) (by kernel_rfl) (by intro _ _ _ h; exact h) (Or.inl ⟨by rfl, ?_⟩) (by assumption) ?_
      rotate_left
      · (intro w hSw; (try dsimp only at hSw); go_simp <;> with_reducible rfl)
      try simp only [Act.put, List.setIfInBounds_toArray, List.set_cons_zero, List.set_cons_succ]
      refine wpAnyH_take (i := 5) (v := ?_) (by simp only [List.getElem?_toArray, List.getElem?_cons_succ, List.getElem?_cons_zero]; rfl) (by kernel_rfl) (by kernel_rfl) (by kernel_rfl) (by intro _ _ _ h; exact h) (Or.inl ⟨by rfl, ?_⟩) (by assumption) ?_
      rotate_left
      · (intro w hSw; (try dsimp only at hSw); go_simp <;> with_reducible rfl)
      try simp only [Act.put, List.setIfInBounds_toArray, List.set_cons_zero, List.set_cons_succ]
      refine wpAnyH_take (i := 6) (v := ?_) (by simp only [List.getElem?_toArray, List.getElem?_cons_succ, List.getElem?_cons_zero]; rfl) (by kernel_rfl) (by kernel_rfl) (by kernel_rfl) (by intro _ _ _ h; exact h) (Or.inl ⟨by rfl, ?_⟩) (by assumption) ?_
      rotate_left
      · (intro w hSw; (try dsimp only at hSw); go_simp <;> with_reducible rfl)
      try simp only [Act.put, List.setIfInBounds_toArray, List.set_cons_zero, List.set_cons_succ]
      refine wpAnyH_take (i := 7) (v := ?_) (by simp only [List.getElem?_toArray, List.getElem?_cons_succ, List.getElem?_cons_zero]; rfl) (by kernel_rfl) (by kernel_rfl) (by kernel_rfl) (by intro _ _ _ h; exact h) (Or.inl ⟨by rfl, ?_⟩) (by assumption) ?_
      rotate_left
      · (intro w hSw; (try dsimp only at hSw); go_simp <;> with_reducible rfl)
      try simp only [Act.put, List.setIfInBounds_toArray, List.set_cons_zero, List.set_cons_succ]
      refine wpAnyH_take (i := 8) (v := ?_) (by simp only [List.getElem?_toArray, List.getElem?_cons_succ, List.getElem?_cons_zero]; rfl) (by kernel_rfl) (by kernel_rfl) (by kernel_rfl) (by intro _ _ _ h; exact h) (Or.inl ⟨by rfl, ?_⟩) (by assumption) ?_
      rotate_left
      · (intro w hSw; (try dsimp only at hSw); go_simp <;> with_reducible rfl)
      try simp only [Act.put, List.setIfInBounds_toArray, List.set_cons_zero, List.set_cons_succ]
      refine wpAnyH_done (by kernel_rfl) ?_ _
      first | go_meet | (go_wp2_with fail; go_meet)
      exact ⟨by first | rfl | (simp; done), by first | rfl | (simp; done), HUz⟩
    · go_simp
      have H3 : Hid (By (wd.alloc (.cells (madeCells #[.int .u8 0] S3) 5)) wd.heap.size S3 (fun _ => 0) ∧ Up wo1 (wd.alloc (.cells (madeCells #[.int .u8 0] S3) 5))) := ⟨made_by wd S3 5, HUd.out.alloc _⟩
      generalize World.alloc wd _ = wq at H3 ⊢
      generalize wd.heap.size = sg3 at H3 ⊢
      refine hK.out _ _ trivial (fun hHeld => ?_)
      clear hK KK
      try simp only [Act.put, List.setIfInBounds_toArray, List.set_cons_zero, List.set_cons_succ]
      refine wpAnyH_ready (rs := [1]) (by kernel_rfl) (by simp) ?_
      refine AllReadyH.cons (by simp only [List.getElem?_toArray, List.getElem?_cons_succ, List.getElem?_cons_zero]; rfl) (fun KK hK => ?_) AllReadyH.nil
      go_simp
      refine (HRo.out wq).mono ?_
      rintro e wr9 ⟨g3, rfl, _, hb3, u3⟩
      have H4 : Hid (By wr9 g3 M FX ∧ By wr9 sg3 S3 (fun _ => 0) ∧ Up wo1 wr9) := ⟨hb3, H3.out.1.up u3, H3.out.2.trans u3⟩
      clear hb3 u3
      refine hK.out _ _ trivial (fun hHeld => ?_)
      clear hK KK
      try simp only [Act.put, List.setIfInBounds_toArray, List.set_cons_zero, List.set_cons_succ]
      refine wpAnyH_ready (rs := [3]) (by kernel_rfl) (by simp) ?_
      refine AllReadyH.cons (by simp only [List.getElem?_toArray, List.getElem?_cons_succ, List.getElem?_cons_zero]; rfl) (fun KK hK => ?_) AllReadyH.nil
      go_simp
      refine (HNz.out _ _ _ (HTb.out.up (HUo.out.trans H4.out.2.2)) H4.out.1 H4.out.2.1).mono ?_
      rintro e wz9 ⟨rfl, uz⟩
      have HUz : Hid (Up wo1 wz9) := (H4.out.2.2).trans uz
      clear uz
      refine hK.out _ _ trivial (fun hHeld => ?_)
      clear hK KK
      try simp only [Act.put, List.setIfInBounds_toArray, List.set_cons_zero, List.set_cons_succ]
      refine wpAnyH_take (i := 4) (v := ?_) (by simp only [List.getElem?_toArray, List.getElem?_cons_succ, List.getElem?_cons_zero]; rfl) (by kernel_rfl) (by kernel_rfl) (by kernel_rfl) (by intro _ _ _ h; exact h) (Or.inl ⟨by rfl, ?_⟩) (by assumption) ?_
      rotate_left
      · (intro w hSw; (try dsimp only at hSw); go_simp <;> with_reducible rfl)
      try simp only [Act.put, List.setIfInBounds_toArray, List.set_cons_zero, List.set_cons_succ]
      refine wpAnyH_take (i := 5) (v := ?_) (by simp only [List.getElem?_toArray, List.getElem?_cons_succ, List.getElem?_cons_zero]; rfl) (by kernel_rfl) (by kernel_rfl) (by kernel_rfl) (by intro _ _ _ h; exact h) (Or.inl ⟨by rfl, ?_⟩) (by assumption) ?_
      rotate_left
      · (intro w hSw; (try dsimp only at hSw); go_simp <;> with_reducible rfl)
      try simp only [Act.put, List.setIfInBounds_toArray, List.set_cons_zero, List.set_cons_succ]
      refine wpAnyH_take (i := 6) (v := ?_) (by simp only [List.getElem?_toArray, List.getElem?_cons_succ, List.getElem?_cons_zero]; rfl) (by kernel_rfl) (by kernel_rfl) (by kernel_rfl) (by intro _ _ _ h; exact h) (Or.inl ⟨by rfl, ?_⟩) (by assumption) ?_
      rotate_left
      · (intro w hSw; (try dsimp only at hSw); go_simp <;> with_reducible rfl)
      try simp only [Act.put, List.setIfInBounds_toArray, List.set_cons_zero, List.set_cons_succ]
      refine wpAnyH_take (i := 7) (v := ?_) (by simp only [List.getElem?_toArray, List.getElem?_cons_succ, List.getElem?_cons_zero]; rfl) (by kernel_rfl) (by kernel_rfl) (by kernel_rfl) (by intro _ _ _ h; exact h) (Or.inl ⟨by rfl, ?_⟩) (by assumption) ?_
      rotate_left
      · (intro w hSw; (try dsimp only at hSw); go_simp <;> with_reducible rfl)
      try simp only [Act.put, List.setIfInBounds_toArray, List.set_cons_zero, List.set_cons_succ]
      refine wpAnyH_take (i := 8) (v := ?_) (by simp only [List.getElem?_toArray, List.getElem?_cons_succ, List.getElem?_cons_zero]; rfl) (by kernel_rfl) (by kernel_rfl) (by kernel_rfl) (by intro _ _ _ h; exact h) (Or.inl ⟨by rfl, ?_⟩) (by assumption) ?_
      rotate_left
      · (intro w hSw; (try dsimp only at hSw); go_simp <;> with_reducible rfl)
      try simp only [Act.put, List.setIfInBounds_toArray, List.set_cons_zero, List.set_cons_succ]
      refine wpAnyH_done (by kernel_rfl) ?_ _
      first | go_meet | (go_wp2_with fail; go_meet)
      exact ⟨by first | rfl | (simp; done), by first | rfl | (simp; done), HUz⟩
  case rest =>
  obtain ⟨rfl, rfl, HUx⟩ := hcut
  generalize wc = wp1 at HUx ⊢
  have HYp : Hid (Cz lo hi A D wp1) := HY.out.1.up HUx.out
  have HUp : Hid (Up W wp1) := HUo.out.trans HUx.out
  have HHp : Hid (hi ≤ wp1.heap.size) := Nat.le_trans HHi.out HUx.out.size
  clear HRo HNz HR2 hmk HS3 HUx HUo HHi
  obtain ⟨SS, hSS⟩ : ∃ B : Nat, B = 8197 := ⟨_, rfl⟩
  have hmk : (Instr.makeSlice 24 (.int .i64 8197) (.int .i64 8197)).run Tryd.prog wp1 = .ok (.slice (some ⟨wp1.heap.size, 0, none⟩) SS SS) (wp1.alloc (.cells (madeCells #[.int .u8 0] SS) 5)) := by
    have h := mkB wp1 SS (by omega)
    rw [hSS] at h ⊢
    exact h
  have HSS : Hid (SS = 8197) := hSS
  have ss1 : 5 < SS := by omega
  have ss9 : SS ≤ 9223372036854775807 := by omega
  clear hSS
  go_wp2_with fail
  have HS5 : Hid (By (wp1.alloc (.cells (madeCells #[.int .u8 0] SS) 5)) wp1.heap.size SS (fun _ => 0) ∧ Cz lo hi A D (wp1.alloc (.cells (madeCells #[.int .u8 0] SS) 5)) ∧ Up W (wp1.alloc (.cells (madeCells #[.int .u8 0] SS) 5)) ∧ hi ≤ wp1.heap.size ∧ W.heap.size ≤ wp1.heap.size) := ⟨made_by wp1 SS 5, HYp.out.up ((Up.refl _).alloc _), HUp.out.alloc _, HHp.out, HUp.out.size⟩
  clear hmk HYp HUp HHp
  generalize World.alloc wp1 _ = wq1 at HS5 ⊢
  generalize wp1.heap.size = ss at HS5 ⊢
  have HDk : Hid (D.m.kd = 1 ∧ D.rm = 8192 ∧ SS = 5 + D.rm) := ⟨by rw [HY.out.2.1]; rfl, HY.out.2.2.1, by rw [HY.out.2.2.1, HSS.out]⟩
  have HLo1 : Hid (∀ w, Cz lo hi A D w → By w ss SS (fun _ => 0) → Calls Tryd.prog 20 #[.pointer (some ⟨A.cb, 0, none⟩), .slice (some ⟨ss, 0, none⟩) SS SS] w fun e w' => e = .returned (.int .i64 49) ∧ Up w w') := fun w hc hb => hc.ct.loadOut (hb.byts (Nat.le_refl _) (by unfold maxLen; omega) (fun _ => ⟨Int.le_refl 0, by decide⟩)) HDk.out.2.2 (by rw [HDk.out.2.1]; decide) (fun k _ => Int.natCast_nonneg _) (by rw [HDk.out.1]; exact zero_reg)
  have HLo2 : Hid (∀ w, Cz lo hi A D w → By w ss SS (fun _ => 0) → Calls Tryd.prog 20 #[.pointer (some ⟨A.cb, 0, none⟩), .slice (some ⟨ss, 1, none⟩) (SS - 1) (SS - 1)] w fun e w' => e = .returned (.int .i64 49) ∧ Up w w') := fun w hc hb => hc.ct.loadUnfit (ab := ss) (ao := 1) (f := fun _ => 0) ⟨Nat.le_refl _, by unfold maxLen; omega, fun _ => rfl, fun _ => ⟨Int.le_refl 0, by decide⟩, fun k hk => hb.cell (1 + k) (by omega)⟩ (by have := HSS.out; omega) (fun q => by have h1 := q.1; have h2 := HDk.out.2.2; omega)
  refine (HLo1.out _ HS5.out.2.1 HS5.out.1).mono ?_
  rintro e wr1 ⟨rfl, ur⟩
  have HS6 : Hid (By wr1 ss SS (fun _ => 0) ∧ Cz lo hi A D wr1 ∧ Up W wr1) := ⟨HS5.out.1.up ur, HS5.out.2.1.up ur, HS5.out.2.2.1.trans ur⟩
  have HOf : Hid (hi ≤ ss ∧ W.heap.size ≤ ss) := HS5.out.2.2.2
  clear ur HS5 HLo1
  go_wp2_with fail
  refine (HLo2.out _ HS6.out.2.1 HS6.out.1).mono ?_
  rintro e ws1 ⟨rfl, us⟩
  have HS7 : Hid (By ws1 ss SS (fun _ => 0) ∧ Cz lo hi A D ws1 ∧ Up W ws1) := ⟨HS6.out.1.up us, HS6.out.2.1.up us, HS6.out.2.2.trans us⟩
  clear us HS6 HLo2
  go_wp2_with fail
  refine (load_short (W := ws1) (cb := A.cb) (aa := none) (n := 0) (c := 0) (by decide) (by decide) (by decide)).mono ?_
  rintro e wt1 ⟨rfl, ut⟩
  have HS8 : Hid (By wt1 ss SS (fun _ => 0) ∧ Cz lo hi A D wt1 ∧ Up W wt1) := ⟨HS7.out.1.up ut, HS7.out.2.1.up ut, HS7.out.2.2.trans ut⟩
  clear ut HS7
  have kf : ∀ k, wt1.frozen? ⟨ss, k, none⟩ = false := HS8.out.1.fz
  have k1 : wt1.cell? ⟨ss, 1, none⟩ = some (.int .u8 0) := HS8.out.1.cell 1 (by omega)
  have k3 : wt1.cell? ⟨ss, 3, none⟩ = some (.int .u8 0) := HS8.out.1.cell 3 (by omega)
  have e1 : (1 : Int) < (SS : Int) := by omega
  have e3 : (3 : Int) < (SS : Int) := by omega
  go_wp2_with fail
  have HS9 : Hid (By ((wt1.setCell ⟨ss, 1, none⟩ (.int .u8 31)).setCell ⟨ss, 3, none⟩ (.int .u8 3)) ss SS sF ∧ Cz lo hi A D ((wt1.setCell ⟨ss, 1, none⟩ (.int .u8 31)).setCell ⟨ss, 3, none⟩ (.int .u8 3)) ∧ Up W ((wt1.setCell ⟨ss, 1, none⟩ (.int .u8 31)).setCell ⟨ss, 3, none⟩ (.int .u8 3))) := by
    have fr : Fr ss wt1 ((wt1.setCell ⟨ss, 1, none⟩ (.int .u8 31)).setCell ⟨ss, 3, none⟩ (.int .u8 3)) := ((Fr.refl ss wt1).setCell).setCell
    exact ⟨(HS8.out.1.set 1 (by omega) 31).set 3 (by omega) 3, HS8.out.2.1.keep (FK.ofFr fr (K := fun k => k ≠ ss) (fun h => h rfl)) (fun k _ h => by have := HOf.out.1; omega), Fr.up HS8.out.2.2 HOf.out.2 fr⟩
  clear kf k1 k3 HS8
  generalize World.setCell (World.setCell wt1 _ _) _ _ = wu1 at HS9 ⊢
  have HLo3 : Hid (Calls Tryd.prog 20 #[.pointer (some ⟨A.cb, 0, none⟩), .slice (some ⟨ss, 0, none⟩) SS SS] wu1 fun e w' => e = .returned (.int .i64 0) ∧ Cz lo hi A (D.loaded sF) w' ∧ FK (Off lo hi) wu1 w') := HS9.out.2.1.loadOk (HS9.out.1.byts (Nat.le_refl _) (by unfold maxLen; omega) sF_u8) HDk.out.2.2 (by rw [HDk.out.2.1]; decide) (fun k _ => by rw [sF_out (by omega)]; exact Int.natCast_nonneg _) (by rw [HDk.out.1]; exact sF_reg) (Or.inr HOf.out.1)
  refine Calls.mono HLo3.out ?_
  rintro e wv1 ⟨rfl, hcz, hfk⟩
  have HV : Hid (Cz lo hi A (D.loaded sF) wv1 ∧ By wv1 ss SS sF ∧ Up W wv1) := ⟨hcz, HS9.out.1.of_block (hfk.block ss HS9.out.1.lt (Or.inr HOf.out.1)), up_off HS9.out.2.2 hfk HLo.out⟩
  clear hcz hfk HLo3 HS9
  obtain ⟨pt, hpt, lpt⟩ : ∃ p : Nat, pickI nn 1099511627776 = (p : Int) ∧ p < 1099511627776 := by
    obtain ⟨p, hp⟩ := Int.eq_ofNat_of_zero_le (pickI_lo nn 1099511627776 (by decide))
    exact ⟨p, hp, by have := pickI_hi nn 1099511627776 (by decide); omega⟩
  have HKt : Hid (∀ w, Calls Tryd.prog 14 #[.int .i64 nn, .int .i64 1099511627776] w fun e w' => e = .returned (.int .i64 (pt : Int)) ∧ w' = w) := fun w => by rw [← hpt]; exact HP.out nn 1099511627776 w HI.out.2 (by decide) (by decide)
  have HRd : Hid (∀ w (a : Int), Cz lo hi A (D.loaded sF) w → (a < 0 ∨ (32768 ≤ a ∧ a < 40960) ∨ 49152 ≤ a) → Calls Tryd.prog 17 #[.pointer (some ⟨A.cb, 0, none⟩), .int .i64 a] w fun e w' => e = .returned (.int .u8 255) ∧ Up w w') := fun w a hc ha => by
    have h := hc.read (a := a)
    rw [rd_out ha] at h
    exact h
  clear hpt
  go_wp2_with fail
  refine (HKt.out _).mono ?_
  rintro e w' ⟨rfl, hw'⟩
  obtain rfl := hw'.symm
  clear hw'
  go_wp2_with fail
  refine (HRd.out _ _ HV.out.1 (Or.inl (by omega))).mono ?_
  rintro e a1 ⟨rfl, u9⟩
  have Ha1 : Hid (Cz lo hi A (D.loaded sF) a1 ∧ By a1 ss SS sF ∧ Up W a1) := ⟨HV.out.1.up u9, HV.out.2.1.up u9, HV.out.2.2.trans u9⟩
  clear u9 HV
  go_wp2_with fail
  refine (HRd.out _ _ Ha1.out.1 (Or.inr (Or.inl ⟨by decide, by decide⟩))).mono ?_
  rintro e a2 ⟨rfl, u9⟩
  have Ha2 : Hid (Cz lo hi A (D.loaded sF) a2 ∧ By a2 ss SS sF ∧ Up W a2) := ⟨Ha1.out.1.up u9, Ha1.out.2.1.up u9, Ha1.out.2.2.trans u9⟩
  clear u9 Ha1
  go_wp2_with fail
  refine (HRd.out _ _ Ha2.out.1 (Or.inr (Or.inl ⟨by decide, by decide⟩))).mono ?_
  rintro e a3 ⟨rfl, u9⟩
  have Ha3 : Hid (Cz lo hi A (D.loaded sF) a3 ∧ By a3 ss SS sF ∧ Up W a3) := ⟨Ha2.out.1.up u9, Ha2.out.2.1.up u9, Ha2.out.2.2.trans u9⟩
  clear u9 Ha2
  go_wp2_with fail
  refine (HKt.out _).mono ?_
  rintro e w' ⟨rfl, hw'⟩
  obtain rfl := hw'.symm
  clear hw'
  go_wp2_with fail
  refine (HRd.out _ _ Ha3.out.1 (Or.inr (Or.inr (by omega)))).mono ?_
  rintro e a4 ⟨rfl, u9⟩
  have Ha4 : Hid (Cz lo hi A (D.loaded sF) a4 ∧ By a4 ss SS sF ∧ Up W a4) := ⟨Ha3.out.1.up u9, Ha3.out.2.1.up u9, Ha3.out.2.2.trans u9⟩
  clear u9 Ha3
  go_wp2_with fail
  have HWr : Hid (Calls Tryd.prog 18 #[.pointer (some ⟨A.cb, 0, none⟩), .int .i64 65536, .int .u8 10] a4 fun e w' => e = .returned (.tuple #[]) ∧ Cz lo hi A (D.loaded sF) w' ∧ FK (Off lo hi) a4 w') := by
    have h := Ha4.out.1.write (a := 65536) (x := 10) (by decide)
    rw [wr_out (by omega)] at h
    exact h
  refine Calls.mono HWr.out ?_
  rintro e a5 ⟨rfl, hcz, hfk⟩
  have Ha5 : Hid (Cz lo hi A (D.loaded sF) a5 ∧ By a5 ss SS sF ∧ Up W a5) := ⟨hcz, Ha4.out.2.1.of_block (hfk.block ss Ha4.out.2.1.lt (Or.inr HOf.out.1)), up_off Ha4.out.2.2 hfk HLo.out⟩
  clear hcz hfk HWr Ha4
  go_wp2_with fail
  have HWr : Hid (Calls Tryd.prog 18 #[.pointer (some ⟨A.cb, 0, none⟩), .int .i64 (-1), .int .u8 10] a5 fun e w' => e = .returned (.tuple #[]) ∧ Cz lo hi A (D.loaded sF) w' ∧ FK (Off lo hi) a5 w') := by
    have h := Ha5.out.1.write (a := (-1)) (x := 10) (by decide)
    rw [wr_out (by omega)] at h
    exact h
  refine Calls.mono HWr.out ?_
  rintro e a6 ⟨rfl, hcz, hfk⟩
  have Ha6 : Hid (Cz lo hi A (D.loaded sF) a6 ∧ By a6 ss SS sF ∧ Up W a6) := ⟨hcz, Ha5.out.2.1.of_block (hfk.block ss Ha5.out.2.1.lt (Or.inr HOf.out.1)), up_off Ha5.out.2.2 hfk HLo.out⟩
  clear hcz hfk HWr Ha5
  go_wp2_with fail
  have HRz : Hid (Calls Tryd.prog 17 #[.pointer (some ⟨A.cb, 0, none⟩), .int .i64 40960] a6 fun e w' => e = .returned (.int .u8 255) ∧ Up a6 w') := by
    have h := Ha6.out.1.read (a := 40960)
    rw [rd_shut (by decide) (seen_sF HDk.out.1)] at h
    exact h
  refine Calls.mono HRz.out ?_
  rintro e a7 ⟨rfl, u9⟩
  have Ha7 : Hid (Cz lo hi A (D.loaded sF) a7 ∧ By a7 ss SS sF ∧ Up W a7) := ⟨Ha6.out.1.up u9, Ha6.out.2.1.up u9, Ha6.out.2.2.trans u9⟩
  clear u9 Ha6 HRz
  have HSt : Hid (Calls Tryd.prog 22 #[.pointer (some ⟨A.cb, 0, none⟩)] a7 (Cop a7 SS (D.loaded sF).st)) := by
    have h := Ha7.out.1.state
    rw [HDk.out.2.2]
    exact h
  go_wp2_with fail
  refine Calls.mono HSt.out ?_
  rintro e a8 ⟨g8, c8, rfl, _, hb8, hc8, hm8, u8⟩
  have HSm : Hid (Calls Tryd.prog 21 #[.slice (some ⟨g8, 0, none⟩) SS c8, .slice (some ⟨ss, 0, none⟩) SS SS] a8 fun e w' => e = .returned (.bool true) ∧ Up a8 w') := same_yes (hb8.byts hc8 hm8 (fun k => Ct.st_u8 Ha7.out.1.ok Ha7.out.1.std k)) ((Ha7.out.2.1.up u8).byts (Nat.le_refl _) (by unfold maxLen; omega) sF_u8) (fun k hk => st_sF (by rw [← HDk.out.2.2]; exact hk))
  have HU8 : Hid (Up W a8) := Ha7.out.2.2.trans u8
  clear hb8 hc8 hm8 u8 HSt Ha7
  go_wp2_with fail
  refine Calls.mono HSm.out ?_
  rintro e a9 ⟨rfl, u9⟩
  have HU9 : Hid (Up W a9) := HU8.out.trans u9
  clear u9 HSm HU8
  go_wp2_with fail
  go_ret
  exact ⟨by first | rfl | (simp; done), HU9.out⟩
end Go.Proofs.YtkcmhojninhhoaaDoor
