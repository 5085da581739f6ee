import Derived.Test.YtojlappgmckokaaDoorCaJ
/- Cart: the document's answer: mark, sum, RAM, the kinds of types. -/
namespace Go.Proofs.YtojlappgmckokaaDoor
open Go.Shelf Go.RowKit
set_option linter.unusedVariables false
set_option linter.unusedSimpArgs false
variable {w w' W : World} {g n : Nat} {f : Nat → Int}
theorem alloc_size' (w : World) (x : Obj) : (w.alloc x).heap.size = w.heap.size + 1 := by unfold World.alloc; simp
theorem tmod256 (x : Int) : ∃ y, x.tmod 256 = y ∧ -256 < y ∧ y < 256 ∧ (y + 256).tmod 256 = x % 256 := by
  refine ⟨_, rfl, ?_⟩
  have h : x.tmod 256 = x % 256 ∨ (x.tmod 256 = x % 256 - 256 ∧ x % 256 ≠ 0) := by
    rw [Int.tmod_eq_emod]
    split
    · left; simp
    · right
      exact ⟨rfl, by omega⟩
  rcases h with h | ⟨h, h2⟩ <;> rw [h] <;> refine ⟨by omega, by omega, ?_⟩ <;> rw [Int.tmod_eq_emod_of_nonneg (by omega)] <;> omega
set_option maxRecDepth 100000 in
theorem markR_any {i : Nat} (hi : i < 48) : Calls Tryd.prog 54 #[.int .i64 (i : Int)] w fun e w' => e = .returned (.int .u8 (markF i)) ∧ w' = w := by
  have key : ∀ j : Fin 48, ((7 * (j.val : Int) * (j.val : Int) + 13 * (j.val : Int) + 206) % 256) = markF j.val := by decide +kernel
  have hk : (7 * (i : Int) * (i : Int) + 13 * (i : Int) + 206) % 256 = markF i := key ⟨i, hi⟩
  have hq : 0 ≤ 7 * (i : Int) * (i : Int) ∧ 7 * (i : Int) * (i : Int) ≤ 20000 := by
    have key2 : ∀ j : Fin 48, 0 ≤ 7 * (j.val : Int) * (j.val : Int) ∧ 7 * (j.val : Int) * (j.val : Int) ≤ 20000 := by decide +kernel
    exact key2 ⟨i, hi⟩
  generalize hQ : 7 * (i : Int) * (i : Int) = Q at hk hq
  have et : (Q + 13 * (i : Int) + 206).tmod 256 = markF i := by rw [Int.tmod_eq_emod_of_nonneg (by omega)]; exact hk
  generalize hX : markF i = X at *
  have x8 : 0 ≤ X ∧ X ≤ 255 := by omega
  go_enter Tryd.func54, Tryd.ntmps54
  go_wp2_with fail
  go_ret
  exact ⟨by first | rfl | (simp; done), rfl⟩
set_option maxRecDepth 100000 in
set_option maxHeartbeats 1000000 in
theorem sumR_any {c : Nat} (h : By W g n f) (hn : 512 ≤ n) (hc : n ≤ c) (hm : c ≤ 9223372036854775807) (h8 : ∀ k, 0 ≤ f k ∧ f k ≤ 255) : Calls Tryd.prog 55 #[.slice (some ⟨g, 0, none⟩) n c] W fun e w' => e = .returned (.int .u8 ((231 - sig f 25) % 256)) ∧ w' = W := by
  have HB : Hid (By W g n f) := h
  have H8 : Hid (∀ k, 0 ≤ f k ∧ f k ≤ 255) := h8
  clear h h8
  go_enter Tryd.func55, Tryd.ntmps55
  go_wp2_with fail
  go_loopw [3, 4] (fun S I wr => wr = W ∧ ∃ k : Nat, k ≤ 25 ∧ I = .int .i64 ((308 + k : Nat) : Int) ∧ S = .int .i64 (231 - sig f k) ∧ 0 ≤ sig f k ∧ sig f k ≤ 255 * k) (fun _ I _ => 333 - (intOf I).toNat)
  case atStart => exact ⟨rfl, 0, Nat.zero_le _, rfl, rfl, Int.le_refl 0, Int.le_refl 0⟩
  case round =>
    obtain ⟨hw, k, hk, rfl, rfl, s0, s1⟩ := hrel
    subst hw
    by_cases hlt : k < 25
    · have e1 : ((308 + k : Nat) : Int) ≤ 332 := by omega
      have kc := HB.out.cell (308 + k) (by omega)
      have k8 := H8.out (308 + k)
      have hs : sig f (k + 1) = sig f k + f (308 + k) := rfl
      generalize f (308 + k) = X at *
      generalize sig f k = S at *
      go_wp2_with fail
      go_round
      case rel => exact ⟨by trivial, k + 1, by omega, by go_num, by rw [hs]; congr 1; omega, by rw [hs]; omega, by rw [hs]; omega⟩
      case measure => simp [intOf]; omega
    · have e1 : ¬ ((308 + k : Nat) : Int) ≤ 332 := by omega
      obtain rfl : k = 25 := by omega
      obtain ⟨y, hy, y1, y2, y3⟩ := tmod256 (231 - sig f 25)
      generalize hS : sig f 25 = S at *
      generalize hR : (231 - S) % 256 = R at *
      have r8 : 0 ≤ R ∧ R ≤ 255 := by omega
      go_wp2_with fail
      go_ret
      refine ⟨?_, rfl⟩
      first | rfl | (simp; done)
theorem ramR_any {c : Nat} (h : c ≤ 255) : Calls Tryd.prog 57 #[.int .i64 (c : Int)] w fun e w' => e = .returned (.int .i64 ((([0, 0, 8192, 32768, 131072, 65536] : List Nat).getD c 0 : Nat) : Int)) ∧ w' = w := by
  by_cases h2 : c = 2
  · subst h2
    go_enter Tryd.func57, Tryd.ntmps57
    go_wp2_with fail
    go_ret
    exact ⟨rfl, rfl⟩
  by_cases h3 : c = 3
  · subst h3
    go_enter Tryd.func57, Tryd.ntmps57
    go_wp2_with fail
    go_ret
    exact ⟨rfl, rfl⟩
  by_cases h4 : c = 4
  · subst h4
    go_enter Tryd.func57, Tryd.ntmps57
    go_wp2_with fail
    go_ret
    exact ⟨rfl, rfl⟩
  by_cases h5 : c = 5
  · subst h5
    go_enter Tryd.func57, Tryd.ntmps57
    go_wp2_with fail
    go_ret
    exact ⟨rfl, rfl⟩
  have z : ([0, 0, 8192, 32768, 131072, 65536] : List Nat).getD c 0 = 0 := by
    by_cases h0 : c = 0
    · subst h0; rfl
    by_cases h1 : c = 1
    · subst h1; rfl
    rw [List.getD_eq_getElem?_getD, List.getElem?_eq_none (by simp; omega)]
    rfl
  have b2 : ((c : Int) == 2) = false := by rw [beq_eq_false_iff_ne]; omega
  have b3 : ((c : Int) == 3) = false := by rw [beq_eq_false_iff_ne]; omega
  have b4 : ((c : Int) == 4) = false := by rw [beq_eq_false_iff_ne]; omega
  have b5 : ((c : Int) == 5) = false := by rw [beq_eq_false_iff_ne]; omega
  rw [z]
  go_enter Tryd.func57, Tryd.ntmps57
  go_wp2_with fail
  go_ret
  exact ⟨rfl, rfl⟩
/-- what kind answers -/
def KindAns (W : World) (t : Nat) (e : Ending) (w' : World) : Prop := Up W w' ∧ ∃ R b, RowIs t R b ∧ ((b = true ∧ ∃ cb, e = .returned (.tuple #[.agg #[.int .i64 (R.mapper : Int), .int .i64 (R.banks : Int), .slice (some ⟨cb, 0, none⟩) (R.hi + 1 - R.lo) (R.hi + 1 - R.lo), .bool R.bat], .bool true]) ∧ ∀ k, k < R.hi + 1 - R.lo → w'.cell? ⟨cb, k, none⟩ = some (.int .i64 ((R.lo + k : Nat) : Int))) ∨ (b = false ∧ e = .returned (.tuple #[.agg #[.int .i64 0, .int .i64 0, .slice none 0 0, .bool false], .bool false])))
theorem heap_two (w : World) (x y : Obj) : ((w.alloc x).alloc y).heap[w.heap.size]? = (w.alloc x).heap[w.heap.size]? := ((Up.refl (w.alloc x)).alloc y).block _ (by rw [alloc_size']; omega)
set_option maxRecDepth 100000 in
set_option maxHeartbeats 1000000 in
theorem kind_0 : Calls Tryd.prog 56 #[.int .i64 0] W (KindAns W 0) := by
  have HB : Hid (((W.alloc (Obj.cells #[.int .i64 0, .int .i64 2, .slice (some ⟨W.heap.size + 1, 0, none⟩) 1 1, .bool false] 99)).alloc (Obj.cells #[.int .i64 0] 3)).heap[W.heap.size]? = some (.cells #[.int .i64 0, .int .i64 2, .slice (some ⟨W.heap.size + 1, 0, none⟩) 1 1, .bool false] 99 (0, 0))) := (heap_two W _ _).trans (heap_alloc_new W _)
  have HC : Hid (((W.alloc (Obj.cells #[.int .i64 0, .int .i64 2, .slice (some ⟨W.heap.size + 1, 0, none⟩) 1 1, .bool false] 99)).alloc (Obj.cells #[.int .i64 0] 3)).heap[W.heap.size + 1]? = some (.cells #[.int .i64 0] 3 (0, 0))) := by
    have h := heap_alloc_new (W.alloc (Obj.cells #[.int .i64 0, .int .i64 2, .slice (some ⟨W.heap.size + 1, 0, none⟩) 1 1, .bool false] 99)) (Obj.cells #[.int .i64 0] 3)
    rw [alloc_size'] at h
    exact h
  have HU : Hid (Up W ((W.alloc (Obj.cells #[.int .i64 0, .int .i64 2, .slice (some ⟨W.heap.size + 1, 0, none⟩) 1 1, .bool false] 99)).alloc (Obj.cells #[.int .i64 0] 3))) := ((Up.refl W).alloc _).alloc _
  go_enter Tryd.func56, Tryd.ntmps56
  go_wp2_with fail
  refine bodyPost_ret (v := .tuple #[.agg _, .bool true]) (results_row_tmp Tryd.results56 _ _ _ 99 _ (0, 0) _ rfl HB.out Tryd.underlying99 rfl (by kernel_rfl)) rfl ?_
  refine ⟨HU.out, ⟨0, 0, 2, 0, 0, false⟩, true, Or.inl ⟨rfl, by simp [rowsT], rfl⟩, Or.inl ⟨rfl, W.heap.size + 1, rfl, fun k hk => ?_⟩⟩
  have hk : k < 1 := hk
  match k, hk with
  | 0, _ => exact heap_cell HC.out rfl
set_option maxRecDepth 100000 in
set_option maxHeartbeats 1000000 in
theorem kind_8 : Calls Tryd.prog 56 #[.int .i64 8] W (KindAns W 8) := by
  have HB : Hid (((W.alloc (Obj.cells #[.int .i64 0, .int .i64 2, .slice (some ⟨W.heap.size + 1, 0, none⟩) 1 1, .bool false] 99)).alloc (Obj.cells #[.int .i64 2] 3)).heap[W.heap.size]? = some (.cells #[.int .i64 0, .int .i64 2, .slice (some ⟨W.heap.size + 1, 0, none⟩) 1 1, .bool false] 99 (0, 0))) := (heap_two W _ _).trans (heap_alloc_new W _)
  have HC : Hid (((W.alloc (Obj.cells #[.int .i64 0, .int .i64 2, .slice (some ⟨W.heap.size + 1, 0, none⟩) 1 1, .bool false] 99)).alloc (Obj.cells #[.int .i64 2] 3)).heap[W.heap.size + 1]? = some (.cells #[.int .i64 2] 3 (0, 0))) := by
    have h := heap_alloc_new (W.alloc (Obj.cells #[.int .i64 0, .int .i64 2, .slice (some ⟨W.heap.size + 1, 0, none⟩) 1 1, .bool false] 99)) (Obj.cells #[.int .i64 2] 3)
    rw [alloc_size'] at h
    exact h
  have HU : Hid (Up W ((W.alloc (Obj.cells #[.int .i64 0, .int .i64 2, .slice (some ⟨W.heap.size + 1, 0, none⟩) 1 1, .bool false] 99)).alloc (Obj.cells #[.int .i64 2] 3))) := ((Up.refl W).alloc _).alloc _
  go_enter Tryd.func56, Tryd.ntmps56
  go_wp2_with fail
  refine bodyPost_ret (v := .tuple #[.agg _, .bool true]) (results_row_tmp Tryd.results56 _ _ _ 99 _ (0, 0) _ rfl HB.out Tryd.underlying99 rfl (by kernel_rfl)) rfl ?_
  refine ⟨HU.out, ⟨8, 0, 2, 2, 2, false⟩, true, Or.inl ⟨rfl, by simp [rowsT], rfl⟩, Or.inl ⟨rfl, W.heap.size + 1, rfl, fun k hk => ?_⟩⟩
  have hk : k < 1 := hk
  match k, hk with
  | 0, _ => exact heap_cell HC.out rfl
set_option maxRecDepth 100000 in
set_option maxHeartbeats 1000000 in
theorem kind_9 : Calls Tryd.prog 56 #[.int .i64 9] W (KindAns W 9) := by
  have HB : Hid (((W.alloc (Obj.cells #[.int .i64 0, .int .i64 2, .slice (some ⟨W.heap.size + 1, 0, none⟩) 1 1, .bool true] 99)).alloc (Obj.cells #[.int .i64 2] 3)).heap[W.heap.size]? = some (.cells #[.int .i64 0, .int .i64 2, .slice (some ⟨W.heap.size + 1, 0, none⟩) 1 1, .bool true] 99 (0, 0))) := (heap_two W _ _).trans (heap_alloc_new W _)
  have HC : Hid (((W.alloc (Obj.cells #[.int .i64 0, .int .i64 2, .slice (some ⟨W.heap.size + 1, 0, none⟩) 1 1, .bool true] 99)).alloc (Obj.cells #[.int .i64 2] 3)).heap[W.heap.size + 1]? = some (.cells #[.int .i64 2] 3 (0, 0))) := by
    have h := heap_alloc_new (W.alloc (Obj.cells #[.int .i64 0, .int .i64 2, .slice (some ⟨W.heap.size + 1, 0, none⟩) 1 1, .bool true] 99)) (Obj.cells #[.int .i64 2] 3)
    rw [alloc_size'] at h
    exact h
  have HU : Hid (Up W ((W.alloc (Obj.cells #[.int .i64 0, .int .i64 2, .slice (some ⟨W.heap.size + 1, 0, none⟩) 1 1, .bool true] 99)).alloc (Obj.cells #[.int .i64 2] 3))) := ((Up.refl W).alloc _).alloc _
  go_enter Tryd.func56, Tryd.ntmps56
  go_wp2_with fail
  refine bodyPost_ret (v := .tuple #[.agg _, .bool true]) (results_row_tmp Tryd.results56 _ _ _ 99 _ (0, 0) _ rfl HB.out Tryd.underlying99 rfl (by kernel_rfl)) rfl ?_
  refine ⟨HU.out, ⟨9, 0, 2, 2, 2, true⟩, true, Or.inl ⟨rfl, by simp [rowsT], rfl⟩, Or.inl ⟨rfl, W.heap.size + 1, rfl, fun k hk => ?_⟩⟩
  have hk : k < 1 := hk
  match k, hk with
  | 0, _ => exact heap_cell HC.out rfl
set_option maxRecDepth 100000 in
set_option maxHeartbeats 1000000 in
theorem kind_1 : Calls Tryd.prog 56 #[.int .i64 1] W (KindAns W 1) := by
  have HB : Hid (((W.alloc (Obj.cells #[.int .i64 1, .int .i64 128, .slice (some ⟨W.heap.size + 1, 0, none⟩) 1 1, .bool false] 99)).alloc (Obj.cells #[.int .i64 0] 3)).heap[W.heap.size]? = some (.cells #[.int .i64 1, .int .i64 128, .slice (some ⟨W.heap.size + 1, 0, none⟩) 1 1, .bool false] 99 (0, 0))) := (heap_two W _ _).trans (heap_alloc_new W _)
  have HC : Hid (((W.alloc (Obj.cells #[.int .i64 1, .int .i64 128, .slice (some ⟨W.heap.size + 1, 0, none⟩) 1 1, .bool false] 99)).alloc (Obj.cells #[.int .i64 0] 3)).heap[W.heap.size + 1]? = some (.cells #[.int .i64 0] 3 (0, 0))) := by
    have h := heap_alloc_new (W.alloc (Obj.cells #[.int .i64 1, .int .i64 128, .slice (some ⟨W.heap.size + 1, 0, none⟩) 1 1, .bool false] 99)) (Obj.cells #[.int .i64 0] 3)
    rw [alloc_size'] at h
    exact h
  have HU : Hid (Up W ((W.alloc (Obj.cells #[.int .i64 1, .int .i64 128, .slice (some ⟨W.heap.size + 1, 0, none⟩) 1 1, .bool false] 99)).alloc (Obj.cells #[.int .i64 0] 3))) := ((Up.refl W).alloc _).alloc _
  go_enter Tryd.func56, Tryd.ntmps56
  go_wp2_with fail
  refine bodyPost_ret (v := .tuple #[.agg _, .bool true]) (results_row_tmp Tryd.results56 _ _ _ 99 _ (0, 0) _ rfl HB.out Tryd.underlying99 rfl (by kernel_rfl)) rfl ?_
  refine ⟨HU.out, ⟨1, 1, 128, 0, 0, false⟩, true, Or.inl ⟨rfl, by simp [rowsT], rfl⟩, Or.inl ⟨rfl, W.heap.size + 1, rfl, fun k hk => ?_⟩⟩
  have hk : k < 1 := hk
  match k, hk with
  | 0, _ => exact heap_cell HC.out rfl
set_option maxRecDepth 100000 in
set_option maxHeartbeats 1000000 in
theorem kind_2 : Calls Tryd.prog 56 #[.int .i64 2] W (KindAns W 2) := by
  have HB : Hid (((W.alloc (Obj.cells #[.int .i64 1, .int .i64 128, .slice (some ⟨W.heap.size + 1, 0, none⟩) 2 2, .bool false] 99)).alloc (Obj.cells #[.int .i64 2, .int .i64 3] 3)).heap[W.heap.size]? = some (.cells #[.int .i64 1, .int .i64 128, .slice (some ⟨W.heap.size + 1, 0, none⟩) 2 2, .bool false] 99 (0, 0))) := (heap_two W _ _).trans (heap_alloc_new W _)
  have HC : Hid (((W.alloc (Obj.cells #[.int .i64 1, .int .i64 128, .slice (some ⟨W.heap.size + 1, 0, none⟩) 2 2, .bool false] 99)).alloc (Obj.cells #[.int .i64 2, .int .i64 3] 3)).heap[W.heap.size + 1]? = some (.cells #[.int .i64 2, .int .i64 3] 3 (0, 0))) := by
    have h := heap_alloc_new (W.alloc (Obj.cells #[.int .i64 1, .int .i64 128, .slice (some ⟨W.heap.size + 1, 0, none⟩) 2 2, .bool false] 99)) (Obj.cells #[.int .i64 2, .int .i64 3] 3)
    rw [alloc_size'] at h
    exact h
  have HU : Hid (Up W ((W.alloc (Obj.cells #[.int .i64 1, .int .i64 128, .slice (some ⟨W.heap.size + 1, 0, none⟩) 2 2, .bool false] 99)).alloc (Obj.cells #[.int .i64 2, .int .i64 3] 3))) := ((Up.refl W).alloc _).alloc _
  go_enter Tryd.func56, Tryd.ntmps56
  go_wp2_with fail
  refine bodyPost_ret (v := .tuple #[.agg _, .bool true]) (results_row_tmp Tryd.results56 _ _ _ 99 _ (0, 0) _ rfl HB.out Tryd.underlying99 rfl (by kernel_rfl)) rfl ?_
  refine ⟨HU.out, ⟨2, 1, 128, 2, 3, false⟩, true, Or.inl ⟨rfl, by simp [rowsT], rfl⟩, Or.inl ⟨rfl, W.heap.size + 1, rfl, fun k hk => ?_⟩⟩
  have hk : k < 2 := hk
  match k, hk with
  | 0, _ => exact heap_cell HC.out rfl
  | 1, _ => exact heap_cell HC.out rfl
set_option maxRecDepth 100000 in
set_option maxHeartbeats 1000000 in
theorem kind_3 : Calls Tryd.prog 56 #[.int .i64 3] W (KindAns W 3) := by
  have HB : Hid (((W.alloc (Obj.cells #[.int .i64 1, .int .i64 128, .slice (some ⟨W.heap.size + 1, 0, none⟩) 2 2, .bool true] 99)).alloc (Obj.cells #[.int .i64 2, .int .i64 3] 3)).heap[W.heap.size]? = some (.cells #[.int .i64 1, .int .i64 128, .slice (some ⟨W.heap.size + 1, 0, none⟩) 2 2, .bool true] 99 (0, 0))) := (heap_two W _ _).trans (heap_alloc_new W _)
  have HC : Hid (((W.alloc (Obj.cells #[.int .i64 1, .int .i64 128, .slice (some ⟨W.heap.size + 1, 0, none⟩) 2 2, .bool true] 99)).alloc (Obj.cells #[.int .i64 2, .int .i64 3] 3)).heap[W.heap.size + 1]? = some (.cells #[.int .i64 2, .int .i64 3] 3 (0, 0))) := by
    have h := heap_alloc_new (W.alloc (Obj.cells #[.int .i64 1, .int .i64 128, .slice (some ⟨W.heap.size + 1, 0, none⟩) 2 2, .bool true] 99)) (Obj.cells #[.int .i64 2, .int .i64 3] 3)
    rw [alloc_size'] at h
    exact h
  have HU : Hid (Up W ((W.alloc (Obj.cells #[.int .i64 1, .int .i64 128, .slice (some ⟨W.heap.size + 1, 0, none⟩) 2 2, .bool true] 99)).alloc (Obj.cells #[.int .i64 2, .int .i64 3] 3))) := ((Up.refl W).alloc _).alloc _
  go_enter Tryd.func56, Tryd.ntmps56
  go_wp2_with fail
  refine bodyPost_ret (v := .tuple #[.agg _, .bool true]) (results_row_tmp Tryd.results56 _ _ _ 99 _ (0, 0) _ rfl HB.out Tryd.underlying99 rfl (by kernel_rfl)) rfl ?_
  refine ⟨HU.out, ⟨3, 1, 128, 2, 3, true⟩, true, Or.inl ⟨rfl, by simp [rowsT], rfl⟩, Or.inl ⟨rfl, W.heap.size + 1, rfl, fun k hk => ?_⟩⟩
  have hk : k < 2 := hk
  match k, hk with
  | 0, _ => exact heap_cell HC.out rfl
  | 1, _ => exact heap_cell HC.out rfl
set_option maxRecDepth 100000 in
set_option maxHeartbeats 1000000 in
theorem kind_5 : Calls Tryd.prog 56 #[.int .i64 5] W (KindAns W 5) := by
  have HB : Hid (((W.alloc (Obj.cells #[.int .i64 2, .int .i64 16, .slice (some ⟨W.heap.size + 1, 0, none⟩) 1 1, .bool false] 99)).alloc (Obj.cells #[.int .i64 0] 3)).heap[W.heap.size]? = some (.cells #[.int .i64 2, .int .i64 16, .slice (some ⟨W.heap.size + 1, 0, none⟩) 1 1, .bool false] 99 (0, 0))) := (heap_two W _ _).trans (heap_alloc_new W _)
  have HC : Hid (((W.alloc (Obj.cells #[.int .i64 2, .int .i64 16, .slice (some ⟨W.heap.size + 1, 0, none⟩) 1 1, .bool false] 99)).alloc (Obj.cells #[.int .i64 0] 3)).heap[W.heap.size + 1]? = some (.cells #[.int .i64 0] 3 (0, 0))) := by
    have h := heap_alloc_new (W.alloc (Obj.cells #[.int .i64 2, .int .i64 16, .slice (some ⟨W.heap.size + 1, 0, none⟩) 1 1, .bool false] 99)) (Obj.cells #[.int .i64 0] 3)
    rw [alloc_size'] at h
    exact h
  have HU : Hid (Up W ((W.alloc (Obj.cells #[.int .i64 2, .int .i64 16, .slice (some ⟨W.heap.size + 1, 0, none⟩) 1 1, .bool false] 99)).alloc (Obj.cells #[.int .i64 0] 3))) := ((Up.refl W).alloc _).alloc _
  go_enter Tryd.func56, Tryd.ntmps56
  go_wp2_with fail
  refine bodyPost_ret (v := .tuple #[.agg _, .bool true]) (results_row_tmp Tryd.results56 _ _ _ 99 _ (0, 0) _ rfl HB.out Tryd.underlying99 rfl (by kernel_rfl)) rfl ?_
  refine ⟨HU.out, ⟨5, 2, 16, 0, 0, false⟩, true, Or.inl ⟨rfl, by simp [rowsT], rfl⟩, Or.inl ⟨rfl, W.heap.size + 1, rfl, fun k hk => ?_⟩⟩
  have hk : k < 1 := hk
  match k, hk with
  | 0, _ => exact heap_cell HC.out rfl
set_option maxRecDepth 100000 in
set_option maxHeartbeats 1000000 in
theorem kind_6 : Calls Tryd.prog 56 #[.int .i64 6] W (KindAns W 6) := by
  have HB : Hid (((W.alloc (Obj.cells #[.int .i64 2, .int .i64 16, .slice (some ⟨W.heap.size + 1, 0, none⟩) 1 1, .bool true] 99)).alloc (Obj.cells #[.int .i64 0] 3)).heap[W.heap.size]? = some (.cells #[.int .i64 2, .int .i64 16, .slice (some ⟨W.heap.size + 1, 0, none⟩) 1 1, .bool true] 99 (0, 0))) := (heap_two W _ _).trans (heap_alloc_new W _)
  have HC : Hid (((W.alloc (Obj.cells #[.int .i64 2, .int .i64 16, .slice (some ⟨W.heap.size + 1, 0, none⟩) 1 1, .bool true] 99)).alloc (Obj.cells #[.int .i64 0] 3)).heap[W.heap.size + 1]? = some (.cells #[.int .i64 0] 3 (0, 0))) := by
    have h := heap_alloc_new (W.alloc (Obj.cells #[.int .i64 2, .int .i64 16, .slice (some ⟨W.heap.size + 1, 0, none⟩) 1 1, .bool true] 99)) (Obj.cells #[.int .i64 0] 3)
    rw [alloc_size'] at h
    exact h
  have HU : Hid (Up W ((W.alloc (Obj.cells #[.int .i64 2, .int .i64 16, .slice (some ⟨W.heap.size + 1, 0, none⟩) 1 1, .bool true] 99)).alloc (Obj.cells #[.int .i64 0] 3))) := ((Up.refl W).alloc _).alloc _
  go_enter Tryd.func56, Tryd.ntmps56
  go_wp2_with fail
  refine bodyPost_ret (v := .tuple #[.agg _, .bool true]) (results_row_tmp Tryd.results56 _ _ _ 99 _ (0, 0) _ rfl HB.out Tryd.underlying99 rfl (by kernel_rfl)) rfl ?_
  refine ⟨HU.out, ⟨6, 2, 16, 0, 0, true⟩, true, Or.inl ⟨rfl, by simp [rowsT], rfl⟩, Or.inl ⟨rfl, W.heap.size + 1, rfl, fun k hk => ?_⟩⟩
  have hk : k < 1 := hk
  match k, hk with
  | 0, _ => exact heap_cell HC.out rfl
set_option maxRecDepth 100000 in
set_option maxHeartbeats 1000000 in
theorem kind_17 : Calls Tryd.prog 56 #[.int .i64 17] W (KindAns W 17) := by
  have HB : Hid (((W.alloc (Obj.cells #[.int .i64 3, .int .i64 128, .slice (some ⟨W.heap.size + 1, 0, none⟩) 1 1, .bool false] 99)).alloc (Obj.cells #[.int .i64 0] 3)).heap[W.heap.size]? = some (.cells #[.int .i64 3, .int .i64 128, .slice (some ⟨W.heap.size + 1, 0, none⟩) 1 1, .bool false] 99 (0, 0))) := (heap_two W _ _).trans (heap_alloc_new W _)
  have HC : Hid (((W.alloc (Obj.cells #[.int .i64 3, .int .i64 128, .slice (some ⟨W.heap.size + 1, 0, none⟩) 1 1, .bool false] 99)).alloc (Obj.cells #[.int .i64 0] 3)).heap[W.heap.size + 1]? = some (.cells #[.int .i64 0] 3 (0, 0))) := by
    have h := heap_alloc_new (W.alloc (Obj.cells #[.int .i64 3, .int .i64 128, .slice (some ⟨W.heap.size + 1, 0, none⟩) 1 1, .bool false] 99)) (Obj.cells #[.int .i64 0] 3)
    rw [alloc_size'] at h
    exact h
  have HU : Hid (Up W ((W.alloc (Obj.cells #[.int .i64 3, .int .i64 128, .slice (some ⟨W.heap.size + 1, 0, none⟩) 1 1, .bool false] 99)).alloc (Obj.cells #[.int .i64 0] 3))) := ((Up.refl W).alloc _).alloc _
  go_enter Tryd.func56, Tryd.ntmps56
  go_wp2_with fail
  refine bodyPost_ret (v := .tuple #[.agg _, .bool true]) (results_row_tmp Tryd.results56 _ _ _ 99 _ (0, 0) _ rfl HB.out Tryd.underlying99 rfl (by kernel_rfl)) rfl ?_
  refine ⟨HU.out, ⟨17, 3, 128, 0, 0, false⟩, true, Or.inl ⟨rfl, by simp [rowsT], rfl⟩, Or.inl ⟨rfl, W.heap.size + 1, rfl, fun k hk => ?_⟩⟩
  have hk : k < 1 := hk
  match k, hk with
  | 0, _ => exact heap_cell HC.out rfl
set_option maxRecDepth 100000 in
set_option maxHeartbeats 1000000 in
theorem kind_18 : Calls Tryd.prog 56 #[.int .i64 18] W (KindAns W 18) := by
  have HB : Hid (((W.alloc (Obj.cells #[.int .i64 3, .int .i64 128, .slice (some ⟨W.heap.size + 1, 0, none⟩) 2 2, .bool false] 99)).alloc (Obj.cells #[.int .i64 2, .int .i64 3] 3)).heap[W.heap.size]? = some (.cells #[.int .i64 3, .int .i64 128, .slice (some ⟨W.heap.size + 1, 0, none⟩) 2 2, .bool false] 99 (0, 0))) := (heap_two W _ _).trans (heap_alloc_new W _)
  have HC : Hid (((W.alloc (Obj.cells #[.int .i64 3, .int .i64 128, .slice (some ⟨W.heap.size + 1, 0, none⟩) 2 2, .bool false] 99)).alloc (Obj.cells #[.int .i64 2, .int .i64 3] 3)).heap[W.heap.size + 1]? = some (.cells #[.int .i64 2, .int .i64 3] 3 (0, 0))) := by
    have h := heap_alloc_new (W.alloc (Obj.cells #[.int .i64 3, .int .i64 128, .slice (some ⟨W.heap.size + 1, 0, none⟩) 2 2, .bool false] 99)) (Obj.cells #[.int .i64 2, .int .i64 3] 3)
    rw [alloc_size'] at h
    exact h
  have HU : Hid (Up W ((W.alloc (Obj.cells #[.int .i64 3, .int .i64 128, .slice (some ⟨W.heap.size + 1, 0, none⟩) 2 2, .bool false] 99)).alloc (Obj.cells #[.int .i64 2, .int .i64 3] 3))) := ((Up.refl W).alloc _).alloc _
  go_enter Tryd.func56, Tryd.ntmps56
  go_wp2_with fail
  refine bodyPost_ret (v := .tuple #[.agg _, .bool true]) (results_row_tmp Tryd.results56 _ _ _ 99 _ (0, 0) _ rfl HB.out Tryd.underlying99 rfl (by kernel_rfl)) rfl ?_
  refine ⟨HU.out, ⟨18, 3, 128, 2, 3, false⟩, true, Or.inl ⟨rfl, by simp [rowsT], rfl⟩, Or.inl ⟨rfl, W.heap.size + 1, rfl, fun k hk => ?_⟩⟩
  have hk : k < 2 := hk
  match k, hk with
  | 0, _ => exact heap_cell HC.out rfl
  | 1, _ => exact heap_cell HC.out rfl
set_option maxRecDepth 100000 in
set_option maxHeartbeats 1000000 in
theorem kind_19 : Calls Tryd.prog 56 #[.int .i64 19] W (KindAns W 19) := by
  have HB : Hid (((W.alloc (Obj.cells #[.int .i64 3, .int .i64 128, .slice (some ⟨W.heap.size + 1, 0, none⟩) 2 2, .bool true] 99)).alloc (Obj.cells #[.int .i64 2, .int .i64 3] 3)).heap[W.heap.size]? = some (.cells #[.int .i64 3, .int .i64 128, .slice (some ⟨W.heap.size + 1, 0, none⟩) 2 2, .bool true] 99 (0, 0))) := (heap_two W _ _).trans (heap_alloc_new W _)
  have HC : Hid (((W.alloc (Obj.cells #[.int .i64 3, .int .i64 128, .slice (some ⟨W.heap.size + 1, 0, none⟩) 2 2, .bool true] 99)).alloc (Obj.cells #[.int .i64 2, .int .i64 3] 3)).heap[W.heap.size + 1]? = some (.cells #[.int .i64 2, .int .i64 3] 3 (0, 0))) := by
    have h := heap_alloc_new (W.alloc (Obj.cells #[.int .i64 3, .int .i64 128, .slice (some ⟨W.heap.size + 1, 0, none⟩) 2 2, .bool true] 99)) (Obj.cells #[.int .i64 2, .int .i64 3] 3)
    rw [alloc_size'] at h
    exact h
  have HU : Hid (Up W ((W.alloc (Obj.cells #[.int .i64 3, .int .i64 128, .slice (some ⟨W.heap.size + 1, 0, none⟩) 2 2, .bool true] 99)).alloc (Obj.cells #[.int .i64 2, .int .i64 3] 3))) := ((Up.refl W).alloc _).alloc _
  go_enter Tryd.func56, Tryd.ntmps56
  go_wp2_with fail
  refine bodyPost_ret (v := .tuple #[.agg _, .bool true]) (results_row_tmp Tryd.results56 _ _ _ 99 _ (0, 0) _ rfl HB.out Tryd.underlying99 rfl (by kernel_rfl)) rfl ?_
  refine ⟨HU.out, ⟨19, 3, 128, 2, 3, true⟩, true, Or.inl ⟨rfl, by simp [rowsT], rfl⟩, Or.inl ⟨rfl, W.heap.size + 1, rfl, fun k hk => ?_⟩⟩
  have hk : k < 2 := hk
  match k, hk with
  | 0, _ => exact heap_cell HC.out rfl
  | 1, _ => exact heap_cell HC.out rfl
set_option maxRecDepth 100000 in
set_option maxHeartbeats 1000000 in
theorem kind_25 : Calls Tryd.prog 56 #[.int .i64 25] W (KindAns W 25) := by
  have HB : Hid (((W.alloc (Obj.cells #[.int .i64 5, .int .i64 128, .slice (some ⟨W.heap.size + 1, 0, none⟩) 1 1, .bool false] 99)).alloc (Obj.cells #[.int .i64 0] 3)).heap[W.heap.size]? = some (.cells #[.int .i64 5, .int .i64 128, .slice (some ⟨W.heap.size + 1, 0, none⟩) 1 1, .bool false] 99 (0, 0))) := (heap_two W _ _).trans (heap_alloc_new W _)
  have HC : Hid (((W.alloc (Obj.cells #[.int .i64 5, .int .i64 128, .slice (some ⟨W.heap.size + 1, 0, none⟩) 1 1, .bool false] 99)).alloc (Obj.cells #[.int .i64 0] 3)).heap[W.heap.size + 1]? = some (.cells #[.int .i64 0] 3 (0, 0))) := by
    have h := heap_alloc_new (W.alloc (Obj.cells #[.int .i64 5, .int .i64 128, .slice (some ⟨W.heap.size + 1, 0, none⟩) 1 1, .bool false] 99)) (Obj.cells #[.int .i64 0] 3)
    rw [alloc_size'] at h
    exact h
  have HU : Hid (Up W ((W.alloc (Obj.cells #[.int .i64 5, .int .i64 128, .slice (some ⟨W.heap.size + 1, 0, none⟩) 1 1, .bool false] 99)).alloc (Obj.cells #[.int .i64 0] 3))) := ((Up.refl W).alloc _).alloc _
  go_enter Tryd.func56, Tryd.ntmps56
  go_wp2_with fail
  refine bodyPost_ret (v := .tuple #[.agg _, .bool true]) (results_row_tmp Tryd.results56 _ _ _ 99 _ (0, 0) _ rfl HB.out Tryd.underlying99 rfl (by kernel_rfl)) rfl ?_
  refine ⟨HU.out, ⟨25, 5, 128, 0, 0, false⟩, true, Or.inl ⟨rfl, by simp [rowsT], rfl⟩, Or.inl ⟨rfl, W.heap.size + 1, rfl, fun k hk => ?_⟩⟩
  have hk : k < 1 := hk
  match k, hk with
  | 0, _ => exact heap_cell HC.out rfl
set_option maxRecDepth 100000 in
set_option maxHeartbeats 1000000 in
theorem kind_26 : Calls Tryd.prog 56 #[.int .i64 26] W (KindAns W 26) := by
  have HB : Hid (((W.alloc (Obj.cells #[.int .i64 5, .int .i64 128, .slice (some ⟨W.heap.size + 1, 0, none⟩) 4 4, .bool false] 99)).alloc (Obj.cells #[.int .i64 2, .int .i64 3, .int .i64 4, .int .i64 5] 3)).heap[W.heap.size]? = some (.cells #[.int .i64 5, .int .i64 128, .slice (some ⟨W.heap.size + 1, 0, none⟩) 4 4, .bool false] 99 (0, 0))) := (heap_two W _ _).trans (heap_alloc_new W _)
  have HC : Hid (((W.alloc (Obj.cells #[.int .i64 5, .int .i64 128, .slice (some ⟨W.heap.size + 1, 0, none⟩) 4 4, .bool false] 99)).alloc (Obj.cells #[.int .i64 2, .int .i64 3, .int .i64 4, .int .i64 5] 3)).heap[W.heap.size + 1]? = some (.cells #[.int .i64 2, .int .i64 3, .int .i64 4, .int .i64 5] 3 (0, 0))) := by
    have h := heap_alloc_new (W.alloc (Obj.cells #[.int .i64 5, .int .i64 128, .slice (some ⟨W.heap.size + 1, 0, none⟩) 4 4, .bool false] 99)) (Obj.cells #[.int .i64 2, .int .i64 3, .int .i64 4, .int .i64 5] 3)
    rw [alloc_size'] at h
    exact h
  have HU : Hid (Up W ((W.alloc (Obj.cells #[.int .i64 5, .int .i64 128, .slice (some ⟨W.heap.size + 1, 0, none⟩) 4 4, .bool false] 99)).alloc (Obj.cells #[.int .i64 2, .int .i64 3, .int .i64 4, .int .i64 5] 3))) := ((Up.refl W).alloc _).alloc _
  go_enter Tryd.func56, Tryd.ntmps56
  go_wp2_with fail
  refine bodyPost_ret (v := .tuple #[.agg _, .bool true]) (results_row_tmp Tryd.results56 _ _ _ 99 _ (0, 0) _ rfl HB.out Tryd.underlying99 rfl (by kernel_rfl)) rfl ?_
  refine ⟨HU.out, ⟨26, 5, 128, 2, 5, false⟩, true, Or.inl ⟨rfl, by simp [rowsT], rfl⟩, Or.inl ⟨rfl, W.heap.size + 1, rfl, fun k hk => ?_⟩⟩
  have hk : k < 4 := hk
  match k, hk with
  | 0, _ => exact heap_cell HC.out rfl
  | 1, _ => exact heap_cell HC.out rfl
  | 2, _ => exact heap_cell HC.out rfl
  | 3, _ => exact heap_cell HC.out rfl
set_option maxRecDepth 100000 in
set_option maxHeartbeats 1000000 in
theorem kind_27 : Calls Tryd.prog 56 #[.int .i64 27] W (KindAns W 27) := by
  have HB : Hid (((W.alloc (Obj.cells #[.int .i64 5, .int .i64 128, .slice (some ⟨W.heap.size + 1, 0, none⟩) 4 4, .bool true] 99)).alloc (Obj.cells #[.int .i64 2, .int .i64 3, .int .i64 4, .int .i64 5] 3)).heap[W.heap.size]? = some (.cells #[.int .i64 5, .int .i64 128, .slice (some ⟨W.heap.size + 1, 0, none⟩) 4 4, .bool true] 99 (0, 0))) := (heap_two W _ _).trans (heap_alloc_new W _)
  have HC : Hid (((W.alloc (Obj.cells #[.int .i64 5, .int .i64 128, .slice (some ⟨W.heap.size + 1, 0, none⟩) 4 4, .bool true] 99)).alloc (Obj.cells #[.int .i64 2, .int .i64 3, .int .i64 4, .int .i64 5] 3)).heap[W.heap.size + 1]? = some (.cells #[.int .i64 2, .int .i64 3, .int .i64 4, .int .i64 5] 3 (0, 0))) := by
    have h := heap_alloc_new (W.alloc (Obj.cells #[.int .i64 5, .int .i64 128, .slice (some ⟨W.heap.size + 1, 0, none⟩) 4 4, .bool true] 99)) (Obj.cells #[.int .i64 2, .int .i64 3, .int .i64 4, .int .i64 5] 3)
    rw [alloc_size'] at h
    exact h
  have HU : Hid (Up W ((W.alloc (Obj.cells #[.int .i64 5, .int .i64 128, .slice (some ⟨W.heap.size + 1, 0, none⟩) 4 4, .bool true] 99)).alloc (Obj.cells #[.int .i64 2, .int .i64 3, .int .i64 4, .int .i64 5] 3))) := ((Up.refl W).alloc _).alloc _
  go_enter Tryd.func56, Tryd.ntmps56
  go_wp2_with fail
  refine bodyPost_ret (v := .tuple #[.agg _, .bool true]) (results_row_tmp Tryd.results56 _ _ _ 99 _ (0, 0) _ rfl HB.out Tryd.underlying99 rfl (by kernel_rfl)) rfl ?_
  refine ⟨HU.out, ⟨27, 5, 128, 2, 5, true⟩, true, Or.inl ⟨rfl, by simp [rowsT], rfl⟩, Or.inl ⟨rfl, W.heap.size + 1, rfl, fun k hk => ?_⟩⟩
  have hk : k < 4 := hk
  match k, hk with
  | 0, _ => exact heap_cell HC.out rfl
  | 1, _ => exact heap_cell HC.out rfl
  | 2, _ => exact heap_cell HC.out rfl
  | 3, _ => exact heap_cell HC.out rfl
set_option maxRecDepth 100000 in
set_option maxHeartbeats 1000000 in
theorem kind_none {t : Nat} (ht : ∀ r ∈ rowsT, r.kind ≠ t) : Calls Tryd.prog 56 #[.int .i64 (t : Int)] W (KindAns W t) := by
  have z0 : ((t : Int) == 0) = false := by
    have := ht ⟨0, 0, 2, 0, 0, false⟩ (by simp [rowsT])
    rw [beq_eq_false_iff_ne]
    exact fun e => this (by show 0 = t; omega)
  have z8 : ((t : Int) == 8) = false := by
    have := ht ⟨8, 0, 2, 2, 2, false⟩ (by simp [rowsT])
    rw [beq_eq_false_iff_ne]
    exact fun e => this (by show 8 = t; omega)
  have z9 : ((t : Int) == 9) = false := by
    have := ht ⟨9, 0, 2, 2, 2, true⟩ (by simp [rowsT])
    rw [beq_eq_false_iff_ne]
    exact fun e => this (by show 9 = t; omega)
  have z1 : ((t : Int) == 1) = false := by
    have := ht ⟨1, 1, 128, 0, 0, false⟩ (by simp [rowsT])
    rw [beq_eq_false_iff_ne]
    exact fun e => this (by show 1 = t; omega)
  have z2 : ((t : Int) == 2) = false := by
    have := ht ⟨2, 1, 128, 2, 3, false⟩ (by simp [rowsT])
    rw [beq_eq_false_iff_ne]
    exact fun e => this (by show 2 = t; omega)
  have z3 : ((t : Int) == 3) = false := by
    have := ht ⟨3, 1, 128, 2, 3, true⟩ (by simp [rowsT])
    rw [beq_eq_false_iff_ne]
    exact fun e => this (by show 3 = t; omega)
  have z5 : ((t : Int) == 5) = false := by
    have := ht ⟨5, 2, 16, 0, 0, false⟩ (by simp [rowsT])
    rw [beq_eq_false_iff_ne]
    exact fun e => this (by show 5 = t; omega)
  have z6 : ((t : Int) == 6) = false := by
    have := ht ⟨6, 2, 16, 0, 0, true⟩ (by simp [rowsT])
    rw [beq_eq_false_iff_ne]
    exact fun e => this (by show 6 = t; omega)
  have z17 : ((t : Int) == 17) = false := by
    have := ht ⟨17, 3, 128, 0, 0, false⟩ (by simp [rowsT])
    rw [beq_eq_false_iff_ne]
    exact fun e => this (by show 17 = t; omega)
  have z18 : ((t : Int) == 18) = false := by
    have := ht ⟨18, 3, 128, 2, 3, false⟩ (by simp [rowsT])
    rw [beq_eq_false_iff_ne]
    exact fun e => this (by show 18 = t; omega)
  have z19 : ((t : Int) == 19) = false := by
    have := ht ⟨19, 3, 128, 2, 3, true⟩ (by simp [rowsT])
    rw [beq_eq_false_iff_ne]
    exact fun e => this (by show 19 = t; omega)
  have z25 : ((t : Int) == 25) = false := by
    have := ht ⟨25, 5, 128, 0, 0, false⟩ (by simp [rowsT])
    rw [beq_eq_false_iff_ne]
    exact fun e => this (by show 25 = t; omega)
  have z26 : ((t : Int) == 26) = false := by
    have := ht ⟨26, 5, 128, 2, 5, false⟩ (by simp [rowsT])
    rw [beq_eq_false_iff_ne]
    exact fun e => this (by show 26 = t; omega)
  have z27 : ((t : Int) == 27) = false := by
    have := ht ⟨27, 5, 128, 2, 5, true⟩ (by simp [rowsT])
    rw [beq_eq_false_iff_ne]
    exact fun e => this (by show 27 = t; omega)
  have HT : Hid (∀ r ∈ rowsT, r.kind ≠ t) := ht
  have HB : Hid ((W.alloc (Obj.cells #[.int .i64 0, .int .i64 0, .slice none 0 0, .bool false] 99)).heap[W.heap.size]? = some (.cells #[.int .i64 0, .int .i64 0, .slice none 0 0, .bool false] 99 (0, 0))) := heap_alloc_new W _
  have HU : Hid (Up W (W.alloc (Obj.cells #[.int .i64 0, .int .i64 0, .slice none 0 0, .bool false] 99))) := (Up.refl W).alloc _
  clear ht
  go_enter Tryd.func56, Tryd.ntmps56
  go_wp2_with fail
  refine bodyPost_ret (v := .tuple #[.agg _, .bool false]) (results_row_tmp Tryd.results56 _ _ _ 99 _ (0, 0) _ rfl HB.out Tryd.underlying99 rfl (by kernel_rfl)) rfl ?_
  exact ⟨HU.out, Rw.zero, false, Or.inr ⟨rfl, rfl, HT.out⟩, Or.inr ⟨rfl, rfl⟩⟩
theorem kindR_any (t : Nat) : Calls Tryd.prog 56 #[.int .i64 (t : Int)] W (KindAns W t) := by
  by_cases h0 : t = 0
  · subst h0; exact kind_0
  by_cases h8 : t = 8
  · subst h8; exact kind_8
  by_cases h9 : t = 9
  · subst h9; exact kind_9
  by_cases h1 : t = 1
  · subst h1; exact kind_1
  by_cases h2 : t = 2
  · subst h2; exact kind_2
  by_cases h3 : t = 3
  · subst h3; exact kind_3
  by_cases h5 : t = 5
  · subst h5; exact kind_5
  by_cases h6 : t = 6
  · subst h6; exact kind_6
  by_cases h17 : t = 17
  · subst h17; exact kind_17
  by_cases h18 : t = 18
  · subst h18; exact kind_18
  by_cases h19 : t = 19
  · subst h19; exact kind_19
  by_cases h25 : t = 25
  · subst h25; exact kind_25
  by_cases h26 : t = 26
  · subst h26; exact kind_26
  by_cases h27 : t = 27
  · subst h27; exact kind_27
  refine kind_none fun r hr => ?_
  simp only [rowsT, List.mem_cons, List.not_mem_nil, or_false] at hr
  rcases hr with rfl | rfl | rfl | rfl | rfl | rfl | rfl | rfl | rfl | rfl | rfl | rfl | rfl | rfl <;> (intro e; exact absurd e.symm (by assumption))
end Go.Proofs.YtojlappgmckokaaDoor
