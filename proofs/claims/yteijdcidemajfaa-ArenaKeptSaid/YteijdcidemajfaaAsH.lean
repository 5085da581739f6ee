/- Arena: Take, where no class is so great, or the size is none. -/
import Derived.Test.YteijdcidemajfaaAsG
namespace Go.Proofs.Yteijdcidemajfaa
open Go.RowKit
set_option linter.unusedVariables false
variable {R : Nat → Option Role} {K K' : Nat → Prop} {w w' W : World} {pb : Nat} {A : Ad} {P : Pl}
set_option maxRecDepth 100000 in
theorem take_size {i : Nat} {a : Arn} {size pk : Int} (hsz : I64 size) (h : PlR R K W pb A P) (ok : Ok P) (ha : P.ars[i]? = some (some a)) (hbad : size < 1 ∨ ¬ P.classFor size < P.cls.length) :
    Calls Try.prog 15 #[.pointer (some ⟨pb, 0, none⟩), .int .i64 (i : Int), .int .i64 size, .int .i64 pk] W fun e w' => e = .returned (.tuple #[.agg #[.int .i64 0, .int .i64 0, .int .i64 0], .int .i64 95]) ∧ Up W w' := by
  have na := ok.na
  have nc := ok.nc
  have HO : Hid (∀ w, Up W w → Calls Try.prog 33 #[.pointer (some ⟨pb, 0, none⟩), .int .i64 (i : Int)] w fun e w' => e = .returned (.tuple #[.pointer (some ⟨A.ar i, 0, none⟩), .int .i64 0]) ∧ w' = w) := fun w u => opened_yes (h.up u) ha (by have := (List.getElem?_eq_some_iff.1 ha).1; omega)
  have HI : Hid (∀ w q, Up W w → w.cell? ⟨q, 0, none⟩ = some (.int .i64 size) → Calls Try.prog 37 #[.slice (some ⟨A.cb, 0, none⟩) P.cls.length A.nc, .func (.func 38) #[] #[.pointer (some ⟨q, 0, none⟩)]] w fun e w' => e = .returned (.int .i64 (idxI (P.classFor size) P.cls.length)) ∧ Up w w') := fun w q u hq => classFor_any (h.up u) hq
  have HW : Hid (∀ w, Up W w → w.cell? ⟨pb, 0, none⟩ = some (.slice (some ⟨A.cb, 0, none⟩) P.cls.length A.nc)) := fun w u => heap_cell ((u.block _ (heap_at h.pool)).trans h.pool) rfl
  have hv : ∃ v, idxI (P.classFor size) P.cls.length = v ∧ (size < 1 ∨ v < 0) ∧ -1 ≤ v := by
    refine ⟨_, rfl, ?_, ?_⟩
    · rcases hbad with e | e
      · exact Or.inl e
      · right
        unfold idxI
        rw [if_neg e]
        decide
    · unfold idxI
      split <;> omega
  obtain ⟨v, hv1, hv2, hv3⟩ := hv
  rw [hv1] at HI
  obtain ⟨s1, s2⟩ := hsz
  clear h ok ha hbad hv1
  go_enter Try.func15, Try.ntmps15
  go_wp2_with fail
  have HU : Hid (Up W ((W.alloc (Obj.cells #[.int .i64 size] 3)).alloc (Obj.cells #[.int .i64 0, .int .i64 0, .int .i64 0] 38)) ∧ ((W.alloc (Obj.cells #[.int .i64 size] 3)).alloc (Obj.cells #[.int .i64 0, .int .i64 0, .int .i64 0] 38)).heap[W.heap.size + 1]? = some (.cells #[.int .i64 0, .int .i64 0, .int .i64 0] 38 (0, 0)) ∧ ((W.alloc (Obj.cells #[.int .i64 size] 3)).alloc (Obj.cells #[.int .i64 0, .int .i64 0, .int .i64 0] 38)).cell? ⟨W.heap.size, 0, none⟩ = some (.int .i64 size)) := ⟨((Up.refl W).alloc _).alloc _, heap_alloc2 W _ _, heap_cell ((Below.heap_alloc _ _ _ (by simp)).trans (heap_alloc_new W _)) rfl⟩
  generalize World.alloc (World.alloc W _) _ = w1 at HU ⊢
  generalize hrb : W.heap.size + 1 = rb at HU ⊢
  have HRB : Hid (W.heap.size + 1 = rb) := hrb
  clear hrb
  generalize W.heap.size = qb at HU ⊢
  refine (HO.out _ HU.out.1).mono ?_
  rintro e w' ⟨rfl, hw'⟩
  obtain rfl := hw'.symm
  clear HO
  have k0 := HW.out w1 HU.out.1
  go_wp2_with fail
  refine (HI.out _ _ HU.out.1 HU.out.2.2).mono ?_
  rintro e w2 ⟨rfl, uu⟩
  have H2 : Hid (Up W w2 ∧ w2.heap[rb]? = some (.cells #[.int .i64 0, .int .i64 0, .int .i64 0] 38 (0, 0))) := ⟨HU.out.1.trans uu, (uu.block _ (heap_at HU.out.2.1)).trans HU.out.2.1⟩
  have kq := cell_up uu HU.out.2.2
  clear uu HI HU k0 HW
  have fr := (Fr.refl rb w2).setRow (cs := #[.int .i64 0, .int .i64 0, .int .i64 0])
  have HE : Hid (Up W (w2.setRow rb #[.int .i64 0, .int .i64 0, .int .i64 0])) := Fr.up H2.out.1 (by have := HRB.out; omega) fr
  clear fr
  by_cases hs : size < 1
  · clear hv2
    go_wp2_with (refine wpList_store_rowTo rfl 38 _ _ rfl rfl rb #[.int .i64 0, .int .i64 0, .int .i64 0] rfl rfl 38 _ H2.out.2 (by kernel_rfl) rfl (by simp [Value.oneCell']) ?_)
    refine bodyPost_ret (v := .tuple #[.agg _, .int .i64 95]) (results_row_tmp Try.results15 _ _ _ 38 _ (0, 0) _ rfl (setRow_heap _ _ _ _ _ _ H2.out.2) Try.underlying38 rfl (by kernel_rfl)) rfl ⟨rfl, HE.out⟩
  · have hv4 : v < 0 := by omega
    clear hv2
    go_wp2_with (refine wpList_store_rowTo rfl 38 _ _ rfl rfl rb #[.int .i64 0, .int .i64 0, .int .i64 0] rfl rfl 38 _ H2.out.2 (by kernel_rfl) rfl (by simp [Value.oneCell']) ?_)
    refine bodyPost_ret (v := .tuple #[.agg _, .int .i64 95]) (results_row_tmp Try.results15 _ _ _ 38 _ (0, 0) _ rfl (setRow_heap _ _ _ _ _ _ H2.out.2) Try.underlying38 rfl (by kernel_rfl)) rfl ⟨rfl, HE.out⟩
end Go.Proofs.Yteijdcidemajfaa
