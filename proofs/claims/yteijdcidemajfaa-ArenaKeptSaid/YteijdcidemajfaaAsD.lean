/- Arena: Free; what an arena that is not open is told. -/
import Derived.Test.YteijdcidemajfaaAsC
namespace Go.Proofs.Yteijdcidemajfaa
open Go.Shelf Go.RowKit
set_option linter.unusedVariables false
variable {R : Nat → Option Role} {K K' : Nat → Prop} {w w' W : World} {pb : Nat} {A : Ad} {P : Pl}
def cloRenI : Go.Shelf.Ren := ⟨fun | 41 => 46 | n => n, fun | 22 => 92 | 23 => 3 | 4 => 4 | n => n, fun | n => n⟩
theorem cloI : Go.Proofs.SlLaysE0.n41 Try.prog cloRenI := {
  mixed := by kernel_rfl
  f41 := ⟨Try.f46.name, by decide, Try.func46.trans (congrArg some (by kernel_rfl))⟩
  t4 := Try.underlying4
  a4 := Try.isAgg4
  z4 := Try.sizeOf4
  v4 := Try.zeroValue4
  t22 := Try.underlying92
  a22 := Try.isAgg92
  z22 := Try.sizeOf92
  v22 := Try.zeroValue92 }
theorem cloneI_any {g n cap : Nat} {f : List Nat} (hf : f.length = n) (hn : n ≤ 4096) (hc : ∀ k, k < n → W.cell? ⟨g, 0 + k, none⟩ = (nums f)[k]?) :
    Calls Try.prog 46 #[.slice (some ⟨g, 0, none⟩) n cap] W fun e w' => ∃ g' cap', e = .returned (.slice (some ⟨g', 0, none⟩) n cap') ∧ W.heap.size ≤ g' ∧ w'.ownsRow 0 3 1 (.slice (some ⟨g', 0, none⟩) n cap') n (nums f) ∧ Up W w' := by
  refine (Go.Proofs.AnyE.slices_Clone cloI Try.t3 (.int .i64 0) 1 8 (by kernel_rfl) (by kernel_rfl) (by kernel_rfl) (by kernel_rfl) rfl (by decide) Try.sizeOf3 g 0 n cap (nums f) W (by rw [nums_len, hf]) (by unfold maxLen; omega) (by omega) (fun j u hj => ?_) (nums_one f)).mono ?_
  · have hjn : j < n := by
      have := (List.getElem?_eq_some_iff.1 hj).1
      rw [nums_len, hf] at this
      omega
    rw [hc j hjn]
    exact hj
  · rintro e w' ⟨v', h1, h2, h3, h4⟩
    rcases h2.2 with ⟨hv, _⟩ | ⟨g', cap', cur, hv, hbase, hg, hn', hcm, hcs, htk⟩
    · exact absurd hv h3
    · exact ⟨g', cap', by rw [h1, hv], hbase, ⟨h2.1, Or.inr ⟨g', cap', cur, rfl, Nat.zero_le _, hg, hn', hcm, hcs, htk⟩⟩, Up.ofBelow h4⟩
set_option maxRecDepth 100000 in
theorem free_ok {c : Nat} {x : Cls} (h : PlR R K W pb A P) (ok : Ok P) (hx : P.cls[c]? = some x) :
    Calls Try.prog 25 #[.pointer (some ⟨pb, 0, none⟩), .int .i64 (c : Int)] W fun e w' => ∃ v, e = .returned v ∧ w'.ownsRow 0 3 1 v x.free.length (nums x.free) ∧ Up W w' := by
  have hcl := (List.getElem?_eq_some_iff.1 hx).1
  have nc := ok.nc
  have hfm : x.free.length ≤ 512 := by
    have := (ok.pm c x hx).length_eq
    have h2 := (ok.my c x hx).1
    rw [List.length_append, List.length_range'] at this
    omega
  obtain ⟨f1, f2, f3⟩ := h.free c x hx
  obtain ⟨cs, c1, c2⟩ := h.cls
  have c3 := c2 c x hx
  have k0 : W.cell? ⟨pb, 0, none⟩ = some (.slice (some ⟨A.cb, 0, none⟩) P.cls.length A.nc) := heap_cell h.pool rfl
  have hnc1 := h.nc.1
  have hnc2 : A.nc ≤ 9223372036854775807 := by have := h.nc.2; unfold maxLen at this; omega
  have d1 : (c : Int) < (P.cls.length : Int) := by omega
  have d2 : ¬ (c : Int) < 0 := by omega
  have d3 : ¬ (P.cls.length : Int) ≤ (c : Int) := by omega
  rcases own_cases f1 with ⟨hv, hn, hxs⟩ | ⟨g, cap, hv, hc1, hc2, hg, hgo⟩
  · have k1 : W.cell? ⟨A.cb, c * 2 + 1, none⟩ = some (.slice none 0 0) := by
      have := c3.2
      rw [hv] at this
      exact heap_cell c1 this
    have HC : Hid (Calls Try.prog 46 #[.slice none 0 0] W fun e w' => e = .returned (.slice none 0 0) ∧ w' = W) := Go.Proofs.AnyE.slices_Clone_nil cloI 0 0 W
    have HE : Hid (W.ownsRow 0 3 1 (.slice none 0 0) x.free.length (nums x.free) ∧ Up W W) := ⟨hv ▸ f1, Up.refl W⟩
    clear h ok hx f1 f2 f3 c1 c2 c3 hv hn hxs
    go_enter Try.func25, Try.ntmps25
    go_wp2_with fail
    refine Calls.mono HC.out ?_
    rintro e w' ⟨rfl, hw'⟩
    obtain rfl := hw'.symm
    go_wp2_with fail
    go_ret
    exact ⟨_, by first | rfl | (simp; done), HE.out⟩
  · have k1 : W.cell? ⟨A.cb, c * 2 + 1, none⟩ = some (.slice (some ⟨g, 0, none⟩) x.free.length cap) := by
      have := c3.2
      rw [hv] at this
      exact heap_cell c1 this
    rw [hv] at f1
    have HC : Hid _ := cloneI_any (cap := cap) rfl (by omega) (fun k hk => own_cell f1 k (by omega))
    have hcm : cap ≤ 9223372036854775807 := by unfold maxLen at hc2; omega
    clear h ok hx f1 f2 f3 c1 c2 c3 hv hgo hc2
    go_enter Try.func25, Try.ntmps25
    go_wp2_with fail
    refine Calls.mono HC.out ?_
    rintro e w2 ⟨g', cap', rfl, hg', ho, uu⟩
    have HE : Hid (w2.ownsRow 0 3 1 (.slice (some ⟨g', 0, none⟩) x.free.length cap') x.free.length (nums x.free) ∧ Up W w2) := ⟨ho, uu⟩
    clear ho uu hg'
    go_wp2_with fail
    go_ret
    exact ⟨_, by first | rfl | (simp; done), HE.out⟩
set_option maxRecDepth 100000 in
theorem give_none {id b : Int} (hid : I64 id) (hb : I64 b) (h : PlR R K W pb A P) (ok : Ok P) (ha : P.arn id = none) :
    Calls Try.prog 18 #[.pointer (some ⟨pb, 0, none⟩), .int .i64 id, .int .i64 b] W fun e w' => e = .returned (.int .i64 94) ∧ Up W w' := by
  have HH : Hid _ := held_none hid hb h ok ha
  clear h ok ha hb hid
  go_enter Try.func18, Try.ntmps18
  go_wp2_with fail
  refine Calls.mono HH.out ?_
  rintro e w2 ⟨rfl, u2⟩
  have H2 : Hid (Up W w2) := u2
  clear u2
  go_wp2_with fail
  go_ret
  exact ⟨by first | rfl | (simp; done), H2.out⟩
set_option maxRecDepth 100000 in
theorem leases_none {id : Int} (hid : I64 id) (h : PlR R K W pb A P) (ok : Ok P) (ha : P.arn id = none) :
    Calls Try.prog 17 #[.pointer (some ⟨pb, 0, none⟩), .int .i64 id] W fun e w' => e = .returned (.slice none 0 0) ∧ w' = W := by
  have na := ok.na
  have HO : Hid _ := opened_no hid h ha (by omega)
  clear h ok ha hid
  go_enter Try.func17, Try.ntmps17
  go_wp2_with fail
  refine Calls.mono HO.out ?_
  rintro e w' ⟨rfl, hw'⟩
  obtain rfl := hw'.symm
  go_wp2_with fail
  go_ret
  exact ⟨by first | rfl | (simp; done), rfl⟩
set_option maxRecDepth 100000 in
theorem take_none {id size pk : Int} (hid : I64 id) (h : PlR R K W pb A P) (ok : Ok P) (ha : P.arn id = none) :
    Calls Try.prog 15 #[.pointer (some ⟨pb, 0, none⟩), .int .i64 id, .int .i64 size, .int .i64 pk] W fun e w' => e = .returned (.tuple #[.agg #[.int .i64 0, .int .i64 0, .int .i64 0], .int .i64 94]) ∧ Up W w' := by
  have na := ok.na
  have HO : Hid (∀ w, Up W w → Calls Try.prog 33 #[.pointer (some ⟨pb, 0, none⟩), .int .i64 id] w fun e w' => e = .returned (.tuple #[.pointer none, .int .i64 94]) ∧ w' = w) := fun w u => opened_no hid (h.up u) ha (by omega)
  clear h ok ha hid
  go_enter Try.func15, Try.ntmps15
  go_wp2_with fail
  have HU : Hid (Up W ((W.alloc (Obj.cells #[.int .i64 size] 3)).alloc (Obj.cells #[.int .i64 0, .int .i64 0, .int .i64 0] 38)) ∧ ((W.alloc (Obj.cells #[.int .i64 size] 3)).alloc (Obj.cells #[.int .i64 0, .int .i64 0, .int .i64 0] 38)).heap[W.heap.size + 1]? = some (.cells #[.int .i64 0, .int .i64 0, .int .i64 0] 38 (0, 0))) := ⟨((Up.refl W).alloc _).alloc _, heap_alloc2 W _ _⟩
  generalize World.alloc (World.alloc W _) _ = w1 at HU ⊢
  generalize hrb : W.heap.size + 1 = rb at HU ⊢
  have HRB : Hid (W.heap.size + 1 = rb) := hrb
  clear hrb
  refine (HO.out _ HU.out.1).mono ?_
  rintro e w' ⟨rfl, hw'⟩
  obtain rfl := hw'.symm
  go_wp2_with (refine wpList_store_rowTo rfl 38 _ _ rfl rfl rb #[.int .i64 0, .int .i64 0, .int .i64 0] rfl rfl 38 _ HU.out.2 (by kernel_rfl) rfl (by simp [Value.oneCell']) ?_)
  have fr := (Fr.refl rb w1).setRow (cs := #[.int .i64 0, .int .i64 0, .int .i64 0])
  refine bodyPost_ret (v := .tuple #[.agg _, .int .i64 94]) (results_row_tmp Try.results15 _ _ _ 38 _ (0, 0) _ rfl (setRow_heap _ _ _ _ _ _ HU.out.2) Try.underlying38 rfl (by kernel_rfl)) rfl ⟨rfl, ?_⟩
  exact Fr.up HU.out.1 (by have := HRB.out; omega) fr
end Go.Proofs.Yteijdcidemajfaa
