/- Sched: who is next, and where a number stands. -/
import Derived.Test.YtakciepfckdpfaaScE
namespace Go.Proofs.Ytakciepfckdpfaa
open Go.RowKit
set_option linter.unusedVariables false
set_option maxRecDepth 100000 in
set_option maxHeartbeats 1000000 in
theorem idxN_some {W : World} {g cap : Nat} {ls : List Mem} {q : Nat} {b : Int} (hle : ls.length ≤ cap) (hm : cap ≤ maxLen) (HG : Hid (∀ w, Up W w → ∀ j l, ls[j]? = some l → w.rangeAt g (j * 2) l.cells)) (h : W.cell? ⟨q, 0, none⟩ = some (.int .i64 b)) :
    Calls Try.prog 38 #[.slice (some ⟨g, 0, none⟩) ls.length cap, .func (.func 41) #[] #[.pointer (some ⟨q, 0, none⟩)]] W fun e w' => e = .returned (.int .i64 (idxI (ls.findIdx (fun l => l.id == b)) ls.length)) ∧ Up W w' := by
  have HC : Hid (∀ w, Up W w → ∀ l : Mem, Calls Try.prog 41 #[.agg l.cells.toArray, .pointer (some ⟨q, 0, none⟩)] w fun e w' => e = .returned (.bool (l.id == b)) ∧ Up w w') := fun w u l => named1_any ((u.cell (World.block_lt_of_cell? _ _ h)).trans h)
  have hm2 : cap ≤ 9223372036854775807 := by unfold maxLen at hm; omega
  have H0 : Hid (Up W W) := Up.refl W
  clear h hm
  go_enter Try.func38, Try.ntmps38
  go_wp2_with fail
  go_loopw [5, 8] (fun _ K wr => ∃ k : Nat, k ≤ ls.length ∧ K = .int .i64 k ∧ Hid (∀ (j : Nat) (y : Mem), j < k → ls[j]? = some y → (fun l : Mem => l.id == b) y = false) ∧ Hid (Up W wr)) (fun _ K _ => ls.length - (intOf K).toNat)
  case atStart => exact ⟨0, Nat.zero_le _, rfl, fun j y hj => absurd hj (by omega), H0⟩
  case round =>
    clear H0
    obtain ⟨k, hk, rfl, A, M0⟩ := hrel
    by_cases hlt : k < ls.length
    · have d1 : (k : Int) < (ls.length : Int) := by omega
      obtain ⟨l, hy⟩ : ∃ y, ls[k]? = some y := ⟨_, List.getElem?_eq_getElem hlt⟩
      have HY : Hid (ls[k]? = some l) := hy
      have HR : Hid _ := HG.out wr M0.out k l hy
      clear hy
      have HQ : Hid _ := HC.out wr M0.out l
      generalize hp : (l.id == b) = t at HQ
      have HP : Hid ((l.id == b) = t) := hp
      clear hp
      cases t
      · go_wp2_with (refine wpList_load_mid rfl 69 _ rfl g (k * 2) rfl l.cells _ HR.out Try.underlying69 rfl (by kernel_rfl) ?_)
        refine Calls.mono HQ.out ?_
        rintro e w2 ⟨rfl, u2⟩
        have H2 : Hid (Up W w2) := M0.out.trans u2
        clear u2 HQ M0 HR
        go_wp2_with fail
        refine ⟨⟨k + 1, by omega, by first | rfl | (simp; done), fun j z hj hz => ?_, H2⟩, ?_⟩
        · by_cases e : j = k
          · subst e
            rw [HY.out] at hz
            injection hz with hz
            subst hz
            exact HP.out
          · exact A.out j z (by omega) hz
        · simp [intOf]
          omega
      · have HF : Hid (ls.findIdx (fun l => l.id == b) = k) := findIdx_hit (p := fun l : Mem => l.id == b) HY.out HP.out A.out
        go_wp2_with (refine wpList_load_mid rfl 69 _ rfl g (k * 2) rfl l.cells _ HR.out Try.underlying69 rfl (by kernel_rfl) ?_)
        refine Calls.mono HQ.out ?_
        rintro e w2 ⟨rfl, u2⟩
        have H2 : Hid (Up W w2) := M0.out.trans u2
        clear u2 HQ M0 HR
        go_wp2_with fail
        go_ret
        exact ⟨by rw [HF.out]; unfold idxI; rw [if_pos hlt]; rfl, H2.out⟩
    · have d1 : ¬ (k : Int) < (ls.length : Int) := by omega
      have HF : Hid (ls.findIdx (fun l => l.id == b) = ls.length) := findIdx_none (p := fun l : Mem => l.id == b) fun j y hj => A.out j y (by have := (List.getElem?_eq_some_iff.1 hj).1; omega) hj
      go_wp2_with fail
      go_ret
      exact ⟨by rw [HF.out]; unfold idxI; rw [if_neg (by omega)]; rfl, M0.out⟩
set_option maxRecDepth 100000 in
theorem idxN_any {W : World} {v : Value} {ls : List Mem} {q : Nat} {b : Int} (own : W.ownsRow 0 69 2 v ls.length (memCells ls)) (h : W.cell? ⟨q, 0, none⟩ = some (.int .i64 b)) :
    Calls Try.prog 38 #[v, .func (.func 41) #[] #[.pointer (some ⟨q, 0, none⟩)]] W fun e w' => e = .returned (.int .i64 (idxI (ls.findIdx (fun l => l.id == b)) ls.length)) ∧ Up W w' := by
  rcases own_cases own with ⟨rfl, hn, _⟩ | ⟨g, cap, rfl, hc, hm, _⟩
  · obtain rfl := List.length_eq_zero_iff.1 hn
    clear own hn h
    go_enter Try.func38, Try.ntmps38
    go_wp2
    go_loop [5, 8] (fun _ k => k = .int .i64 0) (fun _ _ => 0)
    case atStart => exact rfl
    case round =>
      obtain rfl := hrel
      go_wp2
      go_ret
      exact ⟨rfl, Up.refl W⟩
  · exact idxN_some hc hm (fun w u j l hj => mem_range (ownsRow_up own u) hj) h
set_option maxRecDepth 100000 in
set_option maxHeartbeats 1000000 in
theorem idxW_some {W : World} {g cap : Nat} {ls : List Mem} {q : Nat} {sb sg sc : Nat} {rv : Value} {ss : List Mem} (hle : ls.length ≤ cap) (hm : cap ≤ maxLen) (HG : Hid (∀ w, Up W w → ∀ j l, ls[j]? = some l → w.rangeAt g (j * 2) l.cells)) (h : W.cell? ⟨q, 0, none⟩ = some (.pointer (some ⟨sb, 0, none⟩)) ∧ W.heap[sb]? = some (.cells #[rv, .slice (some ⟨sg, 0, none⟩) ss.length sc] 64 (0, 0)) ∧ W.ownsRow 0 60 2 (.slice (some ⟨sg, 0, none⟩) ss.length sc) ss.length (memCells ss)) :
    Calls Try.prog 38 #[.slice (some ⟨g, 0, none⟩) ls.length cap, .func (.func 39) #[] #[.pointer (some ⟨q, 0, none⟩)]] W fun e w' => e = .returned (.int .i64 (idxI (ls.findIdx (fun l => l.rd && !ss.any (fun t => t.id == l.id && t.rd))) ls.length)) ∧ Up W w' := by
  have HC : Hid (∀ w, Up W w → ∀ l : Mem, Calls Try.prog 39 #[.agg l.cells.toArray, .pointer (some ⟨q, 0, none⟩)] w fun e w' => e = .returned (.bool (l.rd && !ss.any (fun t => t.id == l.id && t.rd))) ∧ Up w w') := fun w u l => waiting1_any ⟨(u.cell (World.block_lt_of_cell? _ _ h.1)).trans h.1, (u.block _ (heap_at h.2.1)).trans h.2.1, ownsRow_up h.2.2 u⟩
  have hm2 : cap ≤ 9223372036854775807 := by unfold maxLen at hm; omega
  have H0 : Hid (Up W W) := Up.refl W
  clear h hm
  go_enter Try.func38, Try.ntmps38
  go_wp2_with fail
  go_loopw [5, 8] (fun _ K wr => ∃ k : Nat, k ≤ ls.length ∧ K = .int .i64 k ∧ Hid (∀ (j : Nat) (y : Mem), j < k → ls[j]? = some y → (fun l : Mem => l.rd && !ss.any (fun t => t.id == l.id && t.rd)) y = false) ∧ Hid (Up W wr)) (fun _ K _ => ls.length - (intOf K).toNat)
  case atStart => exact ⟨0, Nat.zero_le _, rfl, fun j y hj => absurd hj (by omega), H0⟩
  case round =>
    clear H0
    obtain ⟨k, hk, rfl, A, M0⟩ := hrel
    by_cases hlt : k < ls.length
    · have d1 : (k : Int) < (ls.length : Int) := by omega
      obtain ⟨l, hy⟩ : ∃ y, ls[k]? = some y := ⟨_, List.getElem?_eq_getElem hlt⟩
      have HY : Hid (ls[k]? = some l) := hy
      have HR : Hid _ := HG.out wr M0.out k l hy
      clear hy
      have HQ : Hid _ := HC.out wr M0.out l
      generalize hp : (l.rd && !ss.any (fun t => t.id == l.id && t.rd)) = t at HQ
      have HP : Hid ((l.rd && !ss.any (fun t => t.id == l.id && t.rd)) = t) := hp
      clear hp
      cases t
      · go_wp2_with (refine wpList_load_mid rfl 69 _ rfl g (k * 2) rfl l.cells _ HR.out Try.underlying69 rfl (by kernel_rfl) ?_)
        refine Calls.mono HQ.out ?_
        rintro e w2 ⟨rfl, u2⟩
        have H2 : Hid (Up W w2) := M0.out.trans u2
        clear u2 HQ M0 HR
        go_wp2_with fail
        refine ⟨⟨k + 1, by omega, by first | rfl | (simp; done), fun j z hj hz => ?_, H2⟩, ?_⟩
        · by_cases e : j = k
          · subst e
            rw [HY.out] at hz
            injection hz with hz
            subst hz
            exact HP.out
          · exact A.out j z (by omega) hz
        · simp [intOf]
          omega
      · have HF : Hid (ls.findIdx (fun l => l.rd && !ss.any (fun t => t.id == l.id && t.rd)) = k) := findIdx_hit (p := fun l : Mem => l.rd && !ss.any (fun t => t.id == l.id && t.rd)) HY.out HP.out A.out
        go_wp2_with (refine wpList_load_mid rfl 69 _ rfl g (k * 2) rfl l.cells _ HR.out Try.underlying69 rfl (by kernel_rfl) ?_)
        refine Calls.mono HQ.out ?_
        rintro e w2 ⟨rfl, u2⟩
        have H2 : Hid (Up W w2) := M0.out.trans u2
        clear u2 HQ M0 HR
        go_wp2_with fail
        go_ret
        exact ⟨by rw [HF.out]; unfold idxI; rw [if_pos hlt]; rfl, H2.out⟩
    · have d1 : ¬ (k : Int) < (ls.length : Int) := by omega
      have HF : Hid (ls.findIdx (fun l => l.rd && !ss.any (fun t => t.id == l.id && t.rd)) = ls.length) := findIdx_none (p := fun l : Mem => l.rd && !ss.any (fun t => t.id == l.id && t.rd)) fun j y hj => A.out j y (by have := (List.getElem?_eq_some_iff.1 hj).1; omega) hj
      go_wp2_with fail
      go_ret
      exact ⟨by rw [HF.out]; unfold idxI; rw [if_neg (by omega)]; rfl, M0.out⟩
set_option maxRecDepth 100000 in
theorem idxW_any {W : World} {v : Value} {ls : List Mem} {q : Nat} {sb sg sc : Nat} {rv : Value} {ss : List Mem} (own : W.ownsRow 0 69 2 v ls.length (memCells ls)) (h : W.cell? ⟨q, 0, none⟩ = some (.pointer (some ⟨sb, 0, none⟩)) ∧ W.heap[sb]? = some (.cells #[rv, .slice (some ⟨sg, 0, none⟩) ss.length sc] 64 (0, 0)) ∧ W.ownsRow 0 60 2 (.slice (some ⟨sg, 0, none⟩) ss.length sc) ss.length (memCells ss)) :
    Calls Try.prog 38 #[v, .func (.func 39) #[] #[.pointer (some ⟨q, 0, none⟩)]] W fun e w' => e = .returned (.int .i64 (idxI (ls.findIdx (fun l => l.rd && !ss.any (fun t => t.id == l.id && t.rd))) ls.length)) ∧ Up W w' := by
  rcases own_cases own with ⟨rfl, hn, _⟩ | ⟨g, cap, rfl, hc, hm, _⟩
  · obtain rfl := List.length_eq_zero_iff.1 hn
    clear own hn h
    go_enter Try.func38, Try.ntmps38
    go_wp2
    go_loop [5, 8] (fun _ k => k = .int .i64 0) (fun _ _ => 0)
    case atStart => exact rfl
    case round =>
      obtain rfl := hrel
      go_wp2
      go_ret
      exact ⟨rfl, Up.refl W⟩
  · exact idxW_some hc hm (fun w u j l hj => mem_range (ownsRow_up own u) hj) h
set_option maxRecDepth 100000 in
theorem named_any {W : World} {b : Int} :
    Calls Try.prog 28 #[.int .i64 b] W fun e w' => ∃ q, e = .returned (.func (.func 41) #[] #[.pointer (some ⟨q, 0, none⟩)]) ∧ w'.cell? ⟨q, 0, none⟩ = some (.int .i64 b) ∧ Up W w' := by
  have H0 : Hid (∀ w : World, w = W.alloc (.cells #[.int .i64 b] 3) → w.cell? ⟨W.heap.size, 0, none⟩ = some (.int .i64 b) ∧ Up W w) := fun w hw => by
    subst hw
    exact ⟨heap_cell (heap_alloc_new W _) rfl, (Up.refl W).alloc _⟩
  go_enter Try.func28, Try.ntmps28
  go_wp2_with fail
  go_ret
  exact ⟨_, rfl, H0.out _ rfl⟩
set_option maxRecDepth 100000 in
theorem firstN_any {W : World} {sb q : Nat} {rv s1 : Value} {ls : List Mem} {sg sc : Nat} {b : Int} (hs : W.heap[sb]? = some (.cells #[rv, s1] 64 (0, 0))) (own : W.ownsRow 0 69 2 rv ls.length (memCells ls)) (hq : W.cell? ⟨q, 0, none⟩ = some (.int .i64 b)) :
    Calls Try.prog 25 #[.pointer (some ⟨sb, 0, none⟩), .func (.func 41) #[] #[.pointer (some ⟨q, 0, none⟩)]] W fun e w' => e = .returned (.int .i64 (idxI (ls.findIdx (fun l => l.id == b)) ls.length)) ∧ Up W w' := by
  have HI : Hid _ := idxN_any own hq
  have k0 : W.cell? ⟨sb, 0, none⟩ = some rv := heap_cell hs rfl
  obtain ⟨va, vn, vc, rfl⟩ := own_slice3 own
  clear own hs hq
  generalize idxI (ls.findIdx (fun l => l.id == b)) ls.length = r at HI ⊢
  go_enter Try.func25, Try.ntmps25
  go_wp2_with fail
  refine Calls.mono HI.out ?_
  rintro e w2 ⟨rfl, u2⟩
  have H2 : Hid (Up W w2) := u2
  clear u2
  go_wp2_with fail
  go_ret
  exact ⟨by first | rfl | (simp; done), H2.out⟩
set_option maxRecDepth 100000 in
theorem waiting_any {W : World} {sb : Nat} :
    Calls Try.prog 26 #[.pointer (some ⟨sb, 0, none⟩)] W fun e w' => ∃ q, e = .returned (.func (.func 39) #[] #[.pointer (some ⟨q, 0, none⟩)]) ∧ w'.cell? ⟨q, 0, none⟩ = some (.pointer (some ⟨sb, 0, none⟩)) ∧ Up W w' := by
  have H0 : Hid (∀ w : World, w = W.alloc (.cells #[.pointer (some ⟨sb, 0, none⟩)] 25) → w.cell? ⟨W.heap.size, 0, none⟩ = some (.pointer (some ⟨sb, 0, none⟩)) ∧ Up W w) := fun w hw => by
    subst hw
    exact ⟨heap_cell (heap_alloc_new W _) rfl, (Up.refl W).alloc _⟩
  go_enter Try.func26, Try.ntmps26
  go_wp2_with fail
  go_ret
  exact ⟨_, rfl, H0.out _ rfl⟩
set_option maxRecDepth 100000 in
theorem firstW_any {W : World} {sb q : Nat} {rv s1 : Value} {ls ss : List Mem} {sg sc : Nat}  (hs : W.heap[sb]? = some (.cells #[rv, .slice (some ⟨sg, 0, none⟩) ss.length sc] 64 (0, 0))) (own : W.ownsRow 0 69 2 rv ls.length (memCells ls)) (ows : W.ownsRow 0 60 2 (.slice (some ⟨sg, 0, none⟩) ss.length sc) ss.length (memCells ss)) (hq : W.cell? ⟨q, 0, none⟩ = some (.pointer (some ⟨sb, 0, none⟩))) :
    Calls Try.prog 25 #[.pointer (some ⟨sb, 0, none⟩), .func (.func 39) #[] #[.pointer (some ⟨q, 0, none⟩)]] W fun e w' => e = .returned (.int .i64 (idxI (ls.findIdx (fun l => l.rd && !ss.any (fun t => t.id == l.id && t.rd))) ls.length)) ∧ Up W w' := by
  have HI : Hid _ := idxW_any own ⟨hq, hs, ows⟩
  have k0 : W.cell? ⟨sb, 0, none⟩ = some rv := heap_cell hs rfl
  obtain ⟨va, vn, vc, rfl⟩ := own_slice3 own
  clear own hs hq ows
  generalize idxI (ls.findIdx (fun l => l.rd && !ss.any (fun t => t.id == l.id && t.rd))) ls.length = r at HI ⊢
  go_enter Try.func25, Try.ntmps25
  go_wp2_with fail
  refine Calls.mono HI.out ?_
  rintro e w2 ⟨rfl, u2⟩
  have H2 : Hid (Up W w2) := u2
  clear u2
  go_wp2_with fail
  go_ret
  exact ⟨by first | rfl | (simp; done), H2.out⟩
end Go.Proofs.Ytakciepfckdpfaa
